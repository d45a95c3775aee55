import PyProof.Rows.All
import Wide.All
import OpenK.AllK
import Wide.FinOn
import Lean
import PyProof.EqAt
import PyProof.EqKinds
import PyProof.TupleCall
import KE.KTryMore
import PyProof.P3Statements
import PySem.Challenge.RW_oddjoins_k09_even_sets_as_rings
set_option Elab.async false
set_option linter.all false
set_option maxRecDepth 100000
/-! THE HAND LAYER, for ints, bools, texts, own classes, LISTS and tuples (index, slices, in, append, pop ..), calls, loops. Paste it whole ahead of your own text; what your proof does not reach may be deleted. -/
namespace L2
open PySem PySem.Spec PyProof.Rows

/-- a key: an int or a str -/
abbrev Key := Sum Int Str
def keyIs : Key → Value → Bool
  | .inl k, v => Value.isInt k v
  | .inr x, v => Value.isStrOf x v
def keyH (w : World) : Key → Int
  | .inl k => hashInt k
  | .inr x => hashStr w x
theorem keyIs_shape : ∀ {k : Key} {v : Value}, keyIs k v = true → (∃ i t, k = Sum.inl i ∧ v = Value.int i t) ∨ (∃ x t, k = Sum.inr x ∧ v = Value.str x t)
  | .inl i, v, h => by
    obtain ⟨t, e⟩ := Value.isInt_shape (k := i) (v := v) h
    exact .inl ⟨i, t, rfl, e⟩
  | .inr x, v, h => by
    obtain ⟨t, e⟩ := Value.isStrOf_shape (x := x) (v := v) h
    exact .inr ⟨x, t, rfl, e⟩
theorem key_ll (a b : Int) : decide ((Sum.inl a : Key) = Sum.inl b) = (a == b) := by
  by_cases e : a = b
  · subst e; simp
  · have h : ¬ (Sum.inl a : Key) = Sum.inl b := fun q => e (Sum.inl.inj q)
    rw [decide_eq_false h]
    exact (beq_eq_false_iff_ne.mpr e).symm
theorem key_rr (a b : Str) : decide ((Sum.inr a : Key) = Sum.inr b) = decide (a = b) := by
  by_cases e : a = b
  · subst e; simp
  · have h : ¬ (Sum.inr a : Key) = Sum.inr b := fun q => e (Sum.inr.inj q)
    rw [decide_eq_false h, decide_eq_false e]
theorem key_lr (a : Int) (b : Str) : decide ((Sum.inl a : Key) = Sum.inr b) = false := decide_eq_false (fun q => nomatch q)
theorem key_rl (a : Str) (b : Int) : decide ((Sum.inr a : Key) = Sum.inl b) = false := decide_eq_false (fun q => nomatch q)

def mixKind (prog : Program) (w : World) : PySem.KeyKind prog w Key where
  is := keyIs
  hash := keyH w
  inj := fun v a b ha hb => by
    rcases keyIs_shape ha with ⟨i, t, rfl, rfl⟩ | ⟨x, t, rfl, rfl⟩
    · rcases keyIs_shape hb with ⟨j, u, rfl, e⟩ | ⟨y, u, rfl, e⟩
      · injection e with e1 _; rw [e1]
      · exact nomatch e
    · rcases keyIs_shape hb with ⟨j, u, rfl, e⟩ | ⟨y, u, rfl, e⟩
      · exact nomatch e
      · injection e with e1 _; rw [e1]
  byValue := fun k v h => by
    rcases keyIs_shape h with ⟨i, t, rfl, rfl⟩ | ⟨x, t, rfl, rfl⟩ <;> rfl
  pyHash := fun hv h => by
    rcases keyIs_shape hv with ⟨i, t, rfl, rfl⟩ | ⟨x, t, rfl, rfl⟩
    · exact wpAny_pyHash_int h
    · exact wpAny_pyHash_str h
  eqBool := fun hu hv h => by
    rcases keyIs_shape hu with ⟨i, t, rfl, rfl⟩ | ⟨x, t, rfl, rfl⟩
    · rcases keyIs_shape hv with ⟨j, u, rfl, rfl⟩ | ⟨y, u, rfl, rfl⟩
      · rw [key_ll] at h; exact wpAny_eqBool_int h
      · rw [key_lr] at h; exact SeqAt.EqAt.int_str i t y u _ _ _ _ h
    · rcases keyIs_shape hv with ⟨j, u, rfl, rfl⟩ | ⟨y, u, rfl, rfl⟩
      · rw [key_rl] at h; exact SeqAt.EqAt.str_int x t j u _ _ _ _ h
      · rw [key_rr] at h; exact wpAny_eqBool_str h
  «strs» := fun k x t v h => by
    rcases keyIs_shape h with ⟨i, u, rfl, e⟩ | ⟨y, u, rfl, e⟩
    · exact nomatch e
    · injection e with e1 _
      subst e1
      cases v <;> rfl

end L2

namespace L2
open PySem PySem.Spec PyProof.Rows

/-- a value, without the heap -/
inductive V where
  | non | bl (b : Bool) | int (i : Int) | str (x : Str) | byt (b : Array UInt8) | flt (b : UInt64) | ref (a : Addr) | ty (n : String)
  deriving DecidableEq

def RelV : V → Value → Prop
  | .non, u => u = Value.none
  | .bl b, u => u = Value.bool b
  | .int i, u => ∃ t, u = Value.int i t
  | .str x, u => ∃ t, u = Value.str x t
  | .byt b, u => ∃ t, u = Value.bytes b t
  | .flt b, u => ∃ t, u = Value.float b t
  | .ref a, u => u = Value.ref a
  | .ty n, u => u = Value.type n

abbrev Vals : List V → List Value → Prop := Paired RelV
theorem Vals.length {xs : List V} {us : List Value} (r : Vals xs us) : xs.length = us.length := Paired.length r
theorem Vals.get : ∀ {xs : List V} {us : List Value} {i : Nat} {x : V}, Vals xs us → xs[i]? = some x → ∃ u, us[i]? = some u ∧ RelV x u
  | _, _, _, _, .nil, e => by simp at e
  | _, _, 0, _, .cons r _, e => by simp at e; subst e; exact ⟨_, rfl, r⟩
  | _, _, i + 1, x, .cons _ t, e => by
    obtain ⟨u, h1, h2⟩ := Vals.get (i := i) (x := x) t (by simpa using e)
    exact ⟨u, by simpa using h1, h2⟩
theorem Vals.set {x : V} {u : Value} (r : RelV x u) : ∀ {xs : List V} {us : List Value} (i : Nat), Vals xs us → Vals (xs.set i x) (us.set i u)
  | _, _, _, .nil => .nil
  | _, _, 0, .cons _ t => .cons r t
  | _, _, i + 1, .cons q t => .cons q (Vals.set r i t)
theorem Vals.append : ∀ {xs ys : List V} {us ws : List Value}, Vals xs us → Vals ys ws → Vals (xs ++ ys) (us ++ ws)
  | _, _, _, _, .nil, s => s
  | _, _, _, _, .cons r t, s => .cons r (Vals.append t s)
theorem Vals.take : ∀ {xs : List V} {us : List Value} (n : Nat), Vals xs us → Vals (xs.take n) (us.take n)
  | _, _, 0, _ => .nil
  | _, _, _ + 1, .nil => .nil
  | _, _, n + 1, .cons r t => .cons r (Vals.take n t)
theorem Vals.drop : ∀ {xs : List V} {us : List Value} (n : Nat), Vals xs us → Vals (xs.drop n) (us.drop n)
  | _, _, 0, r => r
  | _, _, _ + 1, .nil => .nil
  | _, _, n + 1, .cons _ t => Vals.drop n t
def RelO : Option V → Option Value → Prop
  | some v, some u => RelV v u
  | none, none => True
  | _, _ => False
def KV {κ : Type} : List (κ × V) → List (κ × Value) → Prop := Paired fun (p : κ × V) (q : κ × Value) => p.1 = q.1 ∧ RelV p.2 q.2

/-- a key of a dict (00_mix): an int or a text -/
def kV : Key → V
  | .inl i => .int i
  | .inr x => .str x

/-- what stands at a tracked address -/
inductive HO where
  /-- a list -/
  | lst (xs : List V)
  /-- a tuple (never changes) -/
  | tup (xs : List V)
  /-- a dict whose keys are ints and texts; one whose keys are tuples of ints and texts (the empty one is both) -/
  | dK (kvs : List (Key × V)) | dT (kvs : List (List Key × V))
  /-- a set of ints: its members, its size -/
  | set (S : Int → Bool) (n : Nat)
  /-- an instance of the class at C, its dict at dx, its attributes -/
  | ins (C dx : Addr) (fs : List (Str × V))
  /-- the dict of the instance at x -/
  | own (x : Addr)
  /-- the dict of an exception -/
  | xd (fs : List (Str × V))
  /-- a bound method, f of x -/
  | met (f x : Addr)
  /-- a range object lo, lo + 1, .. below hi -/
  | rng (lo hi : Int)
  /-- a thing that is known to the object (the script; a dict while a loop walks it): read, never written while it is so -/
  | frz (o : Obj) (u : HO)
  /-- a code object's table -/
  | tbl (ps : Array Value)
  /-- any other thing, by what is true of its one object (a def of one's own: SetO a S n := HO.ext fun h => ..) -/
  | ext (φ : Heap → Prop)

abbrev Hp := Addr → Option HO
def upd (H : Hp) (a : Addr) (o : HO) : Hp := fun b => if b = a then some o else H b
theorem upd_same {H : Hp} {a : Addr} {o : HO} : upd H a o a = some o := by unfold upd; rw [if_pos rfl]
theorem upd_ne {H : Hp} {a b : Addr} {o : HO} (h : b ≠ a) : upd H a o b = H b := by unfold upd; rw [if_neg h]
theorem ne_of_none {H : Hp} {a b : Addr} {o : HO} (h : H a = some o) (h' : H b = none) : a ≠ b := by
  intro e; subst e; rw [h] at h'; cases h'

section
variable (P : Program) (w : World)
def ObjOk (H : Hp) (h : Heap) (a : Addr) : HO → Prop
  | .lst xs => xs.length ≤ sizeLine ∧ ∃ (its : List Value) (n : Nat), Vals xs its ∧ h.get? a = some { cls := .type "list", data := .seq its.toArray n }
  | .tup xs => xs.length ≤ sizeLine ∧ ∃ its : List Value, Vals xs its ∧ IsTup h a its.toArray
  | .dK kvs => kvs.length ≤ sizeLine ∧ (a == sysModules) = false ∧ ∃ vs, KV kvs vs ∧ h.DictOf (mixKind P w) a vs
  | .dT kvs => kvs.length ≤ sizeLine ∧ (a == sysModules) = false ∧ ∃ xs : List (List Key × Addr × Value),
      Paired (fun (p : List Key × V) (q : List Key × Addr × Value) => p.1 = q.1 ∧ H q.2.1 = some (.tup (p.1.map kV)) ∧ RelV p.2 q.2.2) kvs xs ∧
      ∃ o es ep, h.get? a = some o ∧ o.ExactDict ∧ o.data = .dict es ep ∧ es.toList = xs.map (entryOfKey (tupleKind (mixKind P w))) ∧ (xs.map (·.1)).Nodup
  | .set S n => h.SetOf (intKind P w) a S n
  | .ins C dx fs => H dx = some (.own a) ∧ fs.length ≤ 1000 ∧ dx ≠ a ∧ h.get? a = some (PySem.W.instObj C dx) ∧
      ∃ mA, h.Ns1 dx mA ∧ (∀ f, RelO (fs.lookup f) (mA f)) ∧ PySem.Within mA (fs.map (·.1))
  | .own _ => ∃ o, h.get? a = some o
  | .xd fs => ∃ mA, h.Ns1 a mA ∧ ∀ f, RelO (fs.lookup f) (mA f)
  | .rng lo hi => ∃ t u v, h.get? a = some { cls := .type "range", data := .fields #[.int lo t, .int hi u, .int 1 v] }
  | .frz o u => h.get? a = some o ∧ ObjOk H h a u
  | .tbl ps => h.get? a = some { cls := .none, data := .fields ps }
  | .met f x => h.get? a = some (PySem.W.methodObj (.ref f) (.ref x))
  | .ext φ => φ h ∧ (∃ o, h.get? a = some o) ∧ ∀ h1 h2 : Heap, φ h1 → (∀ o, h1.get? a = some o → h2.get? a = some o) → φ h2
/-- the abstract heap is held -/
def HOk (H : Hp) (h : Heap) : Prop := ∀ a o, H a = some o → ObjOk P w H h a o
end

section
variable {P : Program} {w : World} {H H' : Hp} {h h' : Heap} {a : Addr} {o : HO}
theorem ObjOk.lt (x : ObjOk P w H h a o) : a < h.objs.size := by
  cases o with
  | lst xs => obtain ⟨_, _, _, _, e⟩ := x; exact Heap.lt_size e
  | tup xs => obtain ⟨_, _, _, p⟩ := x; exact p.lt
  | dK kvs => obtain ⟨_, _, _, _, o, _, _, e, _⟩ := x; exact Heap.lt_size e
  | dT kvs => obtain ⟨_, _, _, _, o, _, _, e, _⟩ := x; exact Heap.lt_size e
  | set S n => obtain ⟨o, _, _, _, e, _⟩ := x; exact Heap.lt_size e
  | ins C dx fs => obtain ⟨_, _, _, e, _⟩ := x; exact Heap.lt_size e
  | own y => obtain ⟨_, e⟩ := x; exact Heap.lt_size e
  | xd fs => obtain ⟨_, ⟨_, _, _, e, _⟩, _⟩ := x; exact Heap.lt_size e
  | rng lo hi => obtain ⟨_, _, _, e⟩ := x; exact Heap.lt_size e
  | frz ob u => obtain ⟨e, _⟩ := x; exact Heap.lt_size e
  | tbl ps => exact Heap.lt_size (show h.get? a = some _ from x)
  | met f y => exact Heap.lt_size (show h.get? a = some _ from x)
  | ext φ => obtain ⟨_, ⟨_, e⟩, _⟩ := x; exact Heap.lt_size e
theorem Paired.mapP {α β : Type} {F G : α → β → Prop} : ∀ {l₁ : List α} {l₂ : List β}, Paired F l₁ l₂ → (∀ a b, F a b → G a b) → Paired G l₁ l₂
  | _, _, .nil, _ => .nil
  | _, _, .cons r t, f => .cons (f _ _ r) (Paired.mapP t f)
/-- what an object's description leans on: its own object, its own dict, the tuples -/
theorem ObjOk.stay (x : ObjOk P w H h a o) (k : ∀ b u, (b = a ∨ H b = some (.own a)) → h.get? b = some u → h'.get? b = some u)
    (ho : ∀ b, H b = some (.own a) → H' b = some (.own a)) (ht : ∀ b xs, H b = some (.tup xs) → H' b = some (.tup xs)) : ObjOk P w H' h' a o := by
  induction o with
  | lst xs => obtain ⟨z, its, n, r, e⟩ := x; exact ⟨z, its, n, r, k _ _ (.inl rfl) e⟩
  | tup xs => obtain ⟨z, its, r, ob, e, c⟩ := x; exact ⟨z, its, r, ob, k _ _ (.inl rfl) e, c⟩
  | dK kvs => obtain ⟨z, y, vs, r, ob, es, ep, e, c⟩ := x; exact ⟨z, y, vs, r, ob, es, ep, k _ _ (.inl rfl) e, c⟩
  | dT kvs =>
    obtain ⟨z, y, xs, r, ob, es, ep, e, c⟩ := x
    exact ⟨z, y, xs, Paired.mapP r fun p q z => ⟨z.1, ht _ _ z.2.1, z.2.2⟩, ob, es, ep, k _ _ (.inl rfl) e, c⟩
  | set S n => obtain ⟨ob, es, ep, t, e, c⟩ := x; exact ⟨ob, es, ep, t, k _ _ (.inl rfl) e, c⟩
  | ins C dx fs =>
    obtain ⟨d, z, ne, e, mA, ⟨od, es, ep, e2, c⟩, r⟩ := x
    exact ⟨ho _ d, z, ne, k _ _ (.inl rfl) e, mA, ⟨od, es, ep, k _ _ (.inr d) e2, c⟩, r⟩
  | own y => obtain ⟨ob, e⟩ := x; exact ⟨ob, k _ _ (.inl rfl) e⟩
  | xd fs => obtain ⟨mA, ⟨od, es, ep, e, c⟩, r⟩ := x; exact ⟨mA, ⟨od, es, ep, k _ _ (.inl rfl) e, c⟩, r⟩
  | rng lo hi => obtain ⟨t, u, v, e⟩ := x; exact ⟨t, u, v, k _ _ (.inl rfl) e⟩
  | frz ob u ih => obtain ⟨e, q⟩ := x; exact ⟨k _ _ (.inl rfl) e, ih q⟩
  | tbl ps =>
    have e : h.get? a = some { cls := .none, data := .fields ps } := x
    show h'.get? a = some { cls := .none, data := .fields ps }
    exact k a _ (.inl rfl) e
  | met f y =>
    have e : h.get? a = some (PySem.W.methodObj (.ref f) (.ref y)) := x
    show h'.get? a = some (PySem.W.methodObj (.ref f) (.ref y))
    exact k a _ (.inl rfl) e
  | ext φ => obtain ⟨p, ⟨o, e⟩, st⟩ := x; exact ⟨st _ _ p fun o q => k _ _ (.inl rfl) q, ⟨o, k _ _ (.inl rfl) e⟩, st⟩
theorem HOk.lt (x : HOk P w H h) (e : H a = some o) : a < h.objs.size := (x a o e).lt
theorem HOk.fresh (x : HOk P w H h) (e : h.objs.size ≤ a) : H a = none := by
  cases q : H a with
  | none => rfl
  | some u => exact absurd (Nat.lt_of_lt_of_le (x.lt q) e) (Nat.lt_irrefl _)
/-- every object of the heap is kept -/
theorem HOk.kept (x : HOk P w H h) (k : ∀ b u, h.get? b = some u → h'.get? b = some u) : HOk P w H h' := fun a o e =>
  (x a o e).stay (fun b u _ q => k b u q) (fun _ q => q) fun _ _ q => q
/-- a new object is laid and tracked -/
theorem HOk.laid (x : HOk P w H h) (k : ∀ b u, h.get? b = some u → h'.get? b = some u) (hp : h.objs.size ≤ a) (new : ObjOk P w (upd H a o) h' a o) : HOk P w (upd H a o) h' := fun b u e => by
  have hn := x.fresh hp
  by_cases hb : b = a
  · subst hb; rw [upd_same] at e; cases e; exact new
  · rw [upd_ne hb] at e
    exact (x b u e).stay (fun c v _ q => k c v q) (fun c q => by rw [upd_ne (ne_of_none q hn)]; exact q) fun c xs q => by rw [upd_ne (ne_of_none q hn)]; exact q
end

/-- what may be read as u: it is u, or a known u -/
def Rd (H : Hp) (a : Addr) (u : HO) : Prop := H a = some u ∨ ∃ o, H a = some (.frz o u)
theorem Rd.of {H : Hp} {a : Addr} {u : HO} (h : H a = some u) : Rd H a u := .inl h
theorem Rd.ok {P : Program} {w : World} {H : Hp} {h : Heap} {a : Addr} {u : HO} (r : Rd H a u) (x : HOk P w H h) : ObjOk P w H h a u := by
  rcases r with r | ⟨o, r⟩
  · exact x a u r
  · obtain ⟨_, q⟩ := x a _ r
    exact q
/-- what may be written -/
def Mut : Option HO → Prop
  | some (.lst _) => True
  | some (.dK _) => True
  | some (.dT _) => True
  | some (.set _ _) => True
  | some (.ins _ _ _) => True
  | some (.ext _) => True
  | _ => False
section
variable {P : Program} {w : World} {H : Hp} {h h' : Heap} {x e : Addr} {o' : HO}
/-- the object at e is changed: x itself, or the dict of the instance x -/
theorem HOk.write (ok : HOk P w H h) (mu : Mut (H x)) (he : e = x ∨ H e = some (.own x)) (k : ∀ b u, b ≠ e → h.get? b = some u → h'.get? b = some u) (heo : ∃ u, h'.get? e = some u)
    (new : ObjOk P w (upd H x o') h' x o') : HOk P w (upd H x o') h' := fun b u q => by
  have nown : ∀ c y, H c = some (.own y) → c ≠ x := fun c y r z => by subst z; rw [r] at mu; exact mu
  have ntup : ∀ c xs, H c = some (.tup xs) → c ≠ x := fun c xs r z => by subst z; rw [r] at mu; exact mu
  by_cases hb : b = x
  · subst hb; rw [upd_same] at q; cases q; exact new
  · rw [upd_ne hb] at q
    by_cases hbe : b = e
    · have q' : H b = some (.own x) := by
        rcases he with z | z
        · exact absurd (hbe.trans z) hb
        · rw [hbe]; exact z
      rw [q] at q'; cases q'
      obtain ⟨v, hv⟩ := heo
      exact ⟨v, by rw [hbe]; exact hv⟩
    · refine (ok b u q).stay (fun c v hc r => k c v ?_ r) (fun c r => by rw [upd_ne (nown c b r)]; exact r) fun c xs r => by rw [upd_ne (ntup c xs r)]; exact r
      rcases hc with rfl | hc
      · exact hbe
      · rintro rfl
        rcases he with z | z
        · exact nown c b hc z
        · rw [hc] at z; cases z; exact hb rfl
end

/-! ### kept unless tracked; of the frames at fs (the callers') the slots may change (an exception that passes writes there); of the records at ex (iterators) nothing is said -/
structure Un (fs ex : List Addr) (H H' : Hp) (h h' : Heap) : Prop where
  keep : ∀ b o, h.get? b = some o → H b = none → b ∉ fs → b ∉ ex → h'.get? b = some o
  slot : ∀ b o, h.get? b = some o → H b = none → b ∈ fs → b ∉ ex → ∃ sl, h'.get? b = some { o with slots := sl }
  free : ∀ b o, h.get? b = some o → H b = none → b ∉ ex → H' b = none
  there : ∀ b o, h.get? b = some o → b ∉ ex → ∃ o', h'.get? b = some o'
  tups : ∀ b xs, H b = some (.tup xs) → H' b = some (.tup xs)
  frzs : ∀ b o u, H b = some (.frz o u) → H' b = some (.frz o u)
  tbls : ∀ b ps, H b = some (.tbl ps) → ∃ more, H' b = some (.tbl (ps ++ more))
section
variable {fs fs' ex ex' : List Addr} {H H1 H2 : Hp} {h h1 h2 h' : Heap} {a x e : Addr} {o : HO}
theorem Un.any (u : Un fs ex H H1 h h1) {b : Addr} {ob : Obj} (q : h.get? b = some ob) (n : H b = none) (hx : b ∉ ex) : ∃ sl, h1.get? b = some { ob with slots := sl } := by
  by_cases hb : b ∈ fs
  · exact u.slot b ob q n hb hx
  · exact ⟨ob.slots, u.keep b ob q n hb hx⟩
theorem Un.trans (a : Un fs ex H H1 h h1) (b : Un fs ex H1 H2 h1 h2) : Un fs ex H H2 h h2 where
  keep := fun c ob q n hc hx => b.keep c ob (a.keep c ob q n hc hx) (a.free c ob q n hx) hc hx
  slot := fun c ob q n hc hx => by
    obtain ⟨sl, e1⟩ := a.slot c ob q n hc hx
    obtain ⟨sl', e2⟩ := b.slot c _ e1 (a.free c ob q n hx) hc hx
    exact ⟨sl', e2⟩
  free := fun c ob q n hx => by
    obtain ⟨o', e1⟩ := a.there c ob q hx
    exact b.free c o' e1 (a.free c ob q n hx) hx
  there := fun c ob q hx => by
    obtain ⟨o', e1⟩ := a.there c ob q hx
    exact b.there c o' e1 hx
  tups := fun c xs q => b.tups c xs (a.tups c xs q)
  frzs := fun c ob xs q => b.frzs c ob xs (a.frzs c ob xs q)
  tbls := fun c ps q => by
    obtain ⟨m1, e1⟩ := a.tbls c ps q
    obtain ⟨m2, e2⟩ := b.tbls c _ e1
    exact ⟨m1 ++ m2, by rw [e2, Array.append_assoc]⟩
theorem Un.kept (k : ∀ b u, h.get? b = some u → h'.get? b = some u) : Un fs ex H H h h' :=
  ⟨fun b ob q _ _ _ => k b ob q, fun b ob q _ _ _ => ⟨ob.slots, k b ob q⟩, fun _ _ _ n _ => n, fun b ob q _ => ⟨ob, k b ob q⟩, fun _ _ q => q, fun _ _ _ q => q, fun _ ps q => ⟨#[], by rw [q]; simp⟩⟩
theorem Un.refl : Un fs ex H H h h := Un.kept fun _ _ q => q
theorem Un.laid (k : ∀ b u, h.get? b = some u → h'.get? b = some u) (hp : h.objs.size ≤ a) (hn : H a = none) : Un fs ex H (upd H a o) h h' where
  keep := fun b u q _ _ _ => k b u q
  slot := fun b u q _ _ _ => ⟨u.slots, k b u q⟩
  free := fun b u q n _ => by rw [upd_ne (Nat.ne_of_lt (Nat.lt_of_lt_of_le (Heap.lt_size q) hp))]; exact n
  there := fun b u q _ => ⟨u, k b u q⟩
  tups := fun b xs q => by rw [upd_ne (ne_of_none q hn)]; exact q
  frzs := fun b u xs q => by rw [upd_ne (ne_of_none q hn)]; exact q
  tbls := fun b ps q => ⟨#[], by rw [upd_ne (ne_of_none q hn), q]; simp⟩
theorem Un.write (mu : Mut (H x)) (he : e = x ∨ H e = some (.own x)) (k : ∀ b u, b ≠ e → h.get? b = some u → h'.get? b = some u) (heo : ∃ u, h'.get? e = some u) : Un fs ex H (upd H x o) h h' := by
  have hx : ∀ b, H b = none → b ≠ x := fun b n z => by subst z; rw [n] at mu; exact mu
  have hb : ∀ b, H b = none → b ≠ e := fun b n z => by
    subst z
    rcases he with r | r
    · exact hx b n r
    · rw [n] at r; cases r
  have hm : ∀ b u, H b = some u → ¬ Mut (some u) → b ≠ x := fun b u q nm z => by subst z; rw [q] at mu; exact nm mu
  refine ⟨fun b u q n _ _ => k b u (hb b n) q, fun b u q n _ _ => ⟨u.slots, k b u (hb b n) q⟩, fun b u q n _ => by rw [upd_ne (hx b n)]; exact n, fun b u q _ => ?_,
    fun b xs q => by rw [upd_ne (hm b _ q fun z => z)]; exact q, fun b u xs q => by rw [upd_ne (hm b _ q fun z => z)]; exact q, fun b ps q => ⟨#[], by rw [upd_ne (hm b _ q fun z => z), q]; simp⟩⟩
  by_cases hbe : b = e
  · subst hbe; exact heo
  · exact ⟨u, k b u hbe q⟩
theorem Un.mono (u : Un fs ex H H1 h h1) (hs : ∀ b ∈ fs, b ∈ fs') (hx : ∀ b ∈ ex, b ∈ ex') : Un fs' ex' H H1 h h1 :=
  ⟨fun b ob q n hb he => u.keep b ob q n (fun z => hb (hs b z)) fun z => he (hx b z), fun _ _ q n _ he => u.any q n fun z => he (hx _ z), fun b ob q n he => u.free b ob q n fun z => he (hx b z), fun b ob q he => u.there b ob q fun z => he (hx b z), u.tups, u.frzs, u.tbls⟩
end

/-! ### the heap without what is tracked -/
def trk (h : Heap) (H : Hp) : List Addr := (List.range h.objs.size).filter fun a => (H a).isSome
def hidT (h : Heap) (H : Hp) : Heap := PySem.W.hideAll h (trk h H)
theorem hidT_size (h : Heap) (H : Hp) : (hidT h H).objs.size = h.objs.size := PySem.W.hideAll_size _ _
theorem hidT_get {h : Heap} {H : Hp} {b : Addr} {o : Obj} (e : h.get? b = some o) (n : H b = none) : (hidT h H).get? b = some o :=
  PySem.W.hideAll_get _ e fun hm => by
    have q : (H b).isSome = true := (List.mem_filter.mp hm).2
    rw [n] at q; simp at q
theorem of_hidT {h : Heap} {H : Hp} {b : Addr} {o : Obj} (e : (hidT h H).get? b = some o) : h.get? b = some o ∧ H b = none := by
  have e' : h.get? b = some o := PySem.W.of_hideAll (trk h H) e
  refine ⟨e', ?_⟩
  cases q : H b with
  | none => rfl
  | some x =>
    have hm : b ∈ trk h H := List.mem_filter.mpr ⟨List.mem_range.mpr (Heap.lt_size e'), by simp [q]⟩
    have z : (hidT h H).get? b = none := PySem.W.hideAll_none (trk h H) hm
    rw [z] at e; cases e

/-! ### OpenK's ledger, filled with every new object but one -/
def allNews (g h : Heap) (L : Addr) : List (Addr × Obj) := (List.range h.objs.size).filterMap fun a => if a = L ∨ (g.get? a).isSome = true then none else (h.get? a).map fun o => (a, o)
def rest (g h : Heap) (L d : Addr) : List (Addr × Obj) := (allNews g h L).filter fun p => decide (p.1 ≠ d)
end L2

namespace L2
open PySem PySem.Spec PyProof.Rows

/-- the module's facts, over the base: the heap at the law's entry without what is tracked there -/
structure Mod (K : PySem.W.Frag) (mg : Str → Option Value) (base : Heap) : Prop where
  kin : K.In base
  glob : base.Ns mainGlobals mg
  blt : ∃ mb, base.Ns builtinsNs mb ∧ ∀ x : Str, x ≠ "__name__" → mb x = bootBuiltins x
  nolimit : base.NoLimit

/-- the context: a def's body (or a comprehension's block) running. base: fixed through the whole law; s₀, H₀: the entry; outer: the frames whose slots others may change (a def's callers); stack: all frames that run;
   ex: iterators that were made ahead of the entry and are walked here (a comprehension's); fn: the names whose cells were made at the entry (a def: all; a comprehension's block: its own); calm: not within an except suite; pn: pins that every state bears; xe: what is wanted of an exception that leaves the code -/
structure Cx where
  prog : Program
  w : World
  K : PySem.W.Frag
  mg : Str → Option Value
  base : Heap
  A : Around
  N : List Str
  s₀ : Shared
  H₀ : Hp
  env : Env
  outer : List Env
  stack : List Env
  ex : List Addr
  fn : Str → Bool
  calm : Bool
  pn : List (Addr × Obj)
  xe : Value → Shared → Prop
/-- the callers' frames -/
def frs (l : List Env) : List Addr := l.filterMap (·.frame)
abbrev Cx.fs (X : Cx) : List Addr := frs X.outer

def Vis (sc : Scope) (x : Str) : Prop := sc.names.lookup x = some .local ∨ sc.names.lookup x = some .cell ∨ sc.names.lookup x = some .free
def Loc (sc : Scope) (x : Str) : Prop := sc.names.lookup x = some .local ∨ sc.names.lookup x = some .cell
def Look (env : Env) (h : Heap) (m : Str → Option Value) (x : Str) (u : Value) : Prop :=
  (env.kindOf x = some .local ∧ m x = some u) ∨ ((env.kindOf x = some .cell ∨ env.kindOf x = some .free) ∧ ∃ c, env.cells.lookup x = some c ∧ h.IsCell c (some u))

structure Cx.Ok (X : Cx) : Prop where
  mod : Mod X.K X.mg X.base
  kind : X.env.scope.kind = .function
  glob : X.env.globals = mainGlobals
  blt : X.env.builtins = builtinsNs
  above : X.s₀.heap.objs.size ≤ X.env.locals
  inj : ∀ x y c, X.env.cells.lookup x = some c → X.env.cells.lookup y = some c → x = y
  has : ∀ x, (X.env.kindOf x = some .cell ∨ X.env.kindOf x = some .free) → ∃ c, X.env.cells.lookup x = some c
  cab : ∀ x c, X.fn x = true → X.env.cells.lookup x = some c → X.s₀.heap.objs.size ≤ c
  hd : X.calm = true → X.A.handled = none
  frames : X.A.frames = some X.stack
  stk : X.stack = X.outer ∨ (X.stack = X.env :: X.outer ∧ X.env.frame = some X.env.locals)
  exf : ∀ b ∈ X.ex, b ≠ X.env.locals ∧ ∀ x c, X.env.cells.lookup x = some c → c ≠ b
  bs : ∀ b o, X.base.get? b = some o → X.s₀.heap.get? b = some o ∧ X.H₀ b = none
  bsz : X.base.objs.size ≤ X.s₀.heap.objs.size
  noex : ∀ b o, X.base.get? b = some o → b ∉ X.ex
  exfs : ∀ b ∈ X.ex, b ∉ X.fs
  funs : X.s₀.heap.FunFrames X.base X.outer
  frf : ∀ b ∈ X.fs, X.H₀ b = none

structure Inv (X : Cx) (pins : List (Addr × Obj)) (σ : List (Option V)) (H : Hp) (s : Shared) : Prop where
  ok : X.Ok
  os : s.os = X.s₀.os
  bare : AllBare s.gens
  base : Un X.fs X.ex X.H₀ H X.s₀.heap s.heap
  loc : ∃ m, s.heap.Ns X.env.locals m ∧ ∀ (i : Nat) (x : Str) (v : V), X.N[i]? = some x → σ[i]? = some (some v) → Vis X.env.scope x → ∃ u, RelV v u ∧ Look X.env s.heap m x u
  cell : ∀ x c, X.env.cells.lookup x = some c → ∃ v, s.heap.IsCell c v
  free : H X.env.locals = none
  freeC : ∀ x c, X.env.cells.lookup x = some c → H c = none
  pin : ∀ p ∈ X.pn ++ pins, s.heap.get? p.1 = some p.2 ∧ H p.1 = none ∧ p.1 ≠ X.env.locals ∧ p.1 ∉ X.fs ∧ ∀ v, p.2.data ≠ .cell v
  hok : HOk X.prog X.w H s.heap
  len : σ.length = X.N.length

section
variable {X : Cx} {pins : List (Addr × Obj)} {σ : List (Option V)} {H H' : Hp} {s : Shared} {h' : Heap}

theorem Cx.Ok.nofr (ok : X.Ok) {b : Addr} {o : Obj} (e : X.base.get? b = some o) : b ∉ X.fs := fun hb => by
  have := (ok.funs.mem hb).1
  rw [e] at this; cases this
theorem Inv.bs (I : Inv X pins σ H s) : ∀ b o, X.base.get? b = some o → s.heap.get? b = some o ∧ H b = none := fun b o e =>
  ⟨I.base.keep b o (I.ok.bs b o e).1 (I.ok.bs b o e).2 (I.ok.nofr e) (I.ok.noex b o e), I.base.free b o (I.ok.bs b o e).1 (I.ok.bs b o e).2 (I.ok.noex b o e)⟩
theorem Inv.bk (I : Inv X pins σ H s) : ∀ b o, X.base.get? b = some o → s.heap.get? b = some o := fun b o e => (I.bs b o e).1
theorem Inv.mod (I : Inv X pins σ H s) : Mod X.K X.mg X.base := I.ok.mod
theorem Inv.kIn (I : Inv X pins σ H s) : X.K.In s.heap := I.ok.mod.kin.keeps I.bk
theorem Inv.nolimit (I : Inv X pins σ H s) : s.heap.NoLimit := I.ok.mod.nolimit.keeps I.bk
theorem Inv.lt (I : Inv X pins σ H s) : X.env.locals < s.heap.objs.size := let ⟨_, hn, _⟩ := I.loc; hn.lt
theorem Inv.sz (I : Inv X pins σ H s) : X.s₀.heap.objs.size ≤ s.heap.objs.size := Nat.le_trans I.ok.above (Nat.le_of_lt I.lt)
theorem Inv.nofs (I : Inv X pins σ H s) {a : Addr} (h : s.heap.objs.size ≤ a) : a ∉ X.fs := fun hb => by
  obtain ⟨_, o, ho, _⟩ := I.ok.funs.mem hb
  exact absurd (Nat.lt_of_lt_of_le (Heap.lt_size ho) (Nat.le_trans I.sz h)) (Nat.lt_irrefl _)
theorem Inv.cne (I : Inv X pins σ H s) : ∀ x c, X.env.cells.lookup x = some c → c ≠ X.env.locals := fun x c e z => by
  obtain ⟨v, o, ho, hd⟩ := I.cell x c e
  obtain ⟨m, ⟨o', es, ep, ho', hd', _⟩, _⟩ := I.loc
  rw [z, ho'] at ho; cases ho; rw [hd'] at hd; cases hd
theorem Inv.funs (I : Inv X pins σ H s) : s.heap.FunFrames X.base X.outer := by
  have all : ∀ (l : List Env), (∀ b ∈ frs l, b ∈ X.fs) → X.s₀.heap.FunFrames X.base l → s.heap.FunFrames X.base l := by
    intro l
    induction l with
    | nil => intro _ _; trivial
    | cons env r ih =>
      intro hs hl
      obtain ⟨hk, ⟨L, o, hf, hn, ho, hd⟩, hr⟩ := hl
      have hL : L ∈ X.fs := hs L (by unfold frs; rw [List.filterMap_cons, hf]; exact List.mem_cons_self)
      obtain ⟨sl, e⟩ := I.base.slot L o ho (I.ok.frf L hL) hL fun z => I.ok.exfs L z hL
      exact ⟨hk, ⟨L, _, hf, hn, e, hd⟩, ih (fun b hb => hs b (by unfold frs; rw [List.filterMap_cons, hf]; exact List.mem_cons_of_mem _ hb)) hr⟩
  exact all X.outer (fun _ hb => hb) I.ok.funs

/-- the frames that run, for a call -/
theorem Inv.stack (I : Inv X pins σ H s) : s.heap.FunFrames X.base X.stack := by
  rcases I.ok.stk with e | ⟨e, hf⟩
  · rw [e]; exact I.funs
  · rw [e]
    obtain ⟨m, hn, _⟩ := I.loc
    refine .cons (by rw [I.ok.kind]; decide) hf hn ?_ I.funs
    exact Heap.get?_none_of_le (Nat.le_trans I.ok.bsz I.ok.above)
theorem Inv.stkSub (I : Inv X pins σ H s) : ∀ b ∈ frs X.stack, b ∈ X.env.locals :: X.fs := fun b hb => by
  rcases I.ok.stk with e | ⟨e, hf⟩
  · rw [e] at hb; exact List.mem_cons_of_mem _ hb
  · rw [e] at hb
    unfold frs at hb
    rw [List.filterMap_cons, hf] at hb
    exact hb
theorem Inv.stkFree (I : Inv X pins σ H s) : ∀ b ∈ frs X.stack, H b = none := fun b hb => by
  rcases List.mem_cons.mp (I.stkSub b hb) with e | hb
  · rw [e]; exact I.free
  · obtain ⟨_, o, ho, _⟩ := I.ok.funs.mem hb
    exact I.base.free b o ho (I.ok.frf b hb) fun z => I.ok.exfs b z hb

/-- THE STEP: the untracked objects but the frame and the records at ch are kept (the callers' frames up to slots), the frame's map is kept, the new abstract heap is held -/
theorem Inv.step {g' : Array GenState} {t' : Nat} {d' : Drawn} {ch : List Addr} (I : Inv X pins σ H s)
    (hch : ∀ b ∈ ch, (b ∈ X.ex ∨ X.s₀.heap.objs.size ≤ b) ∧ b ≠ X.env.locals ∧ (∀ x c, X.env.cells.lookup x = some c → c ≠ b) ∧ ∀ p ∈ X.pn ++ pins, p.1 ≠ b)
    (keep : ∀ b o, b ≠ X.env.locals → b ∉ X.fs → b ∉ ch → s.heap.get? b = some o → H b = none → h'.get? b = some o)
    (slot : ∀ b o, b ≠ X.env.locals → b ∈ X.fs → b ∉ ch → s.heap.get? b = some o → H b = none → ∃ sl, h'.get? b = some { o with slots := sl }) (free : ∀ b o, b ∉ ch → s.heap.get? b = some o → H b = none → H' b = none)
    (there : ∀ b o, b ∉ ch → s.heap.get? b = some o → ∃ o', h'.get? b = some o')
    (tups : ∀ b xs, H b = some (.tup xs) → H' b = some (.tup xs)) (frzs : ∀ b o u, H b = some (.frz o u) → H' b = some (.frz o u)) (tbls : ∀ b ps, H b = some (.tbl ps) → ∃ more, H' b = some (.tbl (ps ++ more)))
    (ns : ∀ m, s.heap.Ns X.env.locals m → h'.Ns X.env.locals m) (hok : HOk X.prog X.w H' h') (hg : AllBare g') :
    Inv X pins σ H' { s with heap := h', gens := g', drawn := d', toks := t' } := by
  have neL : ∀ b o, X.s₀.heap.get? b = some o → b ≠ X.env.locals := fun b o e => Nat.ne_of_lt (Nat.lt_of_lt_of_le (Heap.lt_size e) I.ok.above)
  have neC : ∀ b o, X.s₀.heap.get? b = some o → b ∉ X.ex → b ∉ ch := fun b o e hx hb => by
    rcases (hch b hb).1 with z | z
    · exact hx z
    · exact absurd (Nat.lt_of_lt_of_le (Heap.lt_size e) z) (Nat.lt_irrefl _)
  have cellK : ∀ x c, X.env.cells.lookup x = some c → ∀ v, s.heap.IsCell c v → h'.IsCell c v := fun x c e v ⟨o, ho, hd⟩ => by
    have nch : c ∉ ch := fun z => (hch c z).2.2.1 x c e rfl
    by_cases hc : c ∈ X.fs
    · obtain ⟨sl, q⟩ := slot c o (I.cne x c e) hc nch ho (I.freeC x c e)
      exact ⟨_, q, hd⟩
    · exact ⟨o, keep c o (I.cne x c e) hc nch ho (I.freeC x c e), hd⟩
  refine ⟨I.ok, I.os, hg, ⟨fun b o e n hb hx => ?_, fun b o e n hb hx => ?_, fun b o e n hx => ?_, fun b o e hx => ?_, fun b xs e => tups b xs (I.base.tups b xs e), fun b o xs e => frzs b o xs (I.base.frzs b o xs e), fun b ps e => ?_⟩, ?_, fun x c e => ?_, ?_, fun x c e => ?_, fun p hp => ?_, hok, I.len⟩
  · exact keep b o (neL b o e) hb (neC b o e hx) (I.base.keep b o e n hb hx) (I.base.free b o e n hx)
  · obtain ⟨sl, e1⟩ := I.base.slot b o e n hb hx
    obtain ⟨sl', e2⟩ := slot b _ (neL b o e) hb (neC b o e hx) e1 (I.base.free b o e n hx)
    exact ⟨sl', e2⟩
  · obtain ⟨o', e1⟩ := I.base.there b o e hx
    exact free b o' (neC b o e hx) e1 (I.base.free b o e n hx)
  · obtain ⟨o', e1⟩ := I.base.there b o e hx
    exact there b o' (neC b o e hx) e1
  · obtain ⟨m1, e1⟩ := I.base.tbls b ps e
    obtain ⟨m2, e2⟩ := tbls b _ e1
    exact ⟨m1 ++ m2, by rw [e2, Array.append_assoc]⟩
  · obtain ⟨m, hn, hl⟩ := I.loc
    refine ⟨m, ns m hn, fun i x v e1 e2 e3 => ?_⟩
    obtain ⟨u, r, l⟩ := hl i x v e1 e2 e3
    refine ⟨u, r, ?_⟩
    rcases l with l | ⟨k, c, e, z⟩
    · exact .inl l
    · exact .inr ⟨k, c, e, cellK x c e _ z⟩
  · obtain ⟨v, z⟩ := I.cell x c e
    exact ⟨v, cellK x c e v z⟩
  · obtain ⟨m, ⟨o, _, _, ho, _⟩, _⟩ := I.loc
    exact free _ o (fun z => (hch _ z).2.1 rfl) ho I.free
  · obtain ⟨v, o, ho, hd⟩ := I.cell x c e
    exact free c o (fun z => (hch c z).2.2.1 x c e rfl) ho (I.freeC x c e)
  · obtain ⟨e, n, ne, nf, d⟩ := I.pin p hp
    have nch : p.1 ∉ ch := fun z => (hch p.1 z).2.2.2 p hp rfl
    exact ⟨keep p.1 p.2 ne nf nch e n, free p.1 p.2 nch e n, ne, nf, d⟩
/-- .. where the frame's own object is kept too -/
theorem Inv.un {t' : Nat} (I : Inv X pins σ H s) (u : Un X.fs [] H H' s.heap h') (hok : HOk X.prog X.w H' h') : Inv X pins σ H' { s with heap := h', toks := t' } := by
  obtain ⟨m, ⟨o, es, ep, ho, r⟩, _⟩ := id I.loc
  obtain ⟨sl, hL⟩ := u.any ho I.free (by simp)
  exact I.step (g' := s.gens) (d' := s.drawn) (ch := []) (fun _ z => nomatch z) (fun b o _ hb _ e n => u.keep b o e n hb (by simp)) (fun b o _ hb _ e n => u.slot b o e n hb (by simp)) (fun b o _ e n => u.free b o e n (by simp)) (fun b o _ e => u.there b o e (by simp)) u.tups u.frzs u.tbls (fun m' hm => by
    obtain ⟨o', es', ep', ho', r'⟩ := hm
    rw [ho] at ho'; cases ho'
    exact ⟨_, es', ep', hL, r'⟩) hok I.bare
/-- behind a call (or a comprehension's block): the slots of this frame may have changed too, the records at ch may have turned -/
theorem Inv.call {g' : Array GenState} {t' : Nat} {d' : Drawn} {ch : List Addr} (I : Inv X pins σ H s) (u : Un (frs X.stack) ch H H' s.heap h') (hok : HOk X.prog X.w H' h') (hg : AllBare g')
    (hch : ∀ b ∈ ch, (b ∈ X.ex ∨ X.s₀.heap.objs.size ≤ b) ∧ b ≠ X.env.locals ∧ (∀ x c, X.env.cells.lookup x = some c → c ≠ b) ∧ ∀ p ∈ X.pn ++ pins, p.1 ≠ b) :
    Inv X pins σ H' { s with heap := h', gens := g', drawn := d', toks := t' } := by
  obtain ⟨m, ⟨o, es, ep, ho, r⟩, _⟩ := id I.loc
  obtain ⟨sl, hL⟩ := u.any ho I.free fun z => (hch _ z).2.1 rfl
  exact I.step (ch := ch) hch (fun b o hL hb hc e n => u.keep b o e n (fun z => (List.mem_cons.mp (I.stkSub b z)).elim hL hb) hc) (fun b o _ _ hc e n => u.any e n hc) (fun b o hc e n => u.free b o e n hc) (fun b o hc e => u.there b o e hc) u.tups u.frzs u.tbls (fun m' hm => by
    obtain ⟨o', es', ep', ho', r'⟩ := hm
    rw [ho] at ho'; cases ho'
    exact ⟨_, es', ep', hL, r'⟩) hok hg
/-- an untracked record of ours (an iterator) has turned -/
theorem Inv.turned {t' : Nat} {it : Addr} (I : Inv X pins σ H s) (k : ∀ b o, b ≠ it → s.heap.get? b = some o → h'.get? b = some o) (hn : H it = none) (hL : it ≠ X.env.locals)
    (h1 : it ∈ X.ex ∨ X.s₀.heap.objs.size ≤ it) (h2 : ∀ x c, X.env.cells.lookup x = some c → c ≠ it) (h3 : ∀ p ∈ X.pn ++ pins, p.1 ≠ it) : Inv X pins σ H { s with heap := h', toks := t' } := by
  have nit : ∀ b u, H b = some u → b ≠ it := fun b u e z => by rw [z, hn] at e; cases e
  refine I.step (g' := s.gens) (d' := s.drawn) (ch := [it]) (fun b hb => ?_) (fun b o _ _ hc e _ => k b o (fun z => hc (by simp [z])) e) (fun b o _ _ hc e _ => ⟨o.slots, k b o (fun z => hc (by simp [z])) e⟩) (fun _ _ _ _ n => n)
    (fun b o hc e => ⟨o, k b o (fun z => hc (by simp [z])) e⟩) (fun _ _ e => e) (fun _ _ _ e => e) (fun b ps e => ⟨#[], by rw [e]; simp⟩) (fun m hm => ?_) (fun b u e => ?_) I.bare
  · have e : b = it := by simpa using hb
    subst e
    exact ⟨h1, hL, h2, h3⟩
  · obtain ⟨o, es, ep, ho, r⟩ := hm
    exact ⟨o, es, ep, k _ o (Ne.symm hL) ho, r⟩
  · refine (I.hok b u e).stay (fun c v hc q => k c v ?_ q) (fun _ q => q) fun _ _ q => q
    rcases hc with z | z
    · rw [z]; exact nit b u e
    · exact nit c _ z
theorem Inv.tok (I : Inv X pins σ H s) (t : Nat) : Inv X pins σ H { s with toks := t } := I.un (h' := s.heap) (t' := t) Un.refl I.hok
/-- all objects kept -/
theorem Inv.kept {t' : Nat} (I : Inv X pins σ H s) (k : ∀ b u, s.heap.get? b = some u → h'.get? b = some u) : Inv X pins σ H { s with heap := h', toks := t' } := I.un (Un.kept k) (I.hok.kept k)
/-- a new object laid and tracked -/
theorem Inv.laid {a : Addr} {o : HO} {t' : Nat} (I : Inv X pins σ H s) (k : ∀ b u, s.heap.get? b = some u → h'.get? b = some u) (hp : s.heap.objs.size ≤ a) (new : ObjOk X.prog X.w (upd H a o) h' a o) :
    Inv X pins σ (upd H a o) { s with heap := h', toks := t' } := I.un (Un.laid k hp (I.hok.fresh hp)) (I.hok.laid k hp new)
/-- an object written -/
theorem Inv.write {x e : Addr} {o : HO} {t' : Nat} (I : Inv X pins σ H s) (mu : Mut (H x)) (he : e = x ∨ H e = some (.own x)) (k : ∀ b u, b ≠ e → s.heap.get? b = some u → h'.get? b = some u) (heo : ∃ u, h'.get? e = some u)
    (new : ObjOk X.prog X.w (upd H x o) h' x o) : Inv X pins σ (upd H x o) { s with heap := h', toks := t' } := I.un (Un.write mu he k heo) (I.hok.write mu he k heo new)
theorem Inv.pins_of {pins' : List (Addr × Obj)} (I : Inv X pins σ H s) (h : ∀ p ∈ pins', s.heap.get? p.1 = some p.2 ∧ H p.1 = none ∧ p.1 ≠ X.env.locals ∧ p.1 ∉ X.fs ∧ ∀ v, p.2.data ≠ .cell v) : Inv X pins' σ H s :=
  ⟨I.ok, I.os, I.bare, I.base, I.loc, I.cell, I.free, I.freeC, fun p hp => (List.mem_append.mp hp).elim (fun z => I.pin p (List.mem_append_left _ z)) (h p), I.hok, I.len⟩

theorem nodup_ix {N : List Str} (hN : N.Nodup) {i j : Nat} {x : Str} (a : N[i]? = some x) (b : N[j]? = some x) : i = j := by
  obtain ⟨h1, e1⟩ := List.getElem?_eq_some_iff.mp a
  obtain ⟨h2, e2⟩ := List.getElem?_eq_some_iff.mp b
  exact (List.getElem_inj hN).mp (e1.trans e2.symm)

/-- a name is stored; what changed -/
theorem store_ok2 {M : Model} {A : Around} {E : Value → Shared → Prop} {i : Nat} {x : Str} {v : V} {u : Value} {Q : Unit → Shared → Prop} (I : Inv X pins σ H s) (hN : X.N.Nodup) (hi : X.N[i]? = some x) (hx : Loc X.env.scope x) (r : RelV v u)
    (h : ∀ s', Inv X pins (σ.set i (some v)) H s' → (∃ a, Heap.SameBut a s.heap s'.heap ∧ (a = X.env.locals ∨ X.env.cells.lookup x = some a)) → Q () s') (hf : X.fn x = true ∨ X.env.scope.names.lookup x = some .local := by first | exact .inl rfl | exact .inr rfl | assumption) : wpAny M A (storeName X.env x u) Q E s := by
  obtain ⟨m, hn, hl⟩ := id I.loc
  have hcls : (X.env.scope.kind == .class || (X.env.scope.kind == .module && X.env.locals != X.env.globals)) = false := by rw [I.ok.kind]; rfl
  have hiσ : i < σ.length := by rw [I.len]; exact (List.getElem?_eq_some_iff.mp hi).1
  have cne := I.cne
  have tracked : ∀ {a : Addr} {h' : Heap}, (∃ o, s.heap.get? a = some o ∧ H a = none) → Heap.SameBut a s.heap h' → HOk X.prog X.w H h' := fun {a h'} ha hs b ob e => by
    obtain ⟨_, _, hfree⟩ := ha
    refine (I.hok b ob e).stay (fun c w' hc q => (hs.2 c ?_).trans q) (fun _ q => q) fun _ _ q => q
    rintro rfl
    rcases hc with rfl | hc
    · rw [hfree] at e; cases e
    · rw [hfree] at hc; cases hc
  rcases hx with hk | hk
  · refine wpAny_storeName_local hk hn (fun h' hn' hs => ?_) hcls
    obtain ⟨oL, _, _, hoL, _⟩ := id hn
    refine h _ ⟨I.ok, I.os, I.bare, ⟨fun b o e n hb hx => ?_, fun b o e n hb hx => ?_, I.base.free, fun b o e hx => ?_, I.base.tups, I.base.frzs, I.base.tbls⟩, ⟨_, hn', fun j y v' e1 e2 e3 => ?_⟩, fun y c e => ?_, I.free, I.freeC, fun p hp => ?_, tracked ⟨oL, hoL, I.free⟩ hs, by simpa using I.len⟩ ⟨_, hs, .inl rfl⟩
    · exact (hs.2 b (Nat.ne_of_lt (Nat.lt_of_lt_of_le (Heap.lt_size e) I.ok.above))).trans (I.base.keep b o e n hb hx)
    · obtain ⟨sl, e1⟩ := I.base.slot b o e n hb hx
      exact ⟨sl, (hs.2 b (Nat.ne_of_lt (Nat.lt_of_lt_of_le (Heap.lt_size e) I.ok.above))).trans e1⟩
    · obtain ⟨o', e1⟩ := I.base.there b o e hx
      exact ⟨o', (hs.2 b (Nat.ne_of_lt (Nat.lt_of_lt_of_le (Heap.lt_size e) I.ok.above))).trans e1⟩
    · by_cases hj : j = i
      · subst hj
        rw [hi] at e1; cases e1
        rw [List.getElem?_set_self hiσ] at e2
        cases e2
        exact ⟨u, r, .inl ⟨hk, by simp⟩⟩
      · rw [List.getElem?_set_ne (Ne.symm hj)] at e2
        obtain ⟨u', r', q⟩ := hl j y v' e1 e2 e3
        refine ⟨u', r', ?_⟩
        rcases q with ⟨k, e⟩ | ⟨k, c, e, z⟩
        · refine .inl ⟨k, ?_⟩
          have : y ≠ x := fun e => hj (nodup_ix hN e1 (e ▸ hi))
          simp [this, e]
        · exact .inr ⟨k, c, e, z.sameBut hs (cne y c e)⟩
    · obtain ⟨w', z⟩ := I.cell y c e
      exact ⟨w', z.sameBut hs (cne y c e)⟩
    · obtain ⟨e, n, ne, nf, d⟩ := I.pin p hp
      exact ⟨(hs.2 p.1 ne).trans e, n, ne, nf, d⟩
  · have hfn : X.fn x = true := by
      rcases hf with z | z
      · exact z
      · rw [z] at hk; cases hk
    obtain ⟨c, hc⟩ := I.ok.has x (.inl hk)
    obtain ⟨w', z⟩ := I.cell x c hc
    refine wpAny_storeName_cell I.ok.kind hk hc z (fun h' hc' hs => ?_)
    obtain ⟨oc, hoc, hocd⟩ := id z
    refine h { s with heap := h' } ⟨I.ok, I.os, I.bare, ⟨fun b o e n hb hx => ?_, fun b o e n hb hx => ?_, I.base.free, fun b o e hx => ?_, I.base.tups, I.base.frzs, I.base.tbls⟩, ⟨m, hn.sameBut hs (Ne.symm (cne x c hc)), fun j y v' e1 e2 e3 => ?_⟩, fun y c' e => ?_, I.free, I.freeC, fun p hp => ?_, tracked ⟨oc, hoc, I.freeC x c hc⟩ hs, by simpa using I.len⟩ ⟨c, hs, .inr hc⟩
    · exact (hs.2 b (Nat.ne_of_lt (Nat.lt_of_lt_of_le (Heap.lt_size e) (I.ok.cab x c hfn hc)))).trans (I.base.keep b o e n hb hx)
    · obtain ⟨sl, e1⟩ := I.base.slot b o e n hb hx
      exact ⟨sl, (hs.2 b (Nat.ne_of_lt (Nat.lt_of_lt_of_le (Heap.lt_size e) (I.ok.cab x c hfn hc)))).trans e1⟩
    · obtain ⟨o', e1⟩ := I.base.there b o e hx
      exact ⟨o', (hs.2 b (Nat.ne_of_lt (Nat.lt_of_lt_of_le (Heap.lt_size e) (I.ok.cab x c hfn hc)))).trans e1⟩
    · by_cases hj : j = i
      · subst hj
        rw [hi] at e1; cases e1
        rw [List.getElem?_set_self hiσ] at e2
        cases e2
        exact ⟨u, r, .inr ⟨.inl hk, c, hc, hc'⟩⟩
      · rw [List.getElem?_set_ne (Ne.symm hj)] at e2
        obtain ⟨u', r', q⟩ := hl j y v' e1 e2 e3
        refine ⟨u', r', ?_⟩
        rcases q with q | ⟨k, c', e, z'⟩
        · exact .inl q
        · refine .inr ⟨k, c', e, z'.sameBut hs ?_⟩
          rintro rfl
          exact hj (nodup_ix hN e1 (I.ok.inj _ _ _ e hc ▸ hi))
    · by_cases hcc : c' = c
      · subst hcc; exact ⟨_, hc'⟩
      · obtain ⟨w2, z2⟩ := I.cell y c' e
        exact ⟨w2, z2.sameBut hs hcc⟩
    · obtain ⟨e, n, ne, nf, d⟩ := I.pin p hp
      refine ⟨(hs.2 p.1 ?_).trans e, n, ne, nf, d⟩
      intro q
      rw [q, hoc] at e
      have q' : oc = p.2 := Option.some.inj e
      exact d w' (by rw [← q']; exact hocd)
theorem store_ok {M : Model} {A : Around} {E : Value → Shared → Prop} {i : Nat} {x : Str} {v : V} {u : Value} {Q : Unit → Shared → Prop} (I : Inv X pins σ H s) (hN : X.N.Nodup) (hi : X.N[i]? = some x) (hx : Loc X.env.scope x) (r : RelV v u)
    (h : ∀ s', Inv X pins (σ.set i (some v)) H s' → Q () s') (hf : X.fn x = true ∨ X.env.scope.names.lookup x = some .local := by first | exact .inl rfl | exact .inr rfl | assumption) : wpAny M A (storeName X.env x u) Q E s :=
  store_ok2 I hN hi hx r (fun s' I' _ => h s' I') hf
/-- behind a call or a block, the state as it is -/
theorem Inv.call' {s' : Shared} {ch : List Addr} (I : Inv X pins σ H s) (ho : s'.os = s.os) (u : Un (frs X.stack) ch H H' s.heap s'.heap) (hok : HOk X.prog X.w H' s'.heap) (hg : AllBare s'.gens)
    (hch : ∀ b ∈ ch, (b ∈ X.ex ∨ X.s₀.heap.objs.size ≤ b) ∧ b ≠ X.env.locals ∧ (∀ x c, X.env.cells.lookup x = some c → c ≠ b) ∧ ∀ p ∈ X.pn ++ pins, p.1 ≠ b) : Inv X pins σ H' s' := by
  obtain ⟨h', g', d', t', o'⟩ := s'
  have e : o' = s.os := ho
  subst e
  exact I.call (g' := g') (t' := t') (d' := d') u hok hg hch
end

/-! ### the judgements -/
/-- an exception: its class, its own dict's address (where it has one), the abstract heap behind it -/
abbrev XK := Value → Option Addr → Hp → Prop
abbrev St := List (Option V)
abbrev VK := V → Hp → Prop
/-- an expression's reading; a test's; an argument list's -/
abbrev TE := St → Hp → VK → Prop
abbrev TT := St → Hp → (Bool → Hp → Prop) → Prop
abbrev TA := St → Hp → (List V → Hp → Prop) → Prop
/-- what is wanted behind a statement -/
structure Ends where
  nx : St → Hp → Prop
  rt : VK
  bk : St → Hp → Prop := fun _ _ => False
  ct : St → Hp → Prop := fun _ _ => False
abbrev TS := Ends → St → Hp → Prop

def EP (X : Cx) (pins : List (Addr × Obj)) (σ : St) (Q : VK) (u : Value) (s' : Shared) : Prop := ∃ v H', Inv X pins σ H' s' ∧ RelV v u ∧ Q v H'
def TP (X : Cx) (pins : List (Addr × Obj)) (σ : St) (Q : Bool → Hp → Prop) (b : Bool) (s' : Shared) : Prop := ∃ H', Inv X pins σ H' s' ∧ Q b H'
def AP (X : Cx) (pins : List (Addr × Obj)) (σ : St) (Q : List V → Hp → Prop) (us : List Value) (s' : Shared) : Prop := ∃ vs H', Inv X pins σ H' s' ∧ Vals vs us ∧ Q vs H'
def SP (X : Cx) (pins : List (Addr × Obj)) (D : Ends) (f : Flow) (s' : Shared) : Prop :=
  match f with
  | .next => ∃ σ' H', Inv X pins σ' H' s' ∧ D.nx σ' H'
  | .brk => ∃ σ' H', Inv X pins σ' H' s' ∧ D.bk σ' H'
  | .cont => ∃ σ' H', Inv X pins σ' H' s' ∧ D.ct σ' H'
  | .ret u => ∃ v σ' H', Inv X pins σ' H' s' ∧ RelV v u ∧ D.rt v H'

def PE (X : Cx) (e : Expr) (t : TE) : Prop :=
  ∀ (pins : List (Addr × Obj)) (s : Shared) (σ : St) (H : Hp) (Q : VK), Inv X pins σ H s → t σ H Q → wpAny (model X.prog X.w) X.A (eval e X.env) (EP X pins σ Q) X.xe s
def PT (X : Cx) (e : Expr) (t : TT) : Prop :=
  ∀ (pins : List (Addr × Obj)) (s : Shared) (σ : St) (H : Hp) (Q : Bool → Hp → Prop), Inv X pins σ H s → t σ H Q → wpAny (model X.prog X.w) X.A (isTrue e X.env (eval e X.env)) (TP X pins σ Q) X.xe s
/-- a test whatever its 'whole' is (and, or) -/
def PW (X : Cx) (e : Expr) (t : TT) : Prop :=
  ∀ (whole : Sem Value) (pins : List (Addr × Obj)) (s : Shared) (σ : St) (H : Hp) (Q : Bool → Hp → Prop), Inv X pins σ H s → t σ H Q → wpAny (model X.prog X.w) X.A (isTrue e X.env whole) (TP X pins σ Q) X.xe s
theorem PW.pt {X : Cx} {e : Expr} {t : TT} (h : PW X e t) : PT X e t := h _
/-- an argument list (no star), from the left -/
def PA (X : Cx) (es : List Expr) (t : TA) : Prop :=
  ∀ (pos : Pos) (pins : List (Addr × Obj)) (s : Shared) (σ : St) (H : Hp) (Q : List V → Hp → Prop), Inv X pins σ H s → t σ H Q → wpAny (model X.prog X.w) X.A (spliced (backTo pos (starEach es X.env))) (AP X pins σ Q) X.xe s
def PS (X : Cx) (st : Stmt) (t : TS) : Prop :=
  ∀ (pins : List (Addr × Obj)) (s : Shared) (σ : St) (H : Hp) (D : Ends), Inv X pins σ H s → t D σ H → wpAny (model X.prog X.w) X.A (exec st X.env) (SP X pins D) X.xe s
def PSs (X : Cx) (st : List Stmt) (t : TS) : Prop :=
  ∀ (pins : List (Addr × Obj)) (s : Shared) (σ : St) (H : Hp) (D : Ends), Inv X pins σ H s → t D σ H → wpAny (model X.prog X.w) X.A (execs st X.env) (SP X pins D) X.xe s
/-- weaken the end -/
theorem thn {α : Type} {t : Sem α} {Q Q' : α → Shared → Prop} {M : Model} {A : Around} {E : Value → Shared → Prop} {s : Shared} (h : wpAny M A t Q E s) (hQ : ∀ a s, Q a s → Q' a s) : wpAny M A t Q' E s := wpAny_mono h hQ fun _ _ x => x
end L2

namespace L2
open PySem PySem.Spec PyProof.Rows
section
variable {X : Cx}

/-! ### names and constants -/
def tVar (i : Nat) : TE := fun σ H Q => ∃ v, σ[i]? = some (some v) ∧ Q v H
def tC (v : V) : TE := fun _ H Q => Q v H
theorem pe_var {i : Nat} {x : Str} {pos : Pos} (hN : X.N[i]? = some x) (hv : Vis X.env.scope x) (hd : (x == ("__debug__" : Str)) = false := by decide) (hcd : (x == ("__classdict__" : Str)) = false := by decide) : PE X (.Name x pos) (tVar i) := by
  intro pins s σ H Q I h
  obtain ⟨v, e, h⟩ := h
  obtain ⟨m, hn, hl⟩ := I.loc
  obtain ⟨u, r, l⟩ := hl i x v hN e hv
  have fin : EP X pins σ Q u s := ⟨v, H, I, r, h⟩
  rcases l with ⟨hk, hm⟩ | ⟨hk, c, hc, hcell⟩
  · exact wpAny_Name (wpAny_loadName_local I.ok.kind hk hn hm fin) hd
  · rcases hk with hk | hk
    · exact wpAny_Name (wpAny_loadName_cell I.ok.kind hk hc hcell fin) hd
    · exact wpAny_Name (wpAny_loadName_free I.ok.kind hk hc hcell fin hcd) hd
theorem pe_int {i j pos} : PE X (.Constant (.int i) j pos) (tC (.int i)) := fun _ _ _ H _ I h => wpAny_Constant_int ⟨.int i, H, I.tok _, ⟨_, rfl⟩, h⟩
theorem pe_bl {b j pos} : PE X (.Constant (.bool b) j pos) (tC (.bl b)) := fun _ _ _ H _ I h => Constant_bool ⟨.bl b, H, I, rfl, h⟩
theorem pe_non {j pos} : PE X (.Constant .none j pos) (tC .non) := fun _ _ _ H _ I h => Constant_none ⟨.non, H, I, rfl, h⟩
/-- a global name of the def -/
def Gl (X : Cx) (x : Str) : Prop := X.env.kindOf x = some .globalImplicit
theorem ld_glob {E : Value → Shared → Prop} {pins : List (Addr × Obj)} {s : Shared} {σ : St} {H : Hp} {x : Str} {u : Value} {pos : Pos} {Q : Value → Shared → Prop} (I : Inv X pins σ H s) (hg : Gl X x) (hm : X.mg x = some u) (h : Q u s)
    (hd : (x == ("__debug__" : Str)) = false := by decide) : wpAny (model X.prog X.w) X.A (eval (.Name x pos) X.env) Q E s :=
  Calls.Name_function_global I.ok.kind hg (Calls.loadGlobal_global (by rw [I.ok.glob]; exact I.mod.glob.keeps I.bk) hm h) hd
theorem ld_blt {E : Value → Shared → Prop} {pins : List (Addr × Obj)} {s : Shared} {σ : St} {H : Hp} {x : Str} {u : Value} {pos : Pos} {Q : Value → Shared → Prop} (I : Inv X pins σ H s) (hg : Gl X x) (hm : X.mg x = none) (hv : bootBuiltins x = some u) (h : Q u s)
    (hn : x ≠ "__name__" := by decide) (hd : (x == ("__debug__" : Str)) = false := by decide) : wpAny (model X.prog X.w) X.A (eval (.Name x pos) X.env) Q E s := by
  obtain ⟨mb, h1, h2⟩ := I.mod.blt
  exact Calls.Name_function_global I.ok.kind hg (Calls.loadGlobal_builtin (by rw [I.ok.glob]; exact I.mod.glob.keeps I.bk) hm (by rw [I.ok.blt]; exact h1.keeps I.bk) ((h2 x hn).trans hv) h) hd
theorem pe_bltn {x : Str} {v : V} {u : Value} {pos : Pos} (hg : Gl X x) (hm : X.mg x = none) (hv : bootBuiltins x = some u) (r : RelV v u) (hn : x ≠ "__name__" := by decide) (hd : (x == ("__debug__" : Str)) = false := by decide) : PE X (.Name x pos) (tC v) :=
  fun _ _ _ H _ I h => ld_blt I hg hm hv ⟨v, H, I, r, h⟩ hn hd

/-! ### arithmetic -/
variable {a b : Expr} {ta tb : TE} {pos : Pos}
/-! ### comparisons -/
/-- a comparison as a value, as a test -/
def tB (t : TE) : TT := fun σ H Q => t σ H fun x H1 => ∃ c, x = .bl c ∧ Q c H1
/-- an expression whose value is a bool, as a test -/
theorem pt_val {e : Expr} {t : TE} (h : PE X e t) (he : ∀ whole, isTrue e X.env whole = (do let v ← whole; standAt e.pos; holding [v] (truthy v)) := by intro _; rfl) : PT X e (tB t) := by
  intro pins s σ H Q I hw
  refine isTrue_plain (thn (h pins s σ H _ I hw) fun v s1 ⟨x, H1, I1, r1, q1⟩ => ?_) (he _)
  obtain ⟨d, rfl, q⟩ := q1
  cases r1
  exact wpAny_truthy_bool ⟨H1, I1, q⟩

/-! ### and, or, not -/
variable {tA tB' : TT} {rest : List Expr}
def tAnd (t u : TT) : TT := fun σ H Q => t σ H fun c H1 => if c = true then u σ H1 Q else Q false H1
def tOr (t u : TT) : TT := fun σ H Q => t σ H fun c H1 => if c = true then Q true H1 else u σ H1 Q
def tNot (t : TT) : TT := fun σ H Q => t σ H fun c H1 => Q (!c) H1
theorem pw_and1 (ha : PT X a tA) : PW X (.BoolOp .And [a] pos) tA := by
  intro wh pins s σ H Q I h
  refine isTrue_and (thn (ha pins s σ H Q I h) fun c s1 e => ?_)
  cases c with
  | true => exact isTrue_and_nil e
  | false => exact e
theorem pw_or1 (ha : PT X a tA) : PW X (.BoolOp .Or [a] pos) tA := by
  intro wh pins s σ H Q I h
  refine isTrue_or (thn (ha pins s σ H Q I h) fun c s1 e => ?_)
  cases c with
  | false => exact isTrue_or_nil e
  | true => exact e
theorem pw_and (ha : PT X a tA) (hb : PW X (.BoolOp .And (b :: rest) pos) tB') : PW X (.BoolOp .And (a :: b :: rest) pos) (tAnd tA tB') := by
  intro wh pins s σ H Q I h
  refine isTrue_and (thn (ha pins s σ H _ I h) fun c s1 ⟨H1, I1, q1⟩ => ?_)
  cases c with
  | true => exact hb wh pins s1 σ H1 Q I1 q1
  | false => exact ⟨H1, I1, q1⟩
theorem pw_or (ha : PT X a tA) (hb : PW X (.BoolOp .Or (b :: rest) pos) tB') : PW X (.BoolOp .Or (a :: b :: rest) pos) (tOr tA tB') := by
  intro wh pins s σ H Q I h
  refine isTrue_or (thn (ha pins s σ H _ I h) fun c s1 ⟨H1, I1, q1⟩ => ?_)
  cases c with
  | true => exact ⟨H1, I1, q1⟩
  | false => exact hb wh pins s1 σ H1 Q I1 q1
theorem pt_not (ha : PT X a tA) : PT X (.UnaryOp .Not a pos) (tNot tA) := by
  intro pins s σ H Q I h
  exact isTrue_not (ha pins s σ H (fun c H1 => Q (!c) H1) I h)
/-- .. as values (bools) -/
def tAndV (ta tb : TE) : TE := fun σ H Q => ta σ H fun x H1 => ∃ c, x = .bl c ∧ if c = true then tb σ H1 Q else Q (.bl false) H1
def tOrV (ta tb : TE) : TE := fun σ H Q => ta σ H fun x H1 => ∃ c, x = .bl c ∧ if c = true then Q (.bl true) H1 else tb σ H1 Q
def tNotV (ta : TE) : TE := fun σ H Q => ta σ H fun x H1 => ∃ c, x = .bl c ∧ Q (.bl (!c)) H1
theorem pe_one {op} {t : TE} (h : PE X a t) : PE X (.BoolOp op [a] pos) t := fun pins s σ H Q I hw => BoolOp_one (h pins s σ H Q I hw)
theorem pe_and (ha : PE X a ta) (hb : PE X (.BoolOp .And (b :: rest) pos) tb) : PE X (.BoolOp .And (a :: b :: rest) pos) (tAndV ta tb) := by
  intro pins s σ H Q I h
  refine BoolOp_and (thn (ha pins s σ H _ I h) fun v s1 ⟨x, H1, I1, r1, q1⟩ => ?_)
  obtain ⟨c, rfl, q1⟩ := q1
  cases r1
  refine wpAny_truthy_bool ?_
  cases c with
  | true => exact hb pins s1 σ H1 Q I1 q1
  | false => exact ⟨.bl false, H1, I1, rfl, q1⟩
theorem pe_or (ha : PE X a ta) (hb : PE X (.BoolOp .Or (b :: rest) pos) tb) : PE X (.BoolOp .Or (a :: b :: rest) pos) (tOrV ta tb) := by
  intro pins s σ H Q I h
  refine BoolOp_or (thn (ha pins s σ H _ I h) fun v s1 ⟨x, H1, I1, r1, q1⟩ => ?_)
  obtain ⟨c, rfl, q1⟩ := q1
  cases r1
  refine wpAny_truthy_bool ?_
  cases c with
  | false => exact hb pins s1 σ H1 Q I1 q1
  | true => exact ⟨.bl true, H1, I1, rfl, q1⟩
theorem pe_not (ha : PE X a ta) : PE X (.UnaryOp .Not a pos) (tNotV ta) := by
  intro pins s σ H Q I h
  refine UnaryOp_ (thn (ha pins s σ H _ I h) fun v s1 ⟨x, H1, I1, r1, q1⟩ => ?_)
  obtain ⟨c, rfl, q1⟩ := q1
  cases r1
  exact not_of (wpAny_truthy_bool ⟨.bl (!c), H1, I1, rfl, q1⟩)
/-- a if t else b -/
def tIf (t : TT) (ta tb : TE) : TE := fun σ H Q => t σ H fun c H1 => if c = true then ta σ H1 Q else tb σ H1 Q
theorem pe_ifExp {c : Expr} (hc : PT X c tA) (ha : PE X a ta) (hb : PE X b tb) : PE X (.IfExp c a b pos) (tIf tA ta tb) := by
  intro pins s σ H Q I h
  refine wpAny_IfExp (thn (hc pins s σ H _ I h) fun d s1 ⟨H1, I1, q1⟩ => ?_)
  cases d with
  | true => exact ha pins s1 σ H1 Q I1 q1
  | false => exact hb pins s1 σ H1 Q I1 q1
end
end L2

namespace L2
open PySem PySem.Spec PyProof.Rows

/-! ### a list, a tuple that is read: tracked, frozen, or an object of the module -/
def SqL (K : PySem.W.Frag) (H : Hp) (a : Addr) (xs : List V) : Prop :=
  Rd H a (.lst xs) ∨
    ∃ (o : Obj) (its : Array Value) (n : Nat), K.lookup a = some o ∧ o.cls = .type "list" ∧ o.dict = none ∧ o.data = .seq its n ∧ its.size ≤ sizeLine ∧ Vals xs its.toList
def SqT (K : PySem.W.Frag) (H : Hp) (a : Addr) (xs : List V) : Prop :=
  Rd H a (.tup xs) ∨
    ∃ (o : Obj) (its : Array Value) (n : Nat), K.lookup a = some o ∧ o.cls = .type "tuple" ∧ o.data = .seq its n ∧ its.size ≤ sizeLine ∧ Vals xs its.toList
def absV : Value → Option V
  | .none => some .non
  | .bool b => some (.bl b)
  | .int i _ => some (.int i)
  | .str x _ => some (.str x)
  | .bytes b _ => some (.byt b)
  | .float b _ => some (.flt b)
  | .ref a => some (.ref a)
  | .type n => some (.ty n)
  | _ => none
theorem RelV.abs {x : V} {u : Value} (r : RelV x u) : absV u = some x := by
  cases x with
  | non => cases r; rfl
  | bl _ => cases r; rfl
  | int _ => obtain ⟨t, rfl⟩ := r; rfl
  | str _ => obtain ⟨t, rfl⟩ := r; rfl
  | byt _ => obtain ⟨t, rfl⟩ := r; rfl
  | flt _ => obtain ⟨t, rfl⟩ := r; rfl
  | ref _ => cases r; rfl
  | ty _ => cases r; rfl
theorem RelV.inj {x y : V} {u : Value} (r : RelV x u) (q : RelV y u) : x = y := Option.some.inj (r.abs.symm.trans q.abs)
theorem Vals.inj : ∀ {xs ys : List V} {us : List Value}, Vals xs us → Vals ys us → xs = ys
  | _, _, _, .nil, .nil => rfl
  | _, _, _, .cons r t, .cons r' t' => by rw [r.inj r', Vals.inj t t']
section
variable {X : Cx} {pins : List (Addr × Obj)} {σ : St} {H : Hp} {s : Shared} {a : Addr} {xs ys : List V}
theorem SqL.of {K : PySem.W.Frag} (h : H a = some (.lst xs)) : SqL K H a xs := .inl (.inl h)
theorem SqT.of {K : PySem.W.Frag} (h : H a = some (.tup xs)) : SqT K H a xs := .inl (.inl h)
theorem Inv.list (I : Inv X pins σ H s) (h : SqL X.K H a xs) : ∃ its : List Value, Vals xs its ∧ PlainL s.heap a its.toArray ∧ xs.length ≤ sizeLine := by
  rcases h with h | ⟨o, its, n, hk, hc, hd, hs, hz, r⟩
  · obtain ⟨z, its, n, r, e⟩ := h.ok I.hok
    exact ⟨its, r, ⟨_, n, e, rfl, rfl, rfl⟩, z⟩
  · refine ⟨its.toList, r, ⟨o, n, I.kIn a o hk, hc, hd, by simpa using hs⟩, ?_⟩
    have e := r.length
    simp only [Array.length_toList] at e
    omega
theorem Inv.tuple (I : Inv X pins σ H s) (h : SqT X.K H a xs) : ∃ its : List Value, Vals xs its ∧ IsTup s.heap a its.toArray ∧ xs.length ≤ sizeLine := by
  rcases h with h | ⟨o, its, n, hk, hc, hs, hz, r⟩
  · obtain ⟨z, its, r, p⟩ := h.ok I.hok
    exact ⟨its, r, p, z⟩
  · refine ⟨its.toList, r, ⟨o, I.kIn a o hk, hc, n, by simpa using hs⟩, ?_⟩
    have e := r.length
    simp only [Array.length_toList] at e
    omega
theorem Inv.list_inj (I : Inv X pins σ H s) (h : SqL X.K H a xs) (h' : SqL X.K H a ys) : xs = ys := by
  obtain ⟨its, r, ⟨o, n, e, _, _, d⟩, _⟩ := I.list h
  obtain ⟨its', r', ⟨o', n', e', _, _, d'⟩, _⟩ := I.list h'
  rw [e] at e'; cases e'
  rw [d] at d'
  injection d' with d1 _
  have : its = its' := by simpa using congrArg Array.toList d1
  subst this
  exact r.inj r'
theorem Inv.tuple_inj (I : Inv X pins σ H s) (h : SqT X.K H a xs) (h' : SqT X.K H a ys) : xs = ys := by
  obtain ⟨its, r, ⟨o, e, _, n, d⟩, _⟩ := I.tuple h
  obtain ⟨its', r', ⟨o', e', _, n', d'⟩, _⟩ := I.tuple h'
  rw [e] at e'; cases e'
  rw [d] at d'
  injection d' with d1 _
  have : its = its' := by simpa using congrArg Array.toList d1
  subst this
  exact r.inj r'
end

/-! ### another wish about exceptions -/
abbrev Cx.wish (X : Cx) (E : Value → Shared → Prop) : Cx := { X with xe := E }
/-- no exception leaves -/
abbrev Cx.nox (X : Cx) : Cx := X.wish fun _ _ => False
theorem Cx.Ok.wish {X : Cx} (ok : X.Ok) (E : Value → Shared → Prop) : (X.wish E).Ok :=
  ⟨ok.mod, ok.kind, ok.glob, ok.blt, ok.above, ok.inj, ok.has, ok.cab, ok.hd, ok.frames, ok.stk, ok.exf, ok.bs, ok.bsz, ok.noex, ok.exfs, ok.funs, ok.frf⟩
theorem Cx.Ok.unwish {X : Cx} {E : Value → Shared → Prop} (ok : (X.wish E).Ok) : X.Ok :=
  ⟨ok.mod, ok.kind, ok.glob, ok.blt, ok.above, ok.inj, ok.has, ok.cab, ok.hd, ok.frames, ok.stk, ok.exf, ok.bs, ok.bsz, ok.noex, ok.exfs, ok.funs, ok.frf⟩
section
variable {X : Cx} {pins : List (Addr × Obj)} {σ : St} {H : Hp} {s : Shared} {E : Value → Shared → Prop}
theorem Inv.wish (I : Inv X pins σ H s) (E : Value → Shared → Prop) : Inv (X.wish E) pins σ H s := ⟨I.ok.wish E, I.os, I.bare, I.base, I.loc, I.cell, I.free, I.freeC, I.pin, I.hok, I.len⟩
theorem Inv.unwish (I : Inv (X.wish E) pins σ H s) : Inv X pins σ H s := ⟨I.ok.unwish, I.os, I.bare, I.base, I.loc, I.cell, I.free, I.freeC, I.pin, I.hok, I.len⟩
theorem SP.unwish {D : Ends} {f : Flow} {s' : Shared} (h : SP (X.wish E) pins D f s') : SP X pins D f s' := by
  cases f with
  | next => obtain ⟨σ', H', I, q⟩ := h; exact ⟨σ', H', I.unwish, q⟩
  | brk => obtain ⟨σ', H', I, q⟩ := h; exact ⟨σ', H', I.unwish, q⟩
  | cont => obtain ⟨σ', H', I, q⟩ := h; exact ⟨σ', H', I.unwish, q⟩
  | ret u => obtain ⟨v, σ', H', I, r, q⟩ := h; exact ⟨v, σ', H', I.unwish, r, q⟩
theorem PE.nox {e : Expr} {t : TE} (h : PE X.nox e t) : PE X e t := fun pins s σ H Q I hw =>
  wpAny_mono (h pins s σ H Q (I.wish _) hw) (fun _ _ ⟨v, H', I', r, q⟩ => ⟨v, H', I'.unwish, r, q⟩) fun _ _ z => False.elim z
theorem PT.nox {e : Expr} {t : TT} (h : PT X.nox e t) : PT X e t := fun pins s σ H Q I hw =>
  wpAny_mono (h pins s σ H Q (I.wish _) hw) (fun _ _ ⟨H', I', q⟩ => ⟨H', I'.unwish, q⟩) fun _ _ z => False.elim z
theorem PSs.nox {st : List Stmt} {t : TS} (h : PSs X.nox st t) : PSs X st t := fun pins s σ H D I hw =>
  wpAny_mono (h pins s σ H D (I.wish _) hw) (fun _ _ q => q.unwish) fun _ _ z => False.elim z
end

/-! ### blocks and small statements -/
section
variable {X : Cx} {st : Stmt} {rest : List Stmt} {t u : TS} {e : Expr} {te : TE} {pos : Pos}
def tNext : TS := fun D σ H => D.nx σ H
def tSeq (t u : TS) : TS := fun D σ H => t { D with nx := u D } σ H
theorem pss_nil : PSs X [] tNext := fun _ _ σ H _ I h => wpAny_execs_nil ⟨σ, H, I, h⟩
theorem pss_cons (h1 : PS X st t) (h2 : PSs X rest u) : PSs X (st :: rest) (tSeq t u) := by
  intro pins s σ H D I h
  refine wpAny_execs_cons (thn (h1 pins s σ H { D with nx := u D } I h) fun f s1 q => ?_)
  cases f with
  | next =>
    obtain ⟨σ', H', I', q⟩ := q
    exact h2 pins s1 σ' H' D I' q
  | ret v => exact q
  | brk => exact q
  | cont => exact q
theorem pss_one (h1 : PS X st t) : PSs X [st] t := by
  intro pins s σ H D I h
  refine wpAny_execs_cons (thn (h1 pins s σ H D I h) fun f s1 q => ?_)
  cases f with
  | next => exact wpAny_execs_nil q
  | ret v => exact q
  | brk => exact q
  | cont => exact q
/-- in a def's body nothing is shown -/
theorem Inv.quiet {pins : List (Addr × Obj)} {σ : St} {H : Hp} {s : Shared} (I : Inv X pins σ H s) : interactive X.env = false := by simp [interactive, I.ok.kind]
/-- an expression whose value is dropped -/
def tDrop (te : TE) : TS := fun D σ H => te σ H fun _ H1 => D.nx σ H1
theorem ps_expr (he : PE X e te) (hs : swapsWith e none pos.line X.env = pure false := by rfl) : PS X (.Expr e pos) (tDrop te) := by
  intro pins s σ H D I h
  exact wpAny_Expr_any (thn (he pins s σ H _ I h) fun v s1 ⟨x, H1, I1, r1, q1⟩ => ⟨σ, H1, I1, q1⟩) I.quiet hs
def tRet (te : TE) : TS := fun D σ H => te σ H D.rt
theorem ps_ret (he : PE X e te) : PS X (.Return (some e) pos) (tRet te) := by
  intro pins s σ H D I h
  exact wpAny_Return_some (thn (he pins s σ H _ I h) fun v s1 ⟨x, H1, I1, r1, q1⟩ => ⟨x, σ, H1, I1, r1, q1⟩)
def tIfS (c : TT) (t u : TS) : TS := fun D σ H => c σ H fun b H1 => if b = true then t D σ H1 else u D σ H1
theorem ps_if {c : Expr} {a b : List Stmt} {tc : TT} (hc : PT X c tc) (ha : PSs X a t) (hb : PSs X b u) : PS X (.If c a b pos) (tIfS tc t u) := by
  intro pins s σ H D I h
  refine wpAny_If (thn (hc pins s σ H _ I h) fun d s1 ⟨H1, I1, q1⟩ => ?_)
  cases d with
  | true => exact ha pins s1 σ H1 D I1 q1
  | false => exact hb pins s1 σ H1 D I1 q1
end

/-! ### targets -/
abbrev TG := V → St → Hp → (St → Hp → Prop) → Prop
abbrev TGs := List V → St → Hp → (St → Hp → Prop) → Prop
def PG (X : Cx) (target : Expr) (t : TG) : Prop :=
  ∀ (pins : List (Addr × Obj)) (s : Shared) (σ : St) (H : Hp) (v : V) (u : Value) (Q : St → Hp → Prop), Inv X pins σ H s → RelV v u → t v σ H Q →
    wpAny (model X.prog X.w) X.A (assign target X.env u) (fun _ s' => ∃ σ' H', Inv X pins σ' H' s' ∧ Q σ' H') X.xe s
/-- several targets, one after another -/
def PGs (X : Cx) (ts : List Expr) (t : TGs) : Prop :=
  ∀ (pins : List (Addr × Obj)) (s : Shared) (σ : St) (H : Hp) (vs : List V) (us : List Value) (Q : St → Hp → Prop), Inv X pins σ H s → Vals vs us → t vs σ H Q →
    wpAny (model X.prog X.w) X.A (assignInOrder ((assignEach ts X.env).map (·.2)) us) (fun _ s' => ∃ σ' H', Inv X pins σ' H' s' ∧ Q σ' H') X.xe s
/-- o[i] = v, by values -/
abbrev TSet := V → V → V → Hp → (Hp → Prop) → Prop
def PSet (X : Cx) (t : TSet) : Prop :=
  ∀ (pins : List (Addr × Obj)) (s : Shared) (σ : St) (H : Hp) (o i v : V) (ov iv u : Value) (Q : Hp → Prop), Inv X pins σ H s → RelV o ov → RelV i iv → RelV v u → t o i v H Q →
    wpAny (model X.prog X.w) X.A (setItem ov iv u) (fun _ s' => ∃ H', Inv X pins σ H' s' ∧ Q H') X.xe s
section
variable {X : Cx} {pos : Pos}
def gName (i : Nat) : TG := fun v σ H Q => Q (σ.set i (some v)) H
theorem pg_name {i : Nat} {x : Str} (hN : X.N.Nodup) (hi : X.N[i]? = some x) (hx : Loc X.env.scope x) (hf : X.fn x = true ∨ X.env.scope.names.lookup x = some .local := by first | exact .inl rfl | exact .inr rfl | assumption) : PG X (.Name x pos) (gName i) := by
  intro pins s σ H v u Q I r h
  exact wpAny_assign_Name (store_ok I hN hi hx r (fun s' I' => ⟨_, H, I', h⟩) hf)
def gNil : TGs := fun vs σ H Q => vs = [] ∧ Q σ H
def gCons (t : TG) (u : TGs) : TGs := fun vs σ H Q => ∃ v r, vs = v :: r ∧ t v σ H fun σ' H' => u r σ' H' Q
theorem pgs_nil : PGs X [] gNil := by
  intro pins s σ H vs us Q I r h
  obtain ⟨e, h⟩ := h
  subst e
  cases r
  exact assignInOrder_nil ⟨σ, H, I, h⟩
theorem pgs_cons {e : Expr} {es : List Expr} {t : TG} {u : TGs} (h1 : PG X e t) (h2 : PGs X es u)
    (hs : (assignEach (e :: es) X.env).map (·.2) = assign e X.env :: (assignEach es X.env).map (·.2) := by rfl) : PGs X (e :: es) (gCons t u) := by
  intro pins s σ H vs us Q I r h
  obtain ⟨v, vr, e1, h⟩ := h
  subst e1
  cases r with
  | cons r rr =>
    rw [hs]
    refine assignInOrder_cons (thn (h1 pins s σ H _ _ _ I r h) fun _ s1 ⟨σ1, H1, I1, q1⟩ => ?_)
    exact h2 pins s1 σ1 H1 _ _ Q I1 rr q1
/-- (a, b, ..) = a tuple of that length -/
def gTup (K : PySem.W.Frag) (n : Nat) (t : TGs) : TG := fun v σ H Q => ∃ a xs, v = .ref a ∧ SqT K H a xs ∧ xs.length = n ∧ t xs σ H Q
theorem pg_tup {es : List Expr} {k : Nat} {t : TGs} {n : Nat} (hc : X.calm = true) (h : PGs X es t)
    (hn : (assignEach es X.env).length = n := by rfl) (hst : (assignEach es X.env).findIdx? (·.1) = none := by rfl) : PG X (.Tuple es k pos) (gTup X.K n t) := by
  intro pins s σ H v u Q I r hw
  obtain ⟨a, xs, e1, hq, hl, hw⟩ := hw
  subst e1
  cases r
  obtain ⟨its, rv, ht, hz⟩ := I.tuple hq
  refine assign_Tuple_tuple (I.ok.hd hc) ht (by simp [hn, ← hl, rv.length]) hst fun h' hx => ?_
  have I1 : Inv X pins σ H { s with heap := h' } := I.kept (t' := s.toks) fun b o e => hx b o (Nat.ne_of_lt (Heap.lt_size e)) e
  exact h pins _ σ H xs _ Q I1 (by simpa using rv) hw
/-- o[i] = .. -/
def gSub (to ti : TE) (t : TSet) : TG := fun v σ H Q => to σ H fun o H1 => ti σ H1 fun i H2 => t o i v H2 fun H3 => Q σ H3
theorem pg_sub {o i : Expr} {to ti : TE} {t : TSet} (ho : PE X o to) (hi : PE X i ti) (hs : PSet X t)
    (ha : ∀ v, assign (.Subscript o i pos) X.env v = (do
      let ov ← holding [v] (eval o X.env)
      let iv ← holding [v, ov] (eval i X.env)
      standAt pos
      holding [v, ov, iv] (setItem ov iv v)
      release [v, ov, iv] []) := by intro _; rfl) : PG X (.Subscript o i pos) (gSub to ti t) := by
  intro pins s σ H v u Q I r h
  rw [ha]
  refine wpAny_bind (wpAny_holding (thn (ho pins s σ H _ I h) fun ov s1 ⟨x, H1, I1, r1, q1⟩ => ?_))
  refine wpAny_bind (wpAny_holding (thn (hi pins s1 σ H1 _ I1 q1) fun iv s2 ⟨y, H2, I2, r2, q2⟩ => ?_))
  refine wpAny_bind (wpAny_standAt (wpAny_bind (wpAny_holding (thn (hs pins s2 σ H2 x y v ov iv u _ I2 r1 r2 r q2) fun _ s3 ⟨H3, I3, q3⟩ => ?_))))
  exact wpAny_release ⟨σ, H3, I3, q3⟩
/-- target = value -/
def tAsg (te : TE) (g : TG) : TS := fun D σ H => te σ H fun x H1 => g x σ H1 D.nx
theorem ps_asg {tg e : Expr} {te : TE} {g : TG} (he : PE X e te) (hg : PG X tg g) (hs : swapsWithSole [tg] e pos.line X.env = pure false := by rfl) (hw : swappedStores [tg] e X.env = pure none := by rfl)
    (h1 : (assignEach [tg] X.env).map (·.2) = [assign tg X.env] := by rfl) : PS X (.Assign [tg] e pos) (tAsg te g) := by
  intro pins s σ H D I h
  refine wpAny_Assign_stores (thn (he pins s σ H _ I h) fun v s1 ⟨x, H1, I1, r1, q1⟩ => ?_) hs hw
  rw [h1]
  exact thn (hg pins s1 σ H1 x v _ I1 r1 q1) fun _ s2 q => q
/-- name = value -/
theorem ps_set {i : Nat} {x : Str} {e : Expr} {te : TE} {pos' : Pos} (hN : X.N.Nodup) (hi : X.N[i]? = some x) (hx : Loc X.env.scope x) (he : PE X e te) (hs : swapsWith e (some (.Name x pos')) pos.line X.env = pure false := by rfl) (hf : X.fn x = true ∨ X.env.scope.names.lookup x = some .local := by first | exact .inl rfl | exact .inr rfl | assumption) :
    PS X (.Assign [.Name x pos'] e pos) (tAsg te (gName i)) := by
  intro pins s σ H D I h
  refine wpAny_Assign_Name (thn (he pins s σ H _ I h) fun v s1 ⟨y, H1, I1, r1, q1⟩ => ?_) hs
  exact store_ok I1 hN hi hx r1 (fun s2 I2 => ⟨_, H1, I2, q1⟩) hf
end

/-! ### while -/
section
variable {X : Cx} {pos : Pos}
/-- the invariant W with its measure -/
def tWhile (c : TT) (tb : TS) : TS := fun D σ H => ∃ W : Nat → St → Hp → Prop, (∃ m, W m σ H) ∧ ∀ m σ H, W m σ H →
  c σ H fun b H1 => if b = true then ∃ N : St → Hp → Prop, (∀ σ' H', N σ' H' → ∃ m', m' < m ∧ W m' σ' H') ∧ tb { D with nx := N, ct := N, bk := D.nx } σ H1 else D.nx σ H1
theorem ps_while {c : Expr} {body : List Stmt} {tc : TT} {tb : TS} (hp : PassesOwn (model X.prog X.w) X.A X.env X.xe) (hc : PT X c tc) (hb : PSs X body tb) : PS X (.While c body [] pos) (tWhile tc tb) := by
  intro pins s σ H D I h
  obtain ⟨W, ⟨m0, w0⟩, turn⟩ := h
  refine wpAny_While (codeAny_whileLoop (fun n s' => ∃ σ' H', Inv X pins σ' H' s' ∧ W n σ' H') ?_ m0 ⟨σ, H, I, w0⟩)
  rintro n s1 ⟨σ1, H1, I1, w1⟩
  refine wpAny_passesOwn hp (thn (hc pins s1 σ1 H1 _ I1 (turn n σ1 H1 w1)) fun b s2 ⟨H2, I2, q2⟩ => ?_)
  cases b with
  | true =>
    obtain ⟨N, hN, q2⟩ := q2
    rw [if_pos rfl]
    refine wpAny_passesOwn hp (thn (hb pins s2 σ1 H2 _ I2 q2) fun f s3 q3 => ?_)
    cases f with
    | next =>
      obtain ⟨σ3, H3, I3, n3⟩ := q3
      obtain ⟨m', hm, w3⟩ := hN σ3 H3 n3
      exact ⟨m', hm, σ3, H3, I3, w3⟩
    | cont =>
      obtain ⟨σ3, H3, I3, n3⟩ := q3
      obtain ⟨m', hm, w3⟩ := hN σ3 H3 n3
      exact ⟨m', hm, σ3, H3, I3, w3⟩
    | brk => exact q3
    | ret v => exact q3
  | false =>
    rw [if_neg Bool.false_ne_true]
    exact wpAny_execs_nil ⟨σ1, H2, I2, q2⟩
end

/-! ### what a loop or a comprehension walks -/
/-- at turn i: it yields x (the heap may grow), or it stops -/
structure It where
  go : Nat → Hp → Prop
  yld : Nat → Hp → V → Hp → Prop
  stop : Nat → Hp → Prop
/-- the iterator's own objects may turn: they are not the frame's, not pinned, younger than the entry (or a comprehension's own) -/
def FpOk (X : Cx) (pins : List (Addr × Obj)) (H : Hp) (b : Addr) : Prop :=
  H b = none ∧ b ≠ X.env.locals ∧ b ∉ X.fs ∧ (b ∈ X.ex ∨ X.s₀.heap.objs.size ≤ b) ∧ (∀ x c, X.env.cells.lookup x = some c → c ≠ b) ∧ ∀ p ∈ X.pn ++ pins, p.1 ≠ b
theorem Inv.fpOk {X : Cx} {pins : List (Addr × Obj)} {σ : St} {H H' : Hp} {s : Shared} {b : Addr} (I : Inv X pins σ H s) (hb : s.heap.objs.size ≤ b) (hn : H' b = none) : FpOk X pins H' b := by
  refine ⟨hn, Nat.ne_of_gt (Nat.lt_of_lt_of_le I.lt hb), I.nofs hb, .inr (Nat.le_trans I.sz hb), fun x c e z => ?_, fun p hp z => ?_⟩
  · obtain ⟨v, q⟩ := I.cell x c e
    exact absurd (Nat.lt_of_lt_of_le q.lt (by rw [z]; exact hb)) (Nat.lt_irrefl _)
  · exact absurd (Nat.lt_of_lt_of_le (Heap.lt_size (I.pin p hp).1) (by rw [z]; exact hb)) (Nat.lt_irrefl _)
structure Turn (P : Program) (w : World) (K : PySem.W.Frag) (tg : Expr) (J : It) (fp : List Addr) (it : Addr) (tn : Nat → Heap → Prop) : Prop where
  mem : it ∈ fp
  obj : ∀ i h, tn i h → ∀ b ∈ fp, ∃ o, h.get? b = some o ∧ ∀ v, o.data ≠ .cell v
  keep : ∀ i h h', tn i h → (∀ b ∈ fp, ∀ o, h.get? b = some o → h'.get? b = some o) → tn i h'
  item : ∀ (X : Cx), X.prog = P → X.w = w → X.K = K → X.calm = true → ∀ (i : Nat) (pins : List (Addr × Obj)) (s : Shared) (σ : St) (H : Hp) (E : Value → Shared → Prop), Inv X pins σ H s → (∀ b ∈ fp, FpOk X pins H b) → tn i s.heap → J.go i H →
    wpAny (model P w) X.A (pyNext (.ref it)) (fun r s1 => ∃ u, r = some u ∧
      wpAny (model P w) X.A (letOwnedTupleGo tg (.ref it) u) (fun _ s2 => ∃ x H', Inv X pins σ H' s2 ∧ RelV x u ∧ J.yld i H x H' ∧ tn (i + 1) s2.heap ∧ ∀ b ∈ fp, H' b = none) E s1) E s
  done : ∀ (X : Cx), X.prog = P → X.w = w → X.K = K → X.calm = true → ∀ (i : Nat) (pins : List (Addr × Obj)) (s : Shared) (σ : St) (H : Hp) (E : Value → Shared → Prop), Inv X pins σ H s → (∀ b ∈ fp, FpOk X pins H b) → tn i s.heap → J.stop i H →
    wpAny (model P w) X.A (pyNext (.ref it)) (fun r s1 => r = none ∧ Inv X pins σ H s1) E s
  self : ∀ (A : Around) (i : Nat) (s : Shared) (Q : Value → Shared → Prop) (E : Value → Shared → Prop), tn i s.heap → Q (.ref it) s → wpAny (model P w) A (pyIter (.ref it)) Q E s
abbrev TI := St → Hp → (It → Hp → Prop) → Prop
/-- an iterator has come -/
def PIE (X : Cx) (pins : List (Addr × Obj)) (σ : St) (tg : Expr) (R : It → Hp → Prop) (itv : Value) (s2 : Shared) : Prop :=
  ∃ (it : Addr) (fp : List Addr) (tn : Nat → Heap → Prop) (J : It) (H' : Hp), itv = .ref it ∧ Inv X pins σ H' s2 ∧ Turn X.prog X.w X.K tg J fp it tn ∧ tn 0 s2.heap ∧ (∀ b ∈ fp, FpOk X pins H' b) ∧ R J H'
def PI (X : Cx) (tg iter : Expr) (wi : TI) : Prop :=
  ∀ (pins : List (Addr × Obj)) (s : Shared) (σ : St) (H : Hp) (R : It → Hp → Prop), Inv X pins σ H s → wi σ H R →
    wpAny (model X.prog X.w) X.A (eval iter X.env) (fun v s1 => wpAny (model X.prog X.w) X.A (pyIter v) (PIE X pins σ tg R) X.xe s1) X.xe s

/-- the step ahead of the store is nothing for an iterator that keeps no tuple -/
theorem go_of {M : Model} {A : Around} {E : Value → Shared → Prop} {s : Shared} {tg : Expr} {it : Addr} {u : Value} {o : Obj} {n : String} {vs : Array Value} {Q : Unit → Shared → Prop} (ho : s.heap.get? it = some o) (hc : o.cls = .type n) (hd : o.data = .fields vs)
    (hn : ["enumerate", "zip", "dict_itemiterator", "dict_reverseitemiterator", "odict_iterator", "itertools.zip_longest", "itertools.pairwise"].contains n = false) (hQ : Q () s) : wpAny M A (letOwnedTupleGo tg (.ref it) u) Q E s := by
  unfold letOwnedTupleGo
  cases tg <;> first
    | exact wpAny_pure hQ
    | (cases u <;> first
        | exact wpAny_pure hQ
        | (refine wpAny_bind (wpAny_load ho ?_)
           rw [hc, hd]
           show wpAny M A (if (["enumerate", "zip", "dict_itemiterator", "dict_reverseitemiterator", "odict_iterator", "itertools.zip_longest", "itertools.pairwise"].contains n && vs[0]? == some (rawInt _)) = true then _ else _) Q E s
           rw [if_neg (by intro h; rw [hn, Bool.false_and] at h; cases h)]
           exact wpAny_pure hQ))

/-- the list at a, as it stands at each turn (a loop may append to it) -/
def Itl (K : PySem.W.Frag) (a : Addr) : It :=
  ⟨fun i H => ∃ xs x, SqL K H a xs ∧ xs[i]? = some x, fun i H x H' => H' = H ∧ ∀ xs, SqL K H a xs → xs[i]? = some x, fun i H => ∃ xs, SqL K H a xs ∧ xs.length ≤ i⟩
def Itt (K : PySem.W.Frag) (a : Addr) : It :=
  ⟨fun i H => ∃ xs x, SqT K H a xs ∧ xs[i]? = some x, fun i H x H' => H' = H ∧ ∀ xs, SqT K H a xs → xs[i]? = some x, fun i H => ∃ xs, SqT K H a xs ∧ xs.length ≤ i⟩
/-- lo, lo + 1, .. (n of them) -/
def Itr (lo : Int) (n : Nat) : It := ⟨fun i _ => i < n, fun i H x H' => H' = H ∧ x = .int (lo + i), fun i _ => n ≤ i⟩
theorem turn_list {P : Program} {w : World} {K : PySem.W.Frag} {tg : Expr} (a it : Addr) : Turn P w K tg (Itl K a) [it] it (fun i h => h.IsListIter it a i) where
  mem := by simp
  obj := fun i h st b hb => by
    have e : b = it := by simpa using hb
    subst e
    obtain ⟨o, e, c, d⟩ := st
    exact ⟨o, e, fun v z => by rw [d] at z; cases z⟩
  keep := fun i h h' st k => st.at fun o e => k it (by simp) o e
  item := by
    intro X hP hw hK hc i pins s σ H E I hf st hg
    subst hP hw hK
    obtain ⟨xs, x, hq, hx⟩ := hg
    obtain ⟨its, rv, p, hz⟩ := I.list hq
    obtain ⟨u, hu, ru⟩ := rv.get hx
    obtain ⟨f0, f1, f2, f3, f4, f5⟩ := hf it (by simp)
    refine wpAny_pyNext_list_item st p.isList (x := u) (by simpa using hu) fun h' st' sb => ?_
    have I1 : Inv X pins σ H { s with heap := h' } := I.turned (t' := s.toks) (fun b o hb e => (sb.2 b hb).trans e) f0 f1 f3 f4 f5
    obtain ⟨o, e, c, d⟩ := id st'
    exact ⟨u, rfl, go_of (s := { s with heap := h' }) e c d (by decide) ⟨x, H, I1, ru, ⟨rfl, fun ys hy => by rw [I.list_inj hy hq]; exact hx⟩, st', fun b hb => (hf b hb).1⟩⟩
  done := by
    intro X hP hw hK hc i pins s σ H E I hf st hg
    subst hP hw hK
    obtain ⟨xs, hq, hx⟩ := hg
    obtain ⟨its, rv, p, hz⟩ := I.list hq
    obtain ⟨f0, f1, f2, f3, f4, f5⟩ := hf it (by simp)
    have hl := rv.length
    exact wpAny_pyNext_list_end (I.ok.hd hc) st p.isList (by simp; omega) fun h' eb => ⟨rfl, I.turned (t' := s.toks) (fun b o hb e => eb b o hb e) f0 f1 f3 f4 f5⟩
  self := fun _ _ _ _ _ st h => wpAny_pyIter_listiter st h
theorem turn_tuple {P : Program} {w : World} {K : PySem.W.Frag} {tg : Expr} (a it : Addr) : Turn P w K tg (Itt K a) [it] it (fun i h => h.IsTupleIter it a i) where
  mem := by simp
  obj := fun i h st b hb => by
    have e : b = it := by simpa using hb
    subst e
    obtain ⟨o, e, c, d⟩ := st
    exact ⟨o, e, fun v z => by rw [d] at z; cases z⟩
  keep := fun i h h' st k => st.at fun o e => k it (by simp) o e
  item := by
    intro X hP hw hK hc i pins s σ H E I hf st hg
    subst hP hw hK
    obtain ⟨xs, x, hq, hx⟩ := hg
    obtain ⟨its, rv, p, hz⟩ := I.tuple hq
    obtain ⟨u, hu, ru⟩ := rv.get hx
    obtain ⟨f0, f1, f2, f3, f4, f5⟩ := hf it (by simp)
    refine wpAny_pyNext_tuple_item st (show s.heap.IsTuple a its.toArray from p) (x := u) (by simpa using hu) fun h' st' sb => ?_
    have I1 : Inv X pins σ H { s with heap := h' } := I.turned (t' := s.toks) (fun b o hb e => (sb.2 b hb).trans e) f0 f1 f3 f4 f5
    obtain ⟨o, e, c, d⟩ := id st'
    exact ⟨u, rfl, go_of (s := { s with heap := h' }) e c d (by decide) ⟨x, H, I1, ru, ⟨rfl, fun ys hy => by rw [I.tuple_inj hy hq]; exact hx⟩, st', fun b hb => (hf b hb).1⟩⟩
  done := by
    intro X hP hw hK hc i pins s σ H E I hf st hg
    subst hP hw hK
    obtain ⟨xs, hq, hx⟩ := hg
    obtain ⟨its, rv, p, hz⟩ := I.tuple hq
    obtain ⟨f0, f1, f2, f3, f4, f5⟩ := hf it (by simp)
    have hl := rv.length
    exact wpAny_pyNext_tuple_end (I.ok.hd hc) st (show s.heap.IsTuple a its.toArray from p) (by simp; omega) fun h' eb => ⟨rfl, I.turned (t' := s.toks) (fun b o hb e => eb b o hb e) f0 f1 f3 f4 f5⟩
  self := fun _ _ _ _ _ st h => wpAny_pyIter_tupleiter st h
theorem turn_range {P : Program} {w : World} {K : PySem.W.Frag} {tg : Expr} (it : Addr) (lo : Int) (n : Nat) : Turn P w K tg (Itr lo n) [it] it (fun i h => IsRangeIter h it (lo + (i : Nat) * 1) ((n : Int) - (i : Nat)) 1) where
  mem := by simp
  obj := fun i h st b hb => by
    have e : b = it := by simpa using hb
    subst e
    exact ⟨_, st, fun v z => by
      have z' : Data.fields _ = Data.cell v := z
      cases z'⟩
  keep := fun i h h' st k => k it (by simp) _ st
  item := by
    intro X hP hw hK hc i pins s σ H E I hf st hg
    subst hP hw hK
    obtain ⟨f0, f1, f2, f3, f4, f5⟩ := hf it (by simp)
    have W := Walks.range (prog := X.prog) (w := X.w) (I.ok.hd hc) it lo 1 n
    refine W.item i s _ _ hg st fun v h' tk hv st' kk => ?_
    obtain ⟨t, rfl⟩ := hv
    have I1 : Inv X pins σ H { s with heap := h', toks := tk } := I.turned (fun b o hb e => kk b o (by simpa using hb) e) f0 f1 f3 f4 f5
    refine ⟨_, rfl, go_of (s := { s with heap := h', toks := tk }) (n := "range_iterator") st' rfl rfl (by decide) ⟨.int (lo + i), H, I1, ⟨t, ?_⟩, ⟨rfl, rfl⟩, st', fun b hb => (hf b hb).1⟩⟩
    rw [Int.mul_one]
  done := by
    intro X hP hw hK hc i pins s σ H E I hf st hg
    subst hP hw hK
    obtain ⟨f0, f1, f2, f3, f4, f5⟩ := hf it (by simp)
    exact wpAny_pyNext_range_end (I.ok.hd hc) st (by have : n ≤ i := hg; omega) fun h' eb => ⟨rfl, I.turned (t' := s.toks) (fun b o hb e => eb b o hb e) f0 f1 f3 f4 f5⟩
  self := fun _ _ _ _ _ st h => wpAny_pyIter_rangeiter st h
end L2

namespace L2
open PySem PySem.Spec PyProof.Rows
section
variable {X : Cx} {tg : Expr}
def iList (K : PySem.W.Frag) (tl : TE) : TI := fun σ H R => tl σ H fun x H1 => ∃ a, x = .ref a ∧ (∃ xs, SqL K H1 a xs) ∧ R (Itl K a) H1
def iTup (K : PySem.W.Frag) (tl : TE) : TI := fun σ H R => tl σ H fun x H1 => ∃ a, x = .ref a ∧ (∃ xs, SqT K H1 a xs) ∧ R (Itt K a) H1
theorem pi_list {l : Expr} {tl : TE} (hl : PE X l tl) : PI X tg l (iList X.K tl) := by
  intro pins s σ H R I h
  refine thn (hl pins s σ H _ I h) fun v s1 ⟨x, H1, I1, r1, q1⟩ => ?_
  obtain ⟨a, e, ⟨xs, hq⟩, q⟩ := q1
  subst e
  cases r1
  obtain ⟨its, rv, p, hz⟩ := I1.list hq
  refine wpAny_pyIter_list p.isList ?_
  refine ⟨s1.heap.objs.size, [s1.heap.objs.size], _, _, H1, rfl, I1.kept (t' := s1.toks) fun b o e => Heap.get?_push_of_some _ e, turn_list a _, ⟨_, Heap.get?_push_size _ rfl, rfl, rfl⟩, fun b hb => ?_, q⟩
  have e : b = s1.heap.objs.size := by simpa using hb
  subst e
  exact I1.fpOk (Nat.le_refl _) (I1.hok.fresh (Nat.le_refl _))
theorem pi_tup {l : Expr} {tl : TE} (hl : PE X l tl) : PI X tg l (iTup X.K tl) := by
  intro pins s σ H R I h
  refine thn (hl pins s σ H _ I h) fun v s1 ⟨x, H1, I1, r1, q1⟩ => ?_
  obtain ⟨a, e, ⟨xs, hq⟩, q⟩ := q1
  subst e
  cases r1
  obtain ⟨its, rv, p, hz⟩ := I1.tuple hq
  refine wpAny_pyIter_tuple (show s1.heap.IsTuple a its.toArray from p) ?_
  refine ⟨s1.heap.objs.size, [s1.heap.objs.size], _, _, H1, rfl, I1.kept (t' := s1.toks) fun b o e => Heap.get?_push_of_some _ e, turn_tuple a _, ⟨_, Heap.get?_push_size _ rfl, rfl, rfl⟩, fun b hb => ?_, q⟩
  have e : b = s1.heap.objs.size := by simpa using hb
  subst e
  exact I1.fpOk (Nat.le_refl _) (I1.hok.fresh (Nat.le_refl _))
/-- a range object just made, walked -/
theorem range_it {pins : List (Addr × Obj)} {σ : St} {H : Hp} {s : Shared} {R : It → Hp → Prop} {E : Value → Shared → Prop} {lo hi : Int} {t u v : Tok} {tk : Nat} (I : Inv X pins σ H s) (h1 : -(2 ^ 62) ≤ lo) (h2 : lo < 2 ^ 62) (h3 : -(2 ^ 62) ≤ hi) (h4 : hi < 2 ^ 62)
    (q : R (Itr lo (hi - lo).toNat) H) : wpAny (model X.prog X.w) X.A (pyIter (.ref s.heap.objs.size)) (PIE X pins σ tg R) E { s with heap := s.heap.push { cls := .type "range", data := .fields #[.int lo t, .int hi u, .int 1 v] }, toks := tk } := by
  refine wpAny_pyIter_range (IsRange.new ..) (small_one h1 h2 h3 h4) ?_
  have I1 : Inv X pins σ H { s with heap := s.heap.push { cls := .type "range", data := .fields #[.int lo t, .int hi u, .int 1 v] }, toks := tk } := I.kept fun b o e => Heap.get?_push_of_some _ e
  refine ⟨(s.heap.push { cls := .type "range", data := .fields #[.int lo t, .int hi u, .int 1 v] }).objs.size, [(s.heap.push { cls := .type "range", data := .fields #[.int lo t, .int hi u, .int 1 v] }).objs.size], _, _, H, rfl,
    I1.kept (t' := tk) fun b o e => Heap.get?_push_of_some _ e, turn_range _ lo (hi - lo).toNat, ?_, fun b hb => ?_, q⟩
  · have e1 : lo + ((0 : Nat) : Int) * 1 = lo := by simp
    have e2 : (((hi - lo).toNat : Nat) : Int) - ((0 : Nat) : Int) = Builtin.Range.rangeSize lo hi 1 := by rw [rangeSize_one]; split <;> omega
    show IsRangeIter _ _ (lo + ((0 : Nat) : Int) * 1) ((((hi - lo).toNat : Nat) : Int) - ((0 : Nat) : Int)) 1
    rw [e1, e2]
    exact Heap.get?_push_size _ rfl
  · have e : b = (s.heap.push { cls := .type "range", data := .fields #[.int lo t, .int hi u, .int 1 v] }).objs.size := by simpa using hb
    subst e
    exact I1.fpOk (Nat.le_refl _) (I1.hok.fresh (Nat.le_refl _))
def iRng1 (ta : TA) : TI := fun σ H R => ta σ H fun vs H1 => ∃ j : Int, vs = [.int j] ∧ -(2 ^ 62) ≤ j ∧ j < 2 ^ 62 ∧ R (Itr 0 j.toNat) H1
theorem pi_range1 {a : Expr} {ta : TA} {p pos : Pos} (hg : Gl X "range") (hm : X.mg "range" = none) (ha : PA X [a] ta) (hs : starEach [a] X.env = [(false, eval a X.env)] := by rfl) : PI X tg (.Call (.Name "range" p) [a] [] pos) (iRng1 ta) := by
  intro pins s σ H R I h
  refine Call_ (ld_blt I hg hm boot_range (PyProof.Rows.callWith_type1 (thn (ha pos pins s σ H _ I h) fun us s1 ⟨vs, H1, I1, r1, q1⟩ => ?_) hs rfl))
  obtain ⟨j, e, q1, q2, q⟩ := q1
  subst e
  cases r1 with
  | cons r rr =>
    cases rr
    obtain ⟨t, rfl⟩ := r
    exact call_range_1 (range_it I1 (by omega) (by omega) q1 q2 (by simpa using q))
/-! ### for -/
/-- W: the invariant by the turn and a measure; N: what the body is to reach -/
def tFor (wi : TI) (g : TG) (tb : TS) : TS := fun D σ H => wi σ H fun J H1 => ∃ W : Nat → Nat → St → Hp → Prop, (∃ m, W 0 m σ H1) ∧ ∀ i m σ H, W i m σ H →
  (J.stop i H ∧ D.nx σ H) ∨ (J.go i H ∧ ∃ N : St → Hp → Prop, (∀ σ' H', N σ' H' → ∃ m', m' < m ∧ W (i + 1) m' σ' H') ∧ ∀ x H', J.yld i H x H' → g x σ H' fun σ2 H2 => tb { D with nx := N, ct := N, bk := D.nx } σ2 H2)
/-- the records at fp as they stand -/
def pinsAt (fp : List Addr) (h : Heap) : List (Addr × Obj) := fp.filterMap fun b => (h.get? b).map fun o => (b, o)
theorem mem_pinsAt {fp : List Addr} {h : Heap} {b : Addr} {o : Obj} (hb : b ∈ fp) (e : h.get? b = some o) : (b, o) ∈ pinsAt fp h := List.mem_filterMap.mpr ⟨b, hb, by rw [e]; rfl⟩
theorem of_pinsAt {fp : List Addr} {h : Heap} {p : Addr × Obj} (hp : p ∈ pinsAt fp h) : p.1 ∈ fp ∧ h.get? p.1 = some p.2 := by
  obtain ⟨b, hb, e⟩ := List.mem_filterMap.mp hp
  cases q : h.get? b with
  | none => rw [q] at e; cases e
  | some o =>
    rw [q] at e
    have e' : (b, o) = p := Option.some.inj e
    subst e'
    exact ⟨hb, q⟩
theorem Inv.pinned {pins : List (Addr × Obj)} {σ : St} {H : Hp} {s : Shared} {fp : List Addr} (I : Inv X pins σ H s) (hf : ∀ b ∈ fp, FpOk X pins H b) (ho : ∀ b ∈ fp, ∃ o, s.heap.get? b = some o ∧ ∀ v, o.data ≠ .cell v) : Inv X (pins ++ pinsAt fp s.heap) σ H s :=
  I.pins_of fun p hp => (List.mem_append.mp hp).elim (fun z => I.pin p (List.mem_append_right _ z)) fun z => by
    obtain ⟨hb, e⟩ := of_pinsAt z
    obtain ⟨f0, f1, f2, _⟩ := hf p.1 hb
    obtain ⟨o, e', d⟩ := ho p.1 hb
    rw [e] at e'; cases e'
    exact ⟨e, f0, f1, f2, d⟩
theorem Inv.unpinned {pins pl : List (Addr × Obj)} {σ : St} {H : Hp} {s : Shared} (I : Inv X (pins ++ pl) σ H s) : Inv X pins σ H s := I.pins_of fun p hp => I.pin p (List.mem_append_right _ (List.mem_append_left _ hp))
theorem ps_for {iter : Expr} {body : List Stmt} {wi : TI} {g : TG} {tb : TS} {pos : Pos} (hp : PassesOwn (model X.prog X.w) X.A X.env X.xe) (hc : X.calm = true) (hi : PI X tg iter wi) (hg : PG X tg g) (hb : PSs X body tb)
    (hs : ∀ x, foldedSetIterable iter X.env x = pure x := by intro _; rfl) : PS X (.For tg iter body [] pos) (tFor wi g tb) := by
  intro pins s σ H D I h
  refine wpAny_For (thn (hi pins s σ H _ I h) fun v s1 h1 => thn h1 fun itv s2 h2 => ?_) hs
  obtain ⟨it, fp, tn, J, H2, e, I2, T, st2, f2, W, ⟨m0, w0⟩, turn⟩ := h2
  subst e
  -- what stays true of the iterator's objects through the loop
  have stat : ∀ {H' : Hp}, (∀ b ∈ fp, H' b = none) → ∀ b ∈ fp, FpOk X pins H' b := fun hn b hb => ⟨hn b hb, (f2 b hb).2⟩
  refine codeAny_forLoop_any (fun n s' => ∃ i σ' H', Inv X pins σ' H' s' ∧ tn i s'.heap ∧ (∀ b ∈ fp, H' b = none) ∧ W i n σ' H') ?_ m0 ⟨0, σ, H2, I2, st2, fun b hb => (f2 b hb).1, w0⟩
  rintro n s3 ⟨i, σ3, H3, I3, st3, fr3, w3⟩
  rcases turn i n σ3 H3 w3 with ⟨stop, qn⟩ | ⟨go, N, hN, step⟩
  · refine wpAny_passesOwn hp (thn (T.done X rfl rfl rfl hc i pins s3 σ3 H3 X.xe I3 (stat fr3) st3 stop) fun r s4 ⟨hr, I4⟩ => ?_)
    subst hr
    exact wpAny_execs_nil ⟨σ3, H3, I4, qn⟩
  · refine wpAny_passesOwn hp (thn (T.item X rfl rfl rfl hc i pins s3 σ3 H3 X.xe I3 (stat fr3) st3 go) fun r s4 ⟨u, hr, h4⟩ => ?_)
    subst hr
    refine wpAny_passesOwn hp (thn h4 fun _ s5 ⟨x, H5, I5, r5, y5, st5, fr5⟩ => ?_)
    have I5' := I5.pinned (stat fr5) (T.obj _ _ st5)
    refine wpAny_passesOwn hp (thn (hg _ s5 σ3 H5 x u _ I5' r5 (step x H5 y5)) fun _ s6 ⟨σ6, H6, I6, q6⟩ => ?_)
    refine wpAny_passesOwn hp (thn (hb _ s6 σ6 H6 _ I6 q6) fun f s7 q7 => ?_)
    have again : ∀ {σ7 : St} {H7 : Hp}, Inv X (pins ++ pinsAt fp s5.heap) σ7 H7 s7 → N σ7 H7 → ∃ m, m < n ∧ ∃ i σ' H', Inv X pins σ' H' s7 ∧ tn i s7.heap ∧ (∀ b ∈ fp, H' b = none) ∧ W i m σ' H' := fun {σ7 H7} I7 n7 => by
      obtain ⟨m', hm, w7⟩ := hN σ7 H7 n7
      refine ⟨m', hm, i + 1, σ7, H7, I7.unpinned, T.keep _ _ _ st5 fun b hb o e => (I7.pin (b, o) (List.mem_append_right _ (List.mem_append_right _ (mem_pinsAt hb e)))).1, fun b hb => ?_, w7⟩
      obtain ⟨o, e, d⟩ := T.obj _ _ st5 b hb
      exact (I7.pin (b, o) (List.mem_append_right _ (List.mem_append_right _ (mem_pinsAt hb e)))).2.1
    cases f with
    | next => obtain ⟨σ7, H7, I7, n7⟩ := q7; exact again I7 n7
    | cont => obtain ⟨σ7, H7, I7, n7⟩ := q7; exact again I7 n7
    | brk => obtain ⟨σ7, H7, I7, q7⟩ := q7; exact ⟨σ7, H7, I7.unpinned, q7⟩
    | ret v => obtain ⟨x7, σ7, H7, I7, r7, q7⟩ := q7; exact ⟨x7, σ7, H7, I7.unpinned, r7, q7⟩
end

/-! ### the forms one uses -/
theorem for_tup {K : PySem.W.Frag} {a : Addr} {xs : List V} {g : TG} {tb : TS} {D : Ends} {σ : St} {H : Hp} (Pv : Nat → St → Hp → Prop) (h0 : Pv 0 σ H) (hl : ∀ i σ H, i ≤ xs.length → Pv i σ H → SqT K H a xs)
    (hs : ∀ i x σ H, xs[i]? = some x → Pv i σ H → g x σ H fun σ2 H2 => tb { D with nx := Pv (i + 1), ct := Pv (i + 1), bk := D.nx } σ2 H2) (hd : ∀ σ H, Pv xs.length σ H → D.nx σ H) :
    ∃ W : Nat → Nat → St → Hp → Prop, (∃ m, W 0 m σ H) ∧ ∀ i m σ H, W i m σ H →
      ((Itt K a).stop i H ∧ D.nx σ H) ∨ ((Itt K a).go i H ∧ ∃ N : St → Hp → Prop, (∀ σ' H', N σ' H' → ∃ m', m' < m ∧ W (i + 1) m' σ' H') ∧ ∀ x H', (Itt K a).yld i H x H' → g x σ H' fun σ2 H2 => tb { D with nx := N, ct := N, bk := D.nx } σ2 H2) := by
  refine ⟨fun i m σ H => m = xs.length - i ∧ i ≤ xs.length ∧ Pv i σ H, ⟨xs.length, by simp, Nat.zero_le _, h0⟩, ?_⟩
  rintro i m σ H ⟨rfl, hi, p⟩
  have q := hl i σ H hi p
  by_cases hlt : i < xs.length
  · refine .inr ⟨⟨xs, xs[i], q, by simp [hlt]⟩, Pv (i + 1), fun σ' H' p' => ⟨xs.length - (i + 1), by omega, rfl, hlt, p'⟩, fun x H' y => ?_⟩
    obtain ⟨e, y⟩ := y
    subst e
    exact hs i x σ _ (y xs q) p
  · have e : i = xs.length := by omega
    subst e
    exact .inl ⟨⟨xs, q, Nat.le_refl _⟩, hd σ H p⟩
theorem for_range {lo : Int} {n : Nat} {g : TG} {tb : TS} {D : Ends} {σ : St} {H : Hp} (Pv : Nat → St → Hp → Prop) (h0 : Pv 0 σ H)
    (hs : ∀ i σ H, i < n → Pv i σ H → g (.int (lo + i)) σ H fun σ2 H2 => tb { D with nx := Pv (i + 1), ct := Pv (i + 1), bk := D.nx } σ2 H2) (hd : ∀ σ H, Pv n σ H → D.nx σ H) :
    ∃ W : Nat → Nat → St → Hp → Prop, (∃ m, W 0 m σ H) ∧ ∀ i m σ H, W i m σ H →
      ((Itr lo n).stop i H ∧ D.nx σ H) ∨ ((Itr lo n).go i H ∧ ∃ N : St → Hp → Prop, (∀ σ' H', N σ' H' → ∃ m', m' < m ∧ W (i + 1) m' σ' H') ∧ ∀ x H', (Itr lo n).yld i H x H' → g x σ H' fun σ2 H2 => tb { D with nx := N, ct := N, bk := D.nx } σ2 H2) := by
  refine ⟨fun i m σ H => m = n - i ∧ i ≤ n ∧ Pv i σ H, ⟨n, by simp, Nat.zero_le _, h0⟩, ?_⟩
  rintro i m σ H ⟨rfl, hi, p⟩
  by_cases hlt : i < n
  · refine .inr ⟨hlt, Pv (i + 1), fun σ' H' p' => ⟨n - (i + 1), by omega, rfl, hlt, p'⟩, fun x H' y => ?_⟩
    obtain ⟨e, y⟩ := y
    subst e y
    exact hs i σ _ hlt p
  · have e : i = n := by omega
    subst e
    exact .inl ⟨Nat.le_refl _, hd σ H p⟩
/-- while, by a word and a measure of the state -/
theorem while_by {c : TT} {tb : TS} {D : Ends} {σ : St} {H : Hp} (Pv : St → Hp → Prop) (μ : St → Hp → Nat) (h0 : Pv σ H)
    (hs : ∀ σ H, Pv σ H → c σ H fun b H1 => if b = true then tb { D with nx := fun σ' H' => Pv σ' H' ∧ μ σ' H' < μ σ H, ct := fun σ' H' => Pv σ' H' ∧ μ σ' H' < μ σ H, bk := D.nx } σ H1 else D.nx σ H1)
    (mono : ∀ σ H Q Q', (∀ b H1, Q b H1 → Q' b H1) → c σ H Q → c σ H Q') : tWhile c tb D σ H := by
  refine ⟨fun m σ H => m = μ σ H ∧ Pv σ H, ⟨_, rfl, h0⟩, ?_⟩
  rintro m σ H ⟨rfl, p⟩
  refine mono σ H _ _ (fun b H1 q => ?_) (hs σ H p)
  cases b with
  | true => exact ⟨_, fun σ' H' ⟨p', l⟩ => ⟨_, l, rfl, p'⟩, q⟩
  | false => exact q
end L2

namespace L2
open PySem PySem.Spec PyProof.Rows

abbrev R2 := V → V → Hp → VK → Prop
/-- a two-place operation on values: f is binaryOp op, inplaceOp op or compareOp op -/
def OpR (X : Cx) (f : Value → Value → Sem Value) (r : R2) : Prop :=
  ∀ (pins : List (Addr × Obj)) (s : Shared) (σ : St) (H : Hp) (x y : V) (v u : Value) (Q : VK), Inv X pins σ H s → RelV x v → RelV y u → r x y H Q →
    wpAny (model X.prog X.w) X.A (f v u) (EP X pins σ Q) X.xe s
/-- a one-place operation -/
def UnR (X : Cx) (f : Value → Sem Value) (r : V → Hp → VK → Prop) : Prop :=
  ∀ (pins : List (Addr × Obj)) (s : Shared) (σ : St) (H : Hp) (x : V) (v : Value) (Q : VK), Inv X pins σ H s → RelV x v → r x H Q →
    wpAny (model X.prog X.w) X.A (f v) (EP X pins σ Q) X.xe s
/-- a call of a value that is known (a builtin, a type) with values -/
def CallR (X : Cx) (f : Value) (r : List V → Hp → VK → Prop) : Prop :=
  ∀ (pins : List (Addr × Obj)) (s : Shared) (σ : St) (H : Hp) (xs : List V) (us : List Value) (Q : VK), Inv X pins σ H s → Vals xs us → r xs H Q →
    wpAny (model X.prog X.w) X.A (call f us) (EP X pins σ Q) X.xe s
def tOp (r : R2) (ta tb : TE) : TE := fun σ H Q => ta σ H fun x H1 => tb σ H1 fun y H2 => r x y H2 Q
def tUn (r : V → Hp → VK → Prop) (ta : TE) : TE := fun σ H Q => ta σ H fun x H1 => r x H1 Q
/-- ints in, under C, and a value out -/
def rI (C : Int → Int → Prop) (g : Int → Int → V) : R2 := fun x y H Q => ∃ i j, x = .int i ∧ y = .int j ∧ C i j ∧ Q (g i j) H
def rI0 (g : Int → Int → V) : R2 := fun x y H Q => ∃ i j, x = .int i ∧ y = .int j ∧ Q (g i j) H
def rU (g : Int → V) : V → Hp → VK → Prop := fun x H Q => ∃ i, x = .int i ∧ Q (g i) H

section
variable {X : Cx} {a b c : Expr} {ta tb tc : TE} {pos : Pos}

theorem binT (ha : PE X a ta) (hb : PE X b tb) {pins : List (Addr × Obj)} {s : Shared} {σ : St} {H : Hp} {R : V → V → Hp → Prop} (I : Inv X pins σ H s)
    (h : ta σ H fun x H1 => tb σ H1 fun y H2 => R x y H2) {Q : Value → Shared → Prop} {f : Value → Value → Sem Value}
    (hf : ∀ v u s2 x y H2, Inv X pins σ H2 s2 → RelV x v → RelV y u → R x y H2 → wpAny (model X.prog X.w) X.A (f v u) Q X.xe s2) :
    wpAny (model X.prog X.w) X.A (eval a X.env) (fun v s₁ => wpAny (model X.prog X.w) X.A (eval b X.env) (fun u s₂ => wpAny (model X.prog X.w) X.A (f v u) Q X.xe s₂) X.xe s₁) X.xe s := by
  refine thn (ha pins s σ H _ I h) fun v s1 ⟨x, H1, I1, r1, q1⟩ => ?_
  refine thn (hb pins s1 σ H1 _ I1 q1) fun u s2 ⟨y, H2, I2, r2, q2⟩ => ?_
  exact hf v u s2 x y H2 I2 r1 r2 q2

theorem pe_op {op : Operator} {r : R2} (ho : OpR X (binaryOp op) r) (ha : PE X a ta) (hb : PE X b tb) : PE X (.BinOp a op b pos) (tOp r ta tb) := by
  intro pins s σ H Q I h
  exact wpAny_BinOp (binT ha hb I h fun v u s2 x y H2 I2 rx ry q => ho pins s2 σ H2 x y v u Q I2 rx ry q)
theorem pe_un {op : UnaryOp} {r : V → Hp → VK → Prop} (ho : UnR X (unaryOp op) r) (ha : PE X a ta) : PE X (.UnaryOp op a pos) (tUn r ta) := by
  intro pins s σ H Q I h
  exact UnaryOp_ (thn (ha pins s σ H _ I h) fun v s1 ⟨x, H1, I1, r1, q1⟩ => ho pins s1 σ H1 x v Q I1 r1 q1)
/-! ### ints -/
theorem opI {f : Value → Value → Sem Value} {C : Int → Int → Prop} {g : Int → Int → Int}
    (rule : ∀ (i j : Int) (t u : Tok) (s : Shared) (Q : Value → Shared → Prop) (E : Value → Shared → Prop), C i j → Q (.int (g i j) s.toks) { s with toks := s.toks + 1 } → wpAny (model X.prog X.w) X.A (f (.int i t) (.int j u)) Q E s) :
    OpR X f (rI C fun i j => .int (g i j)) := by
  intro pins s σ H x y v u Q I rx ry h
  obtain ⟨i, j, rfl, rfl, hc, q⟩ := h
  obtain ⟨t, rfl⟩ := rx
  obtain ⟨t', rfl⟩ := ry
  exact rule i j t t' s _ _ hc ⟨.int (g i j), H, I.tok _, ⟨_, rfl⟩, q⟩
theorem opI0 {f : Value → Value → Sem Value} {g : Int → Int → Int}
    (rule : ∀ (i j : Int) (t u : Tok) (s : Shared) (Q : Value → Shared → Prop) (E : Value → Shared → Prop), Q (.int (g i j) s.toks) { s with toks := s.toks + 1 } → wpAny (model X.prog X.w) X.A (f (.int i t) (.int j u)) Q E s) :
    OpR X f (rI0 fun i j => .int (g i j)) := by
  intro pins s σ H x y v u Q I rx ry h
  obtain ⟨i, j, rfl, rfl, q⟩ := h
  obtain ⟨t, rfl⟩ := rx
  obtain ⟨t', rfl⟩ := ry
  exact rule i j t t' s _ _ ⟨.int (g i j), H, I.tok _, ⟨_, rfl⟩, q⟩
theorem opB0 {f : Value → Value → Sem Value} {g : Int → Int → Bool}
    (rule : ∀ (i j : Int) (t u : Tok) (s : Shared) (Q : Value → Shared → Prop) (E : Value → Shared → Prop), Q (.bool (g i j)) s → wpAny (model X.prog X.w) X.A (f (.int i t) (.int j u)) Q E s) :
    OpR X f (rI0 fun i j => .bl (g i j)) := by
  intro pins s σ H x y v u Q I rx ry h
  obtain ⟨i, j, rfl, rfl, q⟩ := h
  obtain ⟨t, rfl⟩ := rx
  obtain ⟨t', rfl⟩ := ry
  exact rule i j t t' s _ _ ⟨.bl (g i j), H, I, rfl, q⟩

def CDiv (i j : Int) : Prop := 0 < j ∧ j < 1073741824
def CPow (i j : Int) : Prop := 0 ≤ j ∧ j ≤ 1000000 ∧ i.natAbs < 2 ^ 64
def CMul (i j : Int) : Prop := (-(2 ^ 64) < i ∧ i < 2 ^ 64) ∨ (-(2 ^ 64) < j ∧ j < 2 ^ 64)
theorem CMul.ok {i j : Int} (h : CMul i j) : IntMulOk i j := by
  rcases h with ⟨h1, h2⟩ | ⟨h1, h2⟩
  · exact .of_left (intBits_le_64 h1 h2)
  · exact .of_right (intBits_le_64 h1 h2)
theorem op_add : OpR X (binaryOp .Add) (rI0 fun i j => .int (i + j)) := opI0 fun _ _ _ _ _ _ _ q => add_int q
theorem op_sub : OpR X (binaryOp .Sub) (rI0 fun i j => .int (i - j)) := opI0 fun _ _ _ _ _ _ _ q => sub_int q
theorem op_mul : OpR X (binaryOp .Mult) (rI CMul fun i j => .int (i * j)) := opI fun _ _ _ _ _ _ _ hc q => mul_int q hc.ok
/-- // by a positive divisor -/
theorem op_fdiv : OpR X (binaryOp .FloorDiv) (rI CDiv fun i j => .int (i / j)) := opI fun i j _ _ _ _ _ hc q => by
  have h1 : (0 : Int) < j := hc.1
  have h2 : j < 1073741824 := hc.2
  exact floordiv_int (by omega) (by rw [Int.fdiv_eq_ediv_of_nonneg i (by omega)]; exact q) (.inl (PyProof.noPylong_small (by omega)))
/-- % by a positive divisor of any size -/
theorem op_mod : OpR X (binaryOp .Mod) (rI (fun _ j => 0 < j) fun i j => .int (i % j)) := opI fun i j _ _ _ _ _ hc q => by
  have h1 : (0 : Int) < j := hc
  exact mod_int' (by omega) (by rw [Int.fmod_eq_emod_of_nonneg i (by omega)]; exact q)
theorem op_pow : OpR X (binaryOp .Pow) (rI CPow fun i j => .int (i ^ j.toNat)) := opI fun _ _ _ _ _ _ _ hc q => pow_int_small hc.1 hc.2.1 hc.2.2 q
theorem unI {f : Value → Sem Value} {g : Int → Int}
    (rule : ∀ (i : Int) (t : Tok) (s : Shared) (Q : Value → Shared → Prop) (E : Value → Shared → Prop), Q (.int (g i) s.toks) { s with toks := s.toks + 1 } → wpAny (model X.prog X.w) X.A (f (.int i t)) Q E s) :
    UnR X f (rU fun i => .int (g i)) := by
  intro pins s σ H x v Q I rx h
  obtain ⟨i, rfl, q⟩ := h
  obtain ⟨t, rfl⟩ := rx
  exact rule i t s _ _ ⟨.int (g i), H, I.tok _, ⟨_, rfl⟩, q⟩
theorem un_neg : UnR X (unaryOp .USub) (rU fun i => .int (-i)) := unI fun _ _ _ _ _ q => neg_int q
/-! ### bools among ints: n += (a < b) -/
end

/-! ### comparisons -/
/-- the scalars that == tells apart as data does -/
def scal : V → V → Bool
  | .non, .non => true | .non, .int _ => true | .int _, .non => true | .non, .bl _ => true | .bl _, .non => true | .non, .str _ => true | .str _, .non => true
  | .int _, .int _ => true | .bl _, .bl _ => true | .str _, .str _ => true | .byt _, .byt _ => true
  | .int _, .str _ => true | .str _, .int _ => true | .bl _, .str _ => true | .str _, .bl _ => true
  | _, _ => false
def rEq : R2 := fun x y H Q => scal x y = true ∧ Q (.bl (decide (x = y))) H
def rNe : R2 := fun x y H Q => scal x y = true ∧ Q (.bl (!decide (x = y))) H

theorem dec_int {i j : Int} : decide (V.int i = V.int j) = (i == j) := by
  rw [Bool.eq_iff_iff]
  simp
theorem dec_bl {i j : Bool} : decide (V.bl i = V.bl j) = (i == j) := by
  rw [Bool.eq_iff_iff]
  simp
theorem dec_str {i j : Str} : decide (V.str i = V.str j) = (i == j) := by
  rw [Bool.eq_iff_iff]
  simp
theorem dec_byt {i j : Array UInt8} : decide (V.byt i = V.byt j) = (i.toList == j.toList) := by
  rw [Bool.eq_iff_iff]
  cases i
  cases j
  simp

section
variable {X : Cx} {a b c : Expr} {ta tb tc : TE} {pos : Pos}
theorem fin_bl {pins : List (Addr × Obj)} {σ : St} {H : Hp} {s : Shared} {Q : VK} {k k' : Bool} (I : Inv X pins σ H s) (q : Q (.bl k) H) (e : k = k') : EP X pins σ Q (.bool k') s := by
  subst e
  exact ⟨.bl k, H, I, rfl, q⟩
theorem op_eq : OpR X (compareOp .Eq) rEq := by
  intro pins s σ H x y v u Q I rx ry h
  obtain ⟨hs, q⟩ := h
  cases x with
  | non =>
    cases rx
    cases y with
    | non => cases ry; exact PySem.EqNone.eq_none_none (fin_bl I q (by simp))
    | bl j => cases ry; exact PySem.EqNone.eq_none_bool (fin_bl I q (by simp))
    | int j => obtain ⟨t', rfl⟩ := ry; exact PySem.EqNone.eq_none_int (fin_bl I q (by simp))
    | str j => obtain ⟨t', rfl⟩ := ry; exact PySem.EqNone.eq_none_str (fin_bl I q (by simp))
    | _ => exact absurd (show false = true from hs) Bool.false_ne_true
  | bl i =>
    cases rx
    cases y with
    | non => cases ry; exact PySem.EqNone.eq_bool_none (fin_bl I q (by simp))
    | bl j => cases ry; exact eq_bool (fin_bl I q dec_bl)
    | str j => obtain ⟨t', rfl⟩ := ry; exact PySem.EqMixed.eq_bool_str (fin_bl I q (by simp))
    | _ => exact absurd (show false = true from hs) Bool.false_ne_true
  | int i =>
    obtain ⟨t, rfl⟩ := rx
    cases y with
    | non => cases ry; exact PySem.EqNone.eq_int_none (fin_bl I q (by simp))
    | int j => obtain ⟨t', rfl⟩ := ry; exact eq_int (fin_bl I q dec_int)
    | str j => obtain ⟨t', rfl⟩ := ry; exact PySem.EqMixed.eq_int_str (fin_bl I q (by simp))
    | _ => exact absurd (show false = true from hs) Bool.false_ne_true
  | str i =>
    obtain ⟨t, rfl⟩ := rx
    cases y with
    | non => cases ry; exact PySem.EqNone.eq_str_none (fin_bl I q (by simp))
    | bl j => cases ry; exact PySem.EqMixed.eq_str_bool (fin_bl I q (by simp))
    | int j => obtain ⟨t', rfl⟩ := ry; exact PySem.EqMixed.eq_str_int (fin_bl I q (by simp))
    | str j => obtain ⟨t', rfl⟩ := ry; exact eq_str (fin_bl I q dec_str)
    | _ => exact absurd (show false = true from hs) Bool.false_ne_true
  | byt i =>
    obtain ⟨t, rfl⟩ := rx
    cases y with
    | byt j => obtain ⟨t', rfl⟩ := ry; exact PySem.W.eq_bytes (fin_bl I q dec_byt)
    | _ => exact absurd (show false = true from hs) Bool.false_ne_true
  | _ => cases y <;> exact absurd (show false = true from hs) Bool.false_ne_true
theorem op_ne : OpR X (compareOp .NotEq) rNe := by
  intro pins s σ H x y v u Q I rx ry h
  obtain ⟨hs, q⟩ := h
  cases x with
  | non =>
    cases rx
    cases y with
    | non => cases ry; exact PySem.EqNone.ne_none_none (fin_bl I q (by simp))
    | bl j => cases ry; exact PySem.EqNone.ne_none_bool (fin_bl I q (by simp))
    | int j => obtain ⟨t', rfl⟩ := ry; exact PySem.EqNone.ne_none_int (fin_bl I q (by simp))
    | str j => obtain ⟨t', rfl⟩ := ry; exact PySem.EqNone.ne_none_str (fin_bl I q (by simp))
    | _ => exact absurd (show false = true from hs) Bool.false_ne_true
  | bl i =>
    cases rx
    cases y with
    | non => cases ry; exact PySem.EqNone.ne_bool_none (fin_bl I q (by simp))
    | bl j => cases ry; exact ne_bool (fin_bl I q (congrArg not dec_bl))
    | str j => obtain ⟨t', rfl⟩ := ry; exact PySem.EqMixed.ne_bool_str (fin_bl I q (by simp))
    | _ => exact absurd (show false = true from hs) Bool.false_ne_true
  | int i =>
    obtain ⟨t, rfl⟩ := rx
    cases y with
    | non => cases ry; exact PySem.EqNone.ne_int_none (fin_bl I q (by simp))
    | int j => obtain ⟨t', rfl⟩ := ry; exact ne_int (fin_bl I q (congrArg not dec_int))
    | str j => obtain ⟨t', rfl⟩ := ry; exact PySem.EqMixed.ne_int_str (fin_bl I q (by simp))
    | _ => exact absurd (show false = true from hs) Bool.false_ne_true
  | str i =>
    obtain ⟨t, rfl⟩ := rx
    cases y with
    | non => cases ry; exact PySem.EqNone.ne_str_none (fin_bl I q (by simp))
    | bl j => cases ry; exact PySem.EqMixed.ne_str_bool (fin_bl I q (by simp))
    | int j => obtain ⟨t', rfl⟩ := ry; exact PySem.EqMixed.ne_str_int (fin_bl I q (by simp))
    | str j => obtain ⟨t', rfl⟩ := ry; exact ne_str (fin_bl I q (congrArg not dec_str))
    | _ => exact absurd (show false = true from hs) Bool.false_ne_true
  | byt i =>
    obtain ⟨t, rfl⟩ := rx
    cases y with
    | byt j => obtain ⟨t', rfl⟩ := ry; exact PySem.W.ne_bytes (fin_bl I q (congrArg not dec_byt))
    | _ => exact absurd (show false = true from hs) Bool.false_ne_true
  | _ => cases y <;> exact absurd (show false = true from hs) Bool.false_ne_true

theorem op_lt : OpR X (compareOp .Lt) (rI0 fun i j => .bl (decide (i < j))) := opB0 fun _ _ _ _ _ _ _ q => lt_int q
theorem op_le : OpR X (compareOp .LtE) (rI0 fun i j => .bl (decide (i ≤ j))) := opB0 fun _ _ _ _ _ _ _ q => le_int q
theorem op_gt : OpR X (compareOp .Gt) (rI0 fun i j => .bl (decide (j < i))) := opB0 fun _ _ _ _ _ _ _ q => gt_int q
theorem op_ge : OpR X (compareOp .GtE) (rI0 fun i j => .bl (decide (j ≤ i))) := opB0 fun _ _ _ _ _ _ _ q => ge_int q
theorem op_notN : OpR X (compareOp .IsNot) (fun x y H Q => y = .non ∧ Q (.bl (!decide (x = .non))) H) := by
  intro pins s σ H x y v u Q I rx ry h
  obtain ⟨rfl, q⟩ := h
  cases ry
  refine isnot_none_gen (fin_bl I q ?_)
  cases x <;> first
    | (cases rx; rfl)
    | (obtain ⟨t, rfl⟩ := rx; rfl)

/-- two rules for one operation: by cases -/
theorem OpR.or {f : Value → Value → Sem Value} {r r' : R2} (h : OpR X f r) (h' : OpR X f r') : OpR X f (fun x y H Q => r x y H Q ∨ r' x y H Q) := by
  intro pins s σ H x y v u Q I rx ry q
  rcases q with q | q
  · exact h pins s σ H x y v u Q I rx ry q
  · exact h' pins s σ H x y v u Q I rx ry q

theorem nomark (b : Expr) {op : CmpOp} (h : op ≠ .In := by decide) (h2 : op ≠ .NotIn := by decide) : behindInMarks op b = false := by
  have e1 : (op == CmpOp.In) = false := by cases op <;> first | rfl | exact absurd rfl h
  have e2 : (op == CmpOp.NotIn) = false := by cases op <;> first | rfl | exact absurd rfl h2
  cases b <;> simp [behindInMarks, e1, e2]
/-- a comparison as a value; hm: nomark b, or (for in, not in) by with_unfolding_all rfl -/
theorem pe_cmpR {op : CmpOp} {r : R2} (ho : OpR X (compareOp op) r) (ha : PE X a ta) (hb : PE X b tb) (hm : behindInMarks op b = false) : PE X (.Compare a [op] [b] pos) (tOp r ta tb) := by
  intro pins s σ H Q I h
  exact wpAny_Compare1 (binT ha hb I h fun v u s2 x y H2 I2 rx ry q => ho pins s2 σ H2 x y v u Q I2 rx ry q) hm
/-- a reading of a value as a test -/
def tTest (t : TE) : TT := fun σ H Q => t σ H fun x H' => ∃ k, x = .bl k ∧ Q k H'
theorem pt_cmpR {op : CmpOp} {r : R2} (ho : OpR X (compareOp op) r) (ha : PE X a ta) (hb : PE X b tb) (hm : behindInMarks op b = false) : PT X (.Compare a [op] [b] pos) (tTest (tOp r ta tb)) := by
  intro pins s σ H Q I h
  refine wpAny_isTrue_Compare1 (thn (ha pins s σ H _ I h) fun v s1 ⟨x, H1, I1, r1, q1⟩ => thn (hb pins s1 σ H1 _ I1 q1) fun u s2 ⟨y, H2, I2, r2, q2⟩ =>
    thn (ho pins s2 σ H2 x y v u _ I2 r1 r2 q2) fun c s3 ⟨z, H3, I3, r3, k, e, q3⟩ => ?_) hm
  subst e
  cases r3
  exact wpAny_truthy_bool ⟨H3, I3, q3⟩
/-- a op1 b op2 c -/
def tChain (r r' : R2) (ta tb tc : TE) : TE := fun σ H Q => ta σ H fun x H1 => tb σ H1 fun y H2 => r x y H2 fun z H3 => ∃ k, z = .bl k ∧
  (if k = true then tc σ H3 fun w' H4 => r' y w' H4 Q else Q (.bl false) H3)
theorem pe_chain {op op' : CmpOp} {r r' : R2} (ho : OpR X (compareOp op) r) (ho' : OpR X (compareOp op') r') (ha : PE X a ta) (hb : PE X b tb) (hc : PE X c tc)
    (hm : lastMarks [op, op'] [b, c] = false := by with_unfolding_all rfl) : PE X (.Compare a [op, op'] [b, c] pos) (tChain r r' ta tb tc) := by
  intro pins s σ H Q I h
  refine Compare_chain (thn (ha pins s σ H _ I h) fun v s1 ⟨x, H1, I1, r1, q1⟩ => chain_link (thn (hb pins s1 σ H1 _ I1 q1) fun u s2 ⟨y, H2, I2, r2, q2⟩ =>
    thn (ho pins s2 σ H2 x y v u _ I2 r1 r2 q2) fun d s3 ⟨z, H3, I3, r3, k, e, q3⟩ => ?_)) hm
  subst e
  cases r3
  refine wpAny_truthy_bool ?_
  cases k with
  | false => exact ite_ff ⟨.bl false, H3, I3, rfl, q3⟩
  | true => exact ite_tt (chain_last (thn (hc pins s3 σ H3 _ I3 q3) fun w' s4 ⟨z', H4, I4, r4, q4⟩ => ho' pins s4 σ H4 y z' u w' Q I4 r2 r4 q4))
/-! ### truth -/
theorem line63 : (sizeLine : Nat) < 2 ^ 63 := by rw [sizeLine_eq]; decide
/-! ### strs and bytes -/
/-! ### scalar builtins, by CallR -/
theorem vals1 {x : V} {us : List Value} (r : Vals [x] us) : ∃ u, us = [u] ∧ RelV x u := by
  cases r with
  | cons r1 r2 => cases r2; exact ⟨_, rfl, r1⟩
theorem vals2 {x y : V} {us : List Value} (r : Vals [x, y] us) : ∃ u w', us = [u, w'] ∧ RelV x u ∧ RelV y w' := by
  cases r with
  | cons r1 r2 =>
    cases r2 with
    | cons r3 r4 => cases r4; exact ⟨_, _, rfl, r1, r3⟩
theorem call_int1 : CallR X (.type "int") (fun xs H Q => (∃ i, xs = [.int i] ∧ Q (.int i) H) ∨ ∃ k, xs = [.bl k] ∧ Q (.int (if k then 1 else 0)) H) := by
  intro pins s σ H xs us Q I r h
  rcases h with ⟨i, rfl, q⟩ | ⟨k, rfl, q⟩
  · obtain ⟨u, rfl, t, rfl⟩ := vals1 r
    exact call_int_int ⟨.int i, H, I, ⟨_, rfl⟩, q⟩
  · obtain ⟨u, rfl, r1⟩ := vals1 r
    cases r1
    exact call_int_bool ⟨.int (if k then 1 else 0), H, I.tok _, ⟨_, rfl⟩, q⟩
end
end L2

namespace L2
open PySem PySem.Spec PyProof.Rows

/-! ### an instance, its attributes a map -/
structure ObjM (h : Heap) (x dx C : Addr) (mA : Str → Option Value) : Prop where
  obj : h.get? x = some (PySem.W.instObj C dx)
  ns : h.Ns1 dx mA
  ne : dx ≠ x

theorem lookIn_ns {h : Heap} {dx : Addr} {mA : Str → Option Value} (n : h.Ns1 dx mA) : ∃ od, h.get? dx = some od ∧ ∀ name, PySem.W.lookIn name od = some (mA name) := by
  obtain ⟨o, es, ep, ho, hd, hk, _, hm⟩ := n
  refine ⟨o, ho, fun name => ?_⟩
  have e := hm name
  unfold nsFind findBy at e
  rw [← Array.find?_toList] at e
  unfold PySem.W.lookIn
  rw [hd]
  dsimp only
  split
  · rename_i y q
    rw [q] at e
    exact congrArg some e
  · rename_i q
    rw [q] at e
    have a : es.toList.any (·.refKey) = false := by
      rw [List.any_eq_false]
      intro y hy
      obtain ⟨z, t, hkey⟩ := hk y (Array.mem_toList_iff.mp hy)
      simp [DictEntry.refKey, hkey]
    have a' : ¬ es.toList.any (·.refKey) = true := by rw [a]; exact Bool.false_ne_true
    rw [if_neg a']
    exact congrArg some e

theorem ObjM.look {h : Heap} {x dx C : Addr} {mA : Str → Option Value} (I : ObjM h x dx C mA) : ∃ od, PySem.W.InstAt h x (PySem.W.instObj C dx) C (some od) ∧ ∀ name, PySem.W.lookIn name od = some (mA name) :=
  let ⟨od, ho, hl⟩ := lookIn_ns I.ns
  ⟨od, ⟨I.obj, rfl, rfl, ho⟩, hl⟩

section
variable {prog : Program} {w : World} {A : Around} {E : Value → Shared → Prop} {s : Shared} {K : PySem.W.Frag} {x dx C f : Addr} {mA : Str → Option Value} {name : Str} {v : Value}

end

/-! ### the attributes as a list of pairs -/
section
variable {P : Program} {w : World} {H H' : Hp} {h h' : Heap} {a C dx : Addr} {fs fs' : List (Str × V)}
theorem ins_get (hok : HOk P w H h) (e : H a = some (.ins C dx fs)) : ∃ mA, ObjM h a dx C mA ∧ (∀ f, RelO (fs.lookup f) (mA f)) ∧ PySem.Within mA (fs.map (·.1)) ∧ fs.length ≤ 1000 ∧ H dx = some (.own a) := by
  obtain ⟨d, z, ne, ob, mA, n, r, q⟩ := (show ObjOk P w H h a (.ins C dx fs) from hok a _ e)
  exact ⟨mA, ⟨ob, n, ne⟩, r, q, z, d⟩
end

/-! ### what of the text a class must have -/
structure Cls (K : PySem.W.Frag) (C : Addr) : Prop where
  pg : PySem.W.plainGet K C Str.empty = true
  hd : PySem.W.hasDictIn K C = true
  po : PySem.W.plainOver K C = true
  sa : PySem.W.findIn K (.ref C) "__setattr__" = some (some (.builtin "object.__setattr__"))
theorem Cls.get {K : PySem.W.Frag} {C : Addr} (c : Cls K C) (f : Str) : PySem.W.plainGet K C f = true := c.pg
/-- a constant of the class -/
structure Con (K : PySem.W.Frag) (C : Addr) (f : Str) (v : V) (u : Value) : Prop where
  at_ : PySem.W.findIn K (.ref C) f = some (some u)
  rel : RelV v u
  get : PySem.W.specialIn K u "__get__" = some none
  cp : PySem.W.copiedNames.contains f = false
/-- a method: a plain def of the class or of one above it -/
structure Meth (K : PySem.W.Frag) (C : Addr) (m : Str) (f : Addr) : Prop where
  at_ : PySem.W.findIn K (.ref C) m = some (some (.ref f))
  fn : PySem.W.isFn K (.ref f) = true
  kp : PySem.W.keepIn K (.ref f) = true

section
variable {X : Cx} {pins : List (Addr × Obj)} {σ : St} {H : Hp} {s : Shared} {a C dx : Addr} {fs : List (Str × V)} {f : Str} {v : V} {A : Around} {E : Value → Shared → Prop}

/-- a new instance, tracked, without attributes -/
theorem Inv.made (I : Inv X pins σ H s) : Inv X pins σ (upd (upd H s.heap.objs.size (.own (s.heap.objs.size + 1))) (s.heap.objs.size + 1) (.ins C s.heap.objs.size []))
    { s with heap := (s.heap.push PySem.W.emptyDict).push (PySem.W.instObj C s.heap.objs.size) } := by
  have e1 : (s.heap.push PySem.W.emptyDict).get? s.heap.objs.size = some PySem.W.emptyDict := Heap.get?_push_size s.heap rfl
  have e2 : ((s.heap.push PySem.W.emptyDict).push (PySem.W.instObj C s.heap.objs.size)).get? (s.heap.objs.size + 1) = some (PySem.W.instObj C s.heap.objs.size) := by
    have := Heap.get?_push_size (s.heap.push PySem.W.emptyDict) (o := PySem.W.instObj C s.heap.objs.size) rfl
    rwa [Heap.size_push] at this
  have e3 : (s.heap.push PySem.W.emptyDict).Ns s.heap.objs.size (fun _ => none) := ⟨PySem.W.emptyDict, #[], _, e1, rfl, (fun e he => absurd he (by simp)), fun _ => rfl⟩
  have I1 := I.laid (a := s.heap.objs.size) (o := .own (s.heap.objs.size + 1)) (h' := s.heap.push PySem.W.emptyDict) (t' := s.toks) (fun b u q => Heap.get?_push_of_some _ q) (Nat.le_refl _) ⟨_, e1⟩
  refine I1.laid (a := s.heap.objs.size + 1) (o := .ins C s.heap.objs.size []) (t' := s.toks) (fun b u q => Heap.get?_push_of_some _ q) (Nat.le_of_eq (Heap.size_push _ _)) ?_
  have ne : s.heap.objs.size ≠ s.heap.objs.size + 1 := Nat.ne_of_lt (Nat.lt_succ_self _)
  refine ⟨by rw [upd_ne ne, upd_same], Nat.zero_le _, ne, e2, fun _ => none, (Heap.Ns1.of_empty e3).at fun o q => Heap.get?_push_of_some _ q, fun _ => True.intro, fun y hy => absurd rfl hy⟩

end

/-! ### readings and rules -/
section
variable {X : Cx} {o e value : Expr} {f : Str} {pos pos' tpos : Pos} {ta tv : TE}
end

/-! ### isinstance -/
section
variable {X : Cx} {pins : List (Addr × Obj)} {σ : St} {H : Hp} {s : Shared} {A : Around} {E : Value → Shared → Prop} {Q : Value → Shared → Prop} {c : Value} {b : Bool}
/-- the type of a value, as the fragment's deciders take it; for an instance its class -/
inductive TyOf (K : PySem.W.Frag) (H : Hp) : V → Value → Prop where
  | non : TyOf K H .non (.type "NoneType")
  | bl (x : Bool) : TyOf K H (.bl x) (.type "bool")
  | int (i : Int) : TyOf K H (.int i) (.type "int")
  | str (x : Str) : TyOf K H (.str x) (.type "str")
  | flt (x : UInt64) : TyOf K H (.flt x) (.type "float")
  | lst {a : Addr} {xs : List V} (e : H a = some (.lst xs)) : TyOf K H (.ref a) (.type "list")
  | frz {a : Addr} {o : Obj} {xs : List V} (e : H a = some (.frz o (.lst xs))) : TyOf K H (.ref a) (.type "list")
  | tup {a : Addr} {xs : List V} (e : H a = some (.tup xs)) : TyOf K H (.ref a) (.type "tuple")
  | dK {a : Addr} {kvs : List (Key × V)} (e : H a = some (.dK kvs)) : TyOf K H (.ref a) (.type "dict")
  | dT {a : Addr} {kvs : List (List Key × V)} (e : H a = some (.dT kvs)) : TyOf K H (.ref a) (.type "dict")
  | ins {a C dx : Addr} {fs : List (Str × V)} (e : H a = some (.ins C dx fs)) (cl : Cls K C) (ha : PySem.W.findIn K (.ref C) "__class__" = some (some (.builtin "object.__class__")))
      (hn : PySem.W.specialIn K (.builtin "object.__class__") "__get__" = some (some (.builtin "getset_descriptor.__get__"))) (htk : PySem.W.takesIn K (.builtin "object.__class__") = some true)
      (hm : PySem.W.mroIn K C (.type "object") = some true) : TyOf K H (.ref a) (.ref C)
/-- isinstance(x, c) for one class c, a built-in or an own one: kitOne's answer -/
theorem isinst_ok {x : V} {u t : Value} (I : Inv X pins σ H s) (rx : RelV x u) (ty : TyOf X.K H x t) (e : PySem.W.kitOne X.K t c = some b) (h : ∀ tk, Q (.bool b) { s with toks := tk }) :
    wpAny (model X.prog X.w) A (call (.builtin "isinstance") [u, c]) Q E s := by
  cases ty with
  | non => cases (show u = Value.none from rx); exact PySem.W.kia_one PySem.W.kitx_none I.kIn True.intro e (fun z => nomatch z) h
  | bl y => cases (show u = Value.bool y from rx); exact PySem.W.kia_one PySem.W.kitx_bool I.kIn True.intro e (fun z => nomatch z) h
  | int i => obtain ⟨t, q⟩ := (show ∃ t, u = Value.int i t from rx); cases q; exact PySem.W.kia_one PySem.W.kitx_int I.kIn True.intro e (fun z => nomatch z) h
  | str y => obtain ⟨t, q⟩ := (show ∃ t, u = Value.str y t from rx); cases q; exact PySem.W.kia_one PySem.W.kitx_str I.kIn True.intro e (fun z => nomatch z) h
  | flt y => obtain ⟨t, q⟩ := (show ∃ t, u = Value.float y t from rx); cases q; exact PySem.W.kia_one PySem.W.kitx_float I.kIn True.intro e (fun z => nomatch z) h
  | @lst a xs ea =>
    cases (show u = Value.ref a from rx)
    obtain ⟨_, _, n, _, h1⟩ := (show ObjOk X.prog X.w H s.heap a (.lst xs) from I.hok a _ ea)
    exact PySem.W.kia_one PySem.W.kitx_list I.kIn ⟨_, h1, rfl⟩ e (fun z => nomatch z) h
  | @frz a ob xs ea =>
    cases (show u = Value.ref a from rx)
    obtain ⟨_, _, _, n, _, h1⟩ := (show ObjOk X.prog X.w H s.heap a (.frz ob (.lst xs)) from I.hok a _ ea)
    exact PySem.W.kia_one PySem.W.kitx_list I.kIn ⟨_, h1, rfl⟩ e (fun z => nomatch z) h
  | @tup a xs ea =>
    cases (show u = Value.ref a from rx)
    obtain ⟨_, _, _, p⟩ := (show ObjOk X.prog X.w H s.heap a (.tup xs) from I.hok a _ ea)
    obtain ⟨o, h1, h2, _⟩ := p
    exact PySem.W.kia_one PySem.W.kitx_tuple I.kIn ⟨o, h1, h2⟩ e (fun z => nomatch z) h
  | @dK a kvs ea =>
    cases (show u = Value.ref a from rx)
    obtain ⟨_, _, vs, _, p⟩ := (show ObjOk X.prog X.w H s.heap a (.dK kvs) from I.hok a _ ea)
    obtain ⟨o, es, ep, h1, h2, _⟩ := p
    exact PySem.W.kia_one PySem.W.kitx_dict I.kIn ⟨o, h1, h2.1⟩ e (fun z => nomatch z) h
  | @dT a kvs ea =>
    cases (show u = Value.ref a from rx)
    obtain ⟨_, _, xs, _, o, es, ep, h1, h2, _⟩ := (show ObjOk X.prog X.w H s.heap a (.dT kvs) from I.hok a _ ea)
    exact PySem.W.kia_one PySem.W.kitx_dict I.kIn ⟨o, h1, h2.1⟩ e (fun z => nomatch z) h
  | @ins a C dx fs ea cl ha hn htk hm =>
    cases (show u = Value.ref a from rx)
    obtain ⟨mA, O, _⟩ := ins_get I.hok ea
    obtain ⟨od, J, _⟩ := O.look
    exact PySem.W.kia_one (PySem.W.kitx_own (cl.get _) cl.hd ha hn htk hm) I.kIn J e (fun z => nomatch z) h
end
end L2

namespace L2
open PySem PySem.Spec PyProof.Rows

/-! ### room -/
structure Room (k : Nat) (A : Around) : Prop where
  hd : A.handled = none
  dp : A.depth + 3 * k + 5 < recursionLimit
  un : A.units + 16 * k + 200 < cLine
  gd : A.guards = some []
theorem Room.mono {j k : Nat} {A : Around} (r : Room k A) (h : j ≤ k) : Room j A := ⟨r.hd, by have := r.dp; omega, by have := r.un; omega, r.gd⟩
theorem Room.deeper {k : Nat} {A : Around} (r : Room (k + 1) A) (env : Env) : Room k (A.deeper env) :=
  ⟨r.hd, by have := r.dp; show A.depth + 1 + 3 * k + 5 < _; omega, by have := r.un; show A.units + 3 + 16 * k + 200 < _; omega, r.gd⟩
theorem Room.in1 {k : Nat} {A : Around} (r : Room (k + 1) A) : Room k A.in1 :=
  ⟨r.hd, by have := r.dp; show A.depth + 3 * k + 5 < _; omega, by have := r.un; show A.units + 1 + 16 * k + 200 < _; omega, r.gd⟩
theorem Room.depth {k : Nat} {A : Around} (r : Room k A) : A.depth < recursionLimit := by have := r.dp; omega
theorem Room.units {k : Nat} {A : Around} (r : Room k A) : A.units + 64 < cLine := by have := r.un; omega
/-! ### argument lists and displays -/
def tNil : TA := fun _ H Q => Q [] H
def tCons (ta : TE) (tr : TA) : TA := fun σ H Q => ta σ H fun x H1 => tr σ H1 fun xs H2 => Q (x :: xs) H2
section
variable {X : Cx} {e : Expr} {es : List Expr} {te : TE} {t : TA} {pos : Pos}
theorem pa_nil : PA X [] tNil := fun _ _ _ _ H Q I h => Calls.spliced_nil ⟨[], H, I, .nil, h⟩
theorem pa_cons (ha : PE X e te) (hr : PA X es t) (hs : starEach (e :: es) X.env = (false, eval e X.env) :: starEach es X.env := by rfl) : PA X (e :: es) (tCons te t) := by
  intro pos pins s σ H Q I h
  rw [hs]
  show wpAny _ _ (spliced ((false, eval e X.env) :: backTo pos (starEach es X.env))) _ _ s
  refine Calls.spliced_cons (thn (ha pins s σ H _ I h) fun u s1 ⟨x, H1, I1, r1, q1⟩ => ?_)
  exact thn (hr pos pins s1 σ H1 _ I1 q1) fun us s2 ⟨xs, H2, I2, r2, q2⟩ => ⟨x :: xs, H2, I2, .cons r1 r2, q2⟩

/-- a tuple, a list of written items -/
def tTup (t : TA) : TE := fun σ H Q => t σ H fun xs H1 => xs.length ≤ sizeLine ∧ ∀ p, H1 p = none → Q (.ref p) (upd H1 p (.tup xs))
def tLst (t : TA) : TE := fun σ H Q => t σ H fun xs H1 => xs.length ≤ sizeLine ∧ ∀ p, H1 p = none → Q (.ref p) (upd H1 p (.lst xs))
theorem pe_tup {x1} (h : PA X es t) : PE X (.Tuple es x1 pos) (tTup t) := by
  intro pins s σ H Q I hq
  refine wpAny_Tuple_spliced (thn (h pos pins s σ H _ I hq) fun us s1 ⟨xs, H1, I1, r, z, q⟩ => ⟨by rw [← r.length]; exact z, ?_⟩)
  have hf : H1 s1.heap.objs.size = none := I1.hok.fresh (Nat.le_refl _)
  refine ⟨.ref s1.heap.objs.size, upd H1 s1.heap.objs.size (.tup xs), I1.laid (t' := s1.toks) (fun b u e => Heap.get?_push_of_some _ e) (Nat.le_refl _) ?_, rfl, q _ hf⟩
  exact ⟨z, us, r, ⟨_, Heap.get?_push_size _ rfl, rfl, _, rfl⟩⟩
theorem pe_lst (h : PA X es t) : PE X (.List es pos) (tLst t) := by
  intro pins s σ H Q I hq
  refine wpAny_List_spliced (thn (h pos pins s σ H _ I hq) fun us s1 ⟨xs, H1, I1, r, z, q⟩ => ⟨by rw [← r.length]; exact z, ?_⟩)
  have hf : H1 s1.heap.objs.size = none := I1.hok.fresh (Nat.le_refl _)
  refine ⟨.ref s1.heap.objs.size, upd H1 s1.heap.objs.size (.lst xs), I1.laid (t' := s1.toks) (fun b u e => Heap.get?_push_of_some _ e) (Nat.le_refl _) ?_, rfl, q _ hf⟩
  exact ⟨z, us, 0, r, Heap.get?_push_size _ rfl⟩
end

/-! ### what a def promises -/
/-- a def's promise: the bound arguments in the parameters' order, the heap, the wanted end, the wanted exception -/
abbrev Sp := List V → Hp → VK → XK → Prop
/-- how an exception lies behind a call (file 08 gives it): the callers' frames, abstract heap and state ahead of the call, the wish, the exception, the state -/
abbrev CXT := List Env → Hp → Shared → XK → Value → Shared → Prop

/-- the state at a call -/
structure Env0 (P : Program) (w : World) (K : PySem.W.Frag) (mg : Str → Option Value) (base : Heap) (A : Around) (outer : List Env) (s : Shared) (H : Hp) : Prop where
  frames : A.frames = some outer
  mod : Mod K mg base
  bs : ∀ b o, base.get? b = some o → s.heap.get? b = some o ∧ H b = none
  bsz : base.objs.size ≤ s.heap.objs.size
  funs : s.heap.FunFrames base outer
  frf : ∀ b ∈ frs outer, H b = none
  hok : HOk P w H s.heap
  bare : AllBare s.gens
/-- a call's end -/
def CE (outer : List Env) (P : Program) (w : World) (H : Hp) (s : Shared) (Q : VK) (u : Value) (s' : Shared) : Prop :=
  ∃ v H', s'.os = s.os ∧ AllBare s'.gens ∧ Un (frs outer) [] H H' s.heap s'.heap ∧ HOk P w H' s'.heap ∧ RelV v u ∧ Q v H'
def CR (CX : CXT) (outer : List Env) (P : Program) (w : World) (H : Hp) (s : Shared) (Q : VK) (E : XK) (r : Result) (s' : Shared) : Prop :=
  match r with
  | .ok (.ret u) => CE outer P w H s Q u s'
  | .ok _ => False
  | .error e => CX outer H s E e s'
structure FnOk (P : Program) (w : World) (K : PySem.W.Frag) (mg : Str → Option Value) (base : Heap) (CX : CXT) (k : Nat) (f : Addr) (fd : FuncData) (ps : List Str) (sp : Sp) : Prop where
  len : ∀ vs H Q E, sp vs H Q E → vs.length = ps.length
  run : ∀ (A : Around) (outer : List Env) (s : Shared) (H : Hp) (args : Args) (us : List Value) (vs : List V) (Q : VK) (E : XK), Room k A → Env0 P w K mg base A outer s H → BindsTo s fd args (ps.zip us) → Vals vs us → sp vs H Q E →
    codeAny (model P w) A (.call (.ref f) args) (CR CX outer P w H s Q E) s
theorem FnOk.mono {P : Program} {w : World} {K : PySem.W.Frag} {mg : Str → Option Value} {base : Heap} {CX : CXT} {j k : Nat} {f : Addr} {fd : FuncData} {ps : List Str} {sp : Sp} (F : FnOk P w K mg base CX j f fd ps sp) (h : j ≤ k) :
    FnOk P w K mg base CX k f fd ps sp := ⟨F.len, fun A outer s H args us vs Q E hr => F.run A outer s H args us vs Q E (hr.mono h)⟩
/-- a weaker promise -/
theorem FnOk.imp {P : Program} {w : World} {K : PySem.W.Frag} {mg : Str → Option Value} {base : Heap} {CX : CXT} {k : Nat} {f : Addr} {fd : FuncData} {ps : List Str} {sp sp' : Sp} (F : FnOk P w K mg base CX k f fd ps sp)
    (h : ∀ vs H Q E, sp' vs H Q E → sp vs H Q E) : FnOk P w K mg base CX k f fd ps sp' :=
  ⟨fun vs H Q E q => F.len vs H Q E (h _ _ _ _ q), fun A outer s H args us vs Q E hr he hb hv hs => F.run A outer s H args us vs Q E hr he hb hv (h _ _ _ _ hs)⟩

theorem Env0.in1 {P : Program} {w : World} {K : PySem.W.Frag} {mg : Str → Option Value} {base : Heap} {A : Around} {outer : List Env} {s : Shared} {H : Hp} (e : Env0 P w K mg base A outer s H) :
    Env0 P w K mg base A.in1 outer s H := ⟨e.frames, e.mod, e.bs, e.bsz, e.funs, e.frf, e.hok, e.bare⟩

section
variable {X : Cx} {pins : List (Addr × Obj)} {σ : St} {H : Hp} {s s' : Shared}
/-- from a body: what a callee wants -/
theorem Inv.env0 (I : Inv X pins σ H s) : Env0 X.prog X.w X.K X.mg X.base X.A X.stack s H :=
  ⟨I.ok.frames, I.ok.mod, I.bs, Nat.le_trans I.ok.bsz I.sz, I.stack, I.stkFree, I.hok, I.bare⟩
/-- behind a call -/
theorem Inv.after {Q : VK} {u : Value} (I : Inv X pins σ H s) (h : CE X.stack X.prog X.w H s Q u s') : EP X pins σ Q u s' := by
  obtain ⟨v, H', os, bare, un, hok, r, q⟩ := h
  obtain ⟨hh, g, d, t, os'⟩ := s'
  obtain rfl : os' = s.os := os
  exact ⟨v, H', I.call (h' := hh) (g' := g) (d' := d) (t' := t) (ch := []) un hok bare (fun b z => absurd z (by simp)), r, q⟩
end

/-! ### calls -/
/-- f(..): the written arguments, then the defaults dvs; E: what is wanted of an exception -/
def tCall (sp : Sp) (dvs : List V) (E : XK) (t : TA) : TE := fun σ H Q => t σ H fun vs H1 => sp (vs ++ dvs) H1 Q E
/-- how the parameters are bound: us the positional arguments, kw the keywords' values by name, ds the defaults that fill up -/
def Binds (K : PySem.W.Frag) (fd : FuncData) (ps : List Str) (ds : List Value) : Prop :=
  ∀ (s : Shared) (us : List Value), K.In s.heap → (us ++ ds).length = ps.length → BindsTo s fd ⟨us, []⟩ (ps.zip (us ++ ds))
/-- every parameter is given -/
theorem Binds.all {K : PySem.W.Frag} {fd : FuncData} {ps : List Str} (h : ∀ us : List Value, us.length = ps.length → bindArgs fd ⟨us, []⟩ = pure (ps.zip us)) : Binds K fd ps [] := fun s us _ hl => by
  rw [List.append_nil] at hl ⊢
  exact .of_eq (h us hl)

/-- an exception of a callee reaches what this body wants of exceptions -/
def Passes (CX : CXT) (X : Cx) (E : XK) : Prop := ∀ (pins : List (Addr × Obj)) (σ : St) (H : Hp) (s : Shared) (e : Value) (s' : Shared), Inv X pins σ H s → CX X.stack H s E e s' → X.xe e s'

section
variable {X : Cx} {CX : CXT} {k : Nat} {f C : Addr} {fd : FuncData} {ps : List Str} {sp : Sp} {dvs : List V} {ds : List Value} {E : XK} {x m : Str} {p pos apos : Pos} {e o : Expr} {es : List Expr} {ta : TE} {t : TA}

/-- the callee runs -/
theorem run_fn {pins : List (Addr × Obj)} {σ : St} {H : Hp} {s : Shared} {Q : VK} {us : List Value} {vs : List V} (F : FnOk X.prog X.w X.K X.mg X.base CX k f fd ps sp) (hr : Room k X.A) (hb : Binds X.K fd ps ds) (hd : Vals dvs ds) (hx : Passes CX X E)
    (I : Inv X pins σ H s) (r : Vals vs us) (h : sp (vs ++ dvs) H Q E) : wpAny (model X.prog X.w) X.A (call (.ref f) us) (EP X pins σ Q) X.xe s := by
  have r2 : Vals (vs ++ dvs) (us ++ ds) := r.append hd
  have hl : (us ++ ds).length = ps.length := by rw [← r2.length]; exact F.len _ _ _ _ h
  refine wpAny_call (codeAny_mono (F.run X.A X.stack s H ⟨us, []⟩ (us ++ ds) (vs ++ dvs) Q E hr I.env0 (hb s us I.kIn hl) r2 h) fun r s' hq => ?_)
  cases r with
  | error e => exact hx pins σ H s e s' I hq
  | ok fl =>
    cases fl with
    | ret u => exact I.after hq
    | next => exact False.elim hq
    | brk => exact False.elim hq
    | cont => exact False.elim hq

theorem pe_call (F : FnOk X.prog X.w X.K X.mg X.base CX k f fd ps sp) (hr : Room k X.A) (hg : Gl X x) (hm : X.mg x = some (.ref f)) (hk : PySem.W.keepIn X.K (.ref f) = true) (hb : Binds X.K fd ps ds) (hd : Vals dvs ds) (hx : Passes CX X E)
    (ha : PA X (e :: es) t) (hdb : (x == ("__debug__" : Str)) = false := by decide) (he : starEach (e :: es) X.env = (false, eval e X.env) :: starEach es X.env := by rfl) (hpl : (backTo pos (starEach es X.env)).any (·.1) = false := by rfl) :
    PE X (.Call (.Name x p) (e :: es) [] pos) (tCall sp dvs E t) := by
  intro pins s σ H Q I h
  refine wpAny_Call_Name_kw (ld_glob I hg hm ?_ hdb)
  refine PySem.W.callWith_K (h₀ := X.base) I.ok.mod.kin hk (thn (ha pos pins s σ H _ I h) fun us s1 ⟨vs, H1, I1, r, q⟩ => ⟨I1.kIn, ?_⟩) he hpl
  exact run_fn F hr hb hd hx I1 r q
/-- what a class must have to be made -/
structure Mk (K : PySem.W.Frag) (C f : Addr) : Prop where
  makes : PySem.W.makesIn K C = true
  init : PySem.W.findIn K (.ref C) "__init__" = some (some (.ref f))
  fn : PySem.W.isFn K (.ref f) = true
  kp : PySem.W.keepIn K (.ref C) = true

end

/-! ### keywords -/
section
variable {X : Cx} {CX : CXT} {k : Nat} {f C : Addr} {fd : FuncData} {ps ks : List Str} {sp : Sp} {E : XK} {x m : Str} {p pos apos kpos : Pos} {e o : Expr} {es : List Expr} {kws : List Keyword} {te ta : TE} {t tk : TA} {nm : Option Str}
/-- how a call with keywords binds: g puts the positional values us and the keywords' values ws (names ks) in the parameters' order, defaults among them -/
structure KBinds (K : PySem.W.Frag) (fd : FuncData) (ps ks : List Str) (g : List Value → List Value → List Value) (gV : List V → List V → List V) : Prop where
  to : ∀ (s : Shared) (us ws : List Value), K.In s.heap → (g us ws).length = ps.length → BindsTo s fd ⟨us, ks.zip ws⟩ (ps.zip (g us ws))
  rel : ∀ {vs : List V} {us : List Value} {zs : List V} {ws : List Value}, Vals vs us → Vals zs ws → Vals (gV vs zs) (g us ws)
variable {g : List Value → List Value → List Value} {gV : List V → List V → List V}
end

/-! ### a def's body keeps its promise -/
/-- names: the parameters first -/
structure FnScope (N P : List Str) (sc : Scope) : Prop where
  kind : sc.kind = .function
  co : sc.isCoroutine = false
  gen : sc.isGenerator = false
  nd : N.Nodup
  pre : N.take P.length = P
  par : ∀ x ∈ P, sc.names.lookup x = some .local ∨ sc.names.lookup x = some .cell
  nofree : ∀ y ∈ sc.names, y.2 ≠ .free

theorem bindL_out {kindOf : Str → Option NameKind} {x : Str} : ∀ {binds : List (Str × Value)} {m : Str → Option Value}, (∀ v, (x, v) ∉ binds) → bindL kindOf binds m x = m x
  | [], _, _ => rfl
  | (n, v) :: r, m, h => by
    unfold bindL
    rw [bindL_out fun w hw => h w (List.mem_cons_of_mem _ hw)]
    split
    · have : x ≠ n := by rintro rfl; exact h v List.mem_cons_self
      simp [this]
    · rfl
theorem bindC_out {kindOf : Str → Option NameKind} {x : Str} : ∀ {binds : List (Str × Value)} {m : Str → Option Value}, (∀ v, (x, v) ∉ binds) → bindC kindOf binds m x = m x
  | [], _, _ => rfl
  | (n, v) :: r, m, h => by
    unfold bindC
    rw [bindC_out fun w hw => h w (List.mem_cons_of_mem _ hw)]
    split
    · rfl
    · have : x ≠ n := by rintro rfl; exact h v List.mem_cons_self
      simp [this]
theorem bindL_get {kindOf : Str → Option NameKind} {x : Str} {v : Value} : ∀ {P : List Str} {vs : List Value} {i : Nat} {m : Str → Option Value}, P.Nodup → P[i]? = some x → vs[i]? = some v → kindOf x = some .local →
    bindL kindOf (P.zip vs) m x = some v
  | [], _, _, _, _, h, _, _ => by simp at h
  | _ :: _, [], _, _, _, _, h, _ => by simp at h
  | p :: P, w :: vs, 0, m, nd, h1, h2, hk => by
    simp at h1 h2; subst h1; subst h2
    show bindL kindOf ((p, w) :: P.zip vs) m p = _
    unfold bindL
    rw [bindL_out fun v hv => (List.nodup_cons.mp nd).1 (List.of_mem_zip hv).1, if_pos hk]
    simp
  | p :: P, w :: vs, i + 1, m, nd, h1, h2, hk => by
    show bindL kindOf ((p, w) :: P.zip vs) m x = _
    unfold bindL
    exact bindL_get (i := i) (List.nodup_cons.mp nd).2 (by simpa using h1) (by simpa using h2) hk
theorem bindC_get {kindOf : Str → Option NameKind} {x : Str} {v : Value} : ∀ {P : List Str} {vs : List Value} {i : Nat} {m : Str → Option Value}, P.Nodup → P[i]? = some x → vs[i]? = some v → kindOf x ≠ some .local →
    bindC kindOf (P.zip vs) m x = some v
  | [], _, _, _, _, h, _, _ => by simp at h
  | _ :: _, [], _, _, _, _, h, _ => by simp at h
  | p :: P, w :: vs, 0, m, nd, h1, h2, hk => by
    simp at h1 h2; subst h1; subst h2
    show bindC kindOf ((p, w) :: P.zip vs) m p = _
    unfold bindC
    rw [bindC_out fun v hv => (List.nodup_cons.mp nd).1 (List.of_mem_zip hv).1, if_neg hk]
    simp
  | p :: P, w :: vs, i + 1, m, nd, h1, h2, hk => by
    show bindC kindOf ((p, w) :: P.zip vs) m x = _
    unfold bindC
    exact bindC_get (i := i) (List.nodup_cons.mp nd).2 (by simpa using h1) (by simpa using h2) hk

/-- the names' values at the entry -/
def start (N : List Str) (vs : List V) : St := vs.map some ++ List.replicate (N.length - vs.length) none

/-- the context of a def's body, at its entry; an exception leaves the frame, then lies as CX says -/
def cxOf (CX : CXT) (P : Program) (w : World) (K : PySem.W.Frag) (mg : Str → Option Value) (base : Heap) (N : List Str) (qual : Str) (scope : Scope) (f : Addr) (cd : Value) (A : Around) (outer : List Env) (s : Shared) (H : Hp) (E : XK) : Cx where
  prog := P
  w := w
  K := K
  mg := mg
  base := base
  A := A.deeper (envOfC qual scope s.heap.objs.size f cd)
  N := N
  s₀ := s
  H₀ := H
  env := envOfC qual scope s.heap.objs.size f cd
  outer := outer
  stack := envOfC qual scope s.heap.objs.size f cd :: outer
  ex := []
  calm := true
  fn := fun _ => true
  pn := []
  xe := fun e s' => wpAny (model P w) (A.deeper (envOfC qual scope s.heap.objs.size f cd)) (leaving (envOfC qual scope s.heap.objs.size f cd) e) (fun _ s'' => CX outer H s E e s'') (fun e' s'' => CX outer H s E e' s'') s'

theorem cell_has {sc : Scope} {n : Nat} {x : Str} (h : sc.names.lookup x = some .cell) : ∃ c, (cellsFrom n sc.names []).lookup x = some c := by
  have q := PySem.W.cellsFrom_some sc.names n [] (.inl h)
  exact Option.isSome_iff_exists.mp q

theorem inv_start {CX : CXT} {P : Program} {w : World} {K : PySem.W.Frag} {mg : Str → Option Value} {base : Heap} {N ps : List Str} {qual : Str} {scope : Scope} {f : Addr} {cd : Value} {A : Around} {outer : List Env} {s s1 : Shared} {H : Hp} {E : XK} {us : List Value} {vs : List V}
    (S : FnScope N ps scope) (hd : A.handled = none) (e0 : Env0 P w K mg base A outer s H) (hl : vs.length = ps.length) (r : Vals vs us)
    (x : InCallC s s.heap.objs.size (bindL (envOfC qual scope s.heap.objs.size f cd).kindOf (ps.zip us) fun _ => none) (cellsFrom (s.heap.objs.size + 1) scope.names []) (bindC (envOfC qual scope s.heap.objs.size f cd).kindOf (ps.zip us) fun _ => none) s1) :
    Inv (cxOf CX P w K mg base N qual scope f cd A outer s H E) [] (start N vs) H s1 := by
  have hpl : ps.length ≤ N.length := by have := congrArg List.length S.pre; rw [List.length_take] at this; omega
  obtain ⟨h1, tk, rfl, hk⟩ := x.done
  have noA : ∀ b : Addr, b ∉ (cxOf CX P w K mg base N qual scope f cd A outer s H E).ex := fun b z => absurd (show b ∈ ([] : List Addr) from z) (by simp)
  refine ⟨⟨e0.mod, S.kind, rfl, rfl, Nat.le_refl _, fun y z c h1 h2 => ?_, fun y hy => ?_, fun y c _ h => ?_, fun _ => hd, Around.frames_deeper e0.frames, .inr ⟨rfl, rfl⟩, fun b z => absurd z (noA b), e0.bs, e0.bsz, fun b _ _ => noA b, fun b z => absurd z (noA b), e0.funs, e0.frf⟩,
    rfl, e0.bare, Un.kept hk, ⟨_, x.toInCall.ns, fun i y v h1 h2 h3 => ?_⟩, fun y c h => ⟨_, x.cell y c h⟩, e0.hok.fresh (Nat.le_refl _), fun y c h => ?_, fun p hp => absurd (show p ∈ ([] : List (Addr × Obj)) from hp) (by simp), e0.hok.kept hk, ?_⟩
  · exact name_of_addr x.apart (PySem.mem_of_lookup h1) (PySem.mem_of_lookup h2)
  · have hy : scope.names.lookup y = some .cell ∨ scope.names.lookup y = some .free := hy
    rcases hy with hy | hy
    · exact cell_has hy
    · exact absurd rfl (S.nofree _ (PySem.mem_of_lookup hy))
  · exact Nat.le_of_lt (x.above y c (PySem.mem_of_lookup h))
  · have hi : i < vs.length := by
      unfold start at h2
      by_cases hi : i < vs.length
      · exact hi
      · rw [List.getElem?_append_right (by simpa using hi)] at h2
        rw [List.getElem?_replicate] at h2
        split at h2 <;> cases h2
    have ha : vs[i]? = some v := by
      unfold start at h2
      rw [List.getElem?_append_left (by simpa using hi), List.getElem?_map] at h2
      cases e : vs[i]? with
      | none => rw [e] at h2; cases h2
      | some a => rw [e] at h2; cases h2; rfl
    obtain ⟨u, hu, rv⟩ := r.get ha
    have hp : ps[i]? = some y := by
      rw [← S.pre, List.getElem?_take_of_lt (by omega)]; exact h1
    have ndP : ps.Nodup := by rw [← S.pre]; exact S.nd.sublist (List.take_sublist _ _)
    refine ⟨u, rv, ?_⟩
    rcases S.par y (List.mem_of_getElem? hp) with k | k
    · exact .inl ⟨k, bindL_get ndP hp hu k⟩
    · obtain ⟨c, e⟩ := cell_has (n := s.heap.objs.size + 1) k
      refine .inr ⟨.inl k, c, e, ?_⟩
      have q := x.cell y c e
      rw [bindC_get ndP hp hu (by show scope.names.lookup y ≠ _; rw [k]; decide)] at q
      exact q
  · exact e0.hok.fresh (Nat.le_of_lt (x.above y c (PySem.mem_of_lookup h)))
  · unfold start
    show _ = N.length
    rw [List.length_append, List.length_map, List.length_replicate]
    omega

/-- THE RULE: a def (or a method) of the text, by its body. The body's reading t is chosen for each entry; it is run at the parameters' values -/
theorem fn_of {CX : CXT} {P : Program} {w : World} {K : PySem.W.Frag} {mg : Str → Option Value} {base : Heap} {k : Nat} {f : Addr} {name qual : Str} {params : Arguments} {body : List Stmt} {scope : Scope} {dV kV doc pm cdv ct oc : Value} {an od : Option Addr}
    {osl : Array (Option Value)} {N ps : List Str} {sp : Sp} (lk : K.lookup f = some ⟨oc, od, .func (PySem.W.fnOf name qual params body scope dV kV doc pm an cdv ct), osl⟩) (hcd : PySem.W.codeIn K cdv qual = true) (S : FnScope N ps scope)
    (len : ∀ vs H Q E, sp vs H Q E → vs.length = ps.length)
    (hbody : ∀ (A : Around) (outer : List Env) (s : Shared) (H : Hp) (vs : List V) (Q : VK) (E : XK), Room k (A.deeper (envOfC qual scope s.heap.objs.size f cdv)) → sp vs H Q E →
      ∃ t, PSs (cxOf CX P w K mg base N qual scope f cdv A outer s H E) body t ∧ t { nx := fun _ H' => Q .non H', rt := Q } (start N vs) H) :
    FnOk P w K mg base CX (k + 1) f (PySem.W.fnOf name qual params body scope dV kV doc pm an cdv ct) ps sp := by
  refine ⟨len, fun A outer s H args us vs Q E hr e0 hb r hsp => ?_⟩
  have hl := len _ _ _ _ hsp
  have KX : K.In s.heap := e0.mod.kin.keeps fun b o e => (e0.bs b o e).1
  have lim : s.heap.NoLimit := e0.mod.nolimit.keeps fun b o e => (e0.bs b o e).1
  have hkind : ∀ y ∈ ps.zip us, scope.names.lookup y.1 = some .local ∨ (scope.names.lookup y.1 = some .cell ∧ ((cellsFrom (s.heap.objs.size + 1) scope.names []).lookup y.1).isSome = true) := fun ⟨n, v⟩ hy => by
    rcases S.par n (List.of_mem_zip hy).1 with q | q
    · exact .inl q
    · exact .inr ⟨q, PySem.W.cellsFrom_some _ _ _ (.inl q)⟩
  refine codeAny_call_function hr.depth (KX _ _ lk) rfl S.co S.gen rfl (PySem.W.codeRec_of KX hcd) (hb _ _ _ _ ?_)
  refine wpAny_newFunctionEnv_cells S.kind hkind fun env he s1 x => ?_
  subst he
  refine ⟨lim.keeps x.toInCall.keep, codeAny_func ?_⟩
  obtain ⟨t, ht, hq⟩ := hbody A outer s H vs Q E (hr.deeper _) hsp
  have I : Inv (cxOf CX P w K mg base N qual scope f cdv A outer s H E) [] (start N vs) H s1 := inv_start S hr.hd e0 hl r x
  refine wpAny_mono (ht [] s1 (start N vs) H _ I hq) (fun fl s' hs => ?_) fun e s' hs => hs
  have fin : ∀ {σ' : St} {H' : Hp} {v : V} {u : Value}, Inv (cxOf CX P w K mg base N qual scope f cdv A outer s H E) [] σ' H' s' → RelV v u → Q v H' → CE outer P w H s Q u s' :=
    fun {σ' H' v u} J rv q => ⟨v, H', J.os, J.bare, J.base, J.hok, rv, q⟩
  cases fl with
  | ret u =>
    obtain ⟨v, σ', H', J, rv, q⟩ := hs
    exact fin J rv q
  | next =>
    obtain ⟨σ', H', J, q⟩ := hs
    exact fin (v := V.non) (u := Value.none) J rfl q
  | brk =>
    obtain ⟨_, _, _, q⟩ := hs
    exact False.elim q
  | cont =>
    obtain ⟨_, _, _, q⟩ := hs
    exact False.elim q
end L2

namespace L2
open PySem PySem.Spec PyProof.Rows
section
variable {X : Cx} {x : Str} {p pos : Pos} {e : Expr} {es : List Expr} {t : TA} {id T : String} {r : List V → Hp → VK → Prop}

def tCB (r : List V → Hp → VK → Prop) (t : TA) : TE := fun σ H Q => t σ H fun vs H1 => r vs H1 Q
/-- f(e, ..), f a built-in function -/
theorem pe_callB (hc : CallR X (.builtin id) r) (hg : Gl X x) (hm : X.mg x = none) (hv : bootBuiltins x = some (.builtin id)) (ha : PA X (e :: es) t) (hn : x ≠ "__name__" := by decide) (hdb : (x == ("__debug__" : Str)) = false := by decide)
    (he : starEach (e :: es) X.env = (false, eval e X.env) :: starEach es X.env := by rfl) (hpl : (backTo pos (starEach es X.env)).any (·.1) = false := by rfl) : PE X (.Call (.Name x p) (e :: es) [] pos) (tCB r t) := by
  intro pins s σ H Q I h
  refine wpAny_Call_Name_kw (ld_blt I hg hm hv ?_ hn hdb)
  exact PyProof.Rows.callWith_builtin1 (thn (ha pos pins s σ H _ I h) fun us s1 ⟨vs, H1, I1, r1, q1⟩ => hc pins s1 σ H1 vs us Q I1 r1 q1) he hpl
/-- T(e, ..), T a built-in type -/
theorem pe_callTy (hc : CallR X (.type T) r) (hg : Gl X x) (hm : X.mg x = none) (hv : bootBuiltins x = some (.type T)) (ha : PA X (e :: es) t) (hn : x ≠ "__name__" := by decide) (hdb : (x == ("__debug__" : Str)) = false := by decide)
    (he : starEach (e :: es) X.env = (false, eval e X.env) :: starEach es X.env := by rfl) (hpl : (backTo pos (starEach es X.env)).any (·.1) = false := by rfl) : PE X (.Call (.Name x p) (e :: es) [] pos) (tCB r t) := by
  intro pins s σ H Q I h
  refine wpAny_Call_Name_kw (ld_blt I hg hm hv ?_ hn hdb)
  exact PyProof.Rows.callWith_type1 (thn (ha pos pins s σ H _ I h) fun us s1 ⟨vs, H1, I1, r1, q1⟩ => hc pins s1 σ H1 vs us Q I1 r1 q1) he hpl
end
end L2

namespace HT
open PySem PyProof.Rows

section
open PySem.SeqAt
open PySem.AutoSeq1 (wpAny_loadPart')
open PySem.MeetsSeq PySem.MeetsSeq2 PySem.MeetsSeq3

end

section
variable {prog : Program} {w : World} {A : Around} {E : Value → Shared → Prop} {s : Shared}

/-- t + u, t not empty -/
theorem cat_tup {t b : Addr} {vs ws : List Value} {Q : Value → Shared → Prop} (ht : IsTup s.heap t vs.toArray) (hb : IsTup s.heap b ws.toArray) (hv : vs ≠ [])
    (h1 : ws = [] → Q (.ref t) s) (h2 : ws ≠ [] → Q (.ref s.heap.objs.size) { s with heap := s.heap.push { cls := .type "tuple", data := .seq (vs ++ ws).toArray } })
    (hsz : vs.length + ws.length ≤ sizeLine) : wpAny (model prog w) A (binaryOp .Add (.ref t) (.ref b)) Q E s := by
  obtain ⟨⟨cls, dd, data, sl⟩, ho, hc, n, hd⟩ := id ht
  obtain ⟨⟨cls2, dd2, data2, sl2⟩, ho2, hc2, n2, hd2⟩ := id hb
  simp only at hc hd hc2 hd2
  subst hc hd hc2 hd2
  have e : vs.toArray ++ ws.toArray = (vs ++ ws).toArray := by simp
  by_cases hw : ws = []
  · exact concat_meets ⟨_, ho, rfl⟩ ⟨_, ho2, rfl⟩ noFill_tuple_add seq_tuple_add PySem.F.slot_tuple_add PySem.F.entry_tuple_add (PySem.F.args_tuple_add_2 _ _)
      (tuple_addW1 t b vs.toArray ws.toArray n n2 dd dd2 sl sl2 (by simpa using hv) (by simp [hw])) ⟨ho, ho2, h1 hw⟩
  · refine concat_meets ⟨_, ho, rfl⟩ ⟨_, ho2, rfl⟩ noFill_tuple_add seq_tuple_add PySem.F.slot_tuple_add PySem.F.entry_tuple_add (PySem.F.args_tuple_add_2 _ _)
      (tuple_addW2 t b vs.toArray ws.toArray n n2 dd dd2 sl sl2 (by simpa using hv) (by simpa using hw) (by rw [List.size_toArray, List.size_toArray]; exact hsz)) ⟨ho, ho2, ?_⟩
    rw [e]
    exact h2 hw

/-! ### t[a:b], not the whole -/
/-- a slice's bound as a place among n (d where it is left out) -/
def sIx (n d : Nat) : Option Int → Nat
  | none => d
  | some v => if v < 0 then (v + (n : Int)).toNat else min v.toNat n
theorem sIx_none (n d : Nat) : sIx n d none = d := rfl
theorem sIx_nat (n d k : Nat) : sIx n d (some (k : Int)) = min k n := by
  show (if (k : Int) < 0 then ((k : Int) + (n : Int)).toNat else min (k : Int).toNat n) = min k n
  rw [if_neg (by omega), Int.toNat_natCast]
theorem sIx_le (n d : Nat) (hd : d ≤ n) (o : Option Int) : sIx n d o ≤ n := by
  cases o with
  | none => exact hd
  | some v =>
    show (if v < 0 then (v + (n : Int)).toNat else min v.toNat n) ≤ n
    by_cases hv : v < 0
    · rw [if_pos hv]; omega
    · rw [if_neg hv]; exact Nat.min_le_right _ _
theorem clip_eq (v : Int) (n d : Nat) : (if v < 0 then max (v + (n : Int)) 0 else min v (n : Int)) = ((sIx n d (some v) : Nat) : Int) := by
  show (if v < 0 then max (v + (n : Int)) 0 else min v (n : Int)) = (((if v < 0 then (v + (n : Int)).toNat else min v.toNat n) : Nat) : Int)
  by_cases hv : v < 0
  · simp only [if_pos hv]; omega
  · simp only [if_neg hv]; omega
theorem adjust_gen (lo hi : Option Int) (n : Nat) : Builtin.Slice.sliceAdjust lo hi 1 (n : Int) = (((sIx n 0 lo : Nat) : Int), ((sIx n n hi : Nat) : Int)) := by
  have h1 : ¬ ((1 : Int) < 0) := by omega
  unfold Builtin.Slice.sliceAdjust
  simp only [h1, if_false]
  refine Prod.ext ?_ ?_
  · cases lo with
    | none => rfl
    | some v => exact clip_eq v n 0
  · cases hi with
    | none => rfl
    | some v => exact clip_eq v n n
theorem places_gen (i j : Nat) : Builtin.Slice.slicePlaces (i : Int) (j : Int) 1 = j - i := by
  unfold Builtin.Slice.slicePlaces
  have h1 : (1 : Int) > 0 := by omega
  simp only [h1, if_true, Int.ediv_one]
  split <;> omega
theorem slicePart_ {v : Value} {o : Option Int} {Q : Option Int → Shared → Prop} (p : IsPart v o) (h : Q o s) : wpAny (model prog w) A (Builtin.Slice.slicePartIndex v) Q E s := by
  cases p with
  | none => exact slicePart_none h
  | int i t => exact slicePart_int h
theorem sliceApplied_gen {sl : Addr} {vl vu : Value} {lo hi : Option Int} {n : Nat} {Q : Int × Int × Nat → Shared → Prop} (hs : s.heap.IsSliceOf sl vl vu .none) (pl : IsPart vl lo) (pu : IsPart vu hi)
    (h : Q (((sIx n 0 lo : Nat) : Int), 1, sIx n n hi - sIx n 0 lo) s) : wpAny (model prog w) A (Builtin.Slice.sliceApplied (.ref sl) (pure (n : Int))) Q E s := by
  obtain ⟨os, hos, hcs, hds⟩ := id hs
  unfold Builtin.Slice.sliceApplied Builtin.Slice.sliceFields
  refine wpAny_bind (wpAny_bind (wpAny_field hos hds (x := vl) rfl (wpAny_bind (wpAny_field hos hds (x := vu) rfl (wpAny_bind (wpAny_field hos hds (x := .none) rfl (wpAny_pure ?_)))))))
  refine wpAny_bind (slicePart_none ?_)
  show wpAny _ _ (if ((1 : Int) == 0) = true then _ else _) _ _ s
  rw [if_neg (by decide)]
  refine wpAny_bind (slicePart_ pl (wpAny_bind (slicePart_ pu (wpAny_bind (wpAny_pure ?_)))))
  show wpAny _ _ (match Builtin.Slice.sliceAdjust lo hi 1 (n : Int) with | (lo, hi) => pure (lo, (1 : Int), Builtin.Slice.slicePlaces lo hi 1)) _ _ s
  rw [adjust_gen lo hi n]
  show wpAny _ _ (pure (((sIx n 0 lo : Nat) : Int), (1 : Int), Builtin.Slice.slicePlaces ((sIx n 0 lo : Nat) : Int) ((sIx n n hi : Nat) : Int) 1)) _ _ s
  rw [places_gen]
  exact wpAny_pure h
theorem pick_gen (xs : Array Value) (i k : Nat) : ((List.range k).filterMap fun (m : Nat) => xs[((i : Int) + (m : Int) * 1).toNat]?).toArray = ((xs.toList.drop i).take k).toArray := by
  have e : (fun (m : Nat) => xs[((i : Int) + (m : Int) * 1).toNat]?) = fun m => xs[i + m]? := by
    funext m
    have : ((i : Int) + (m : Int) * 1).toNat = i + m := by omega
    rw [this]
  rw [e]
  have := pick_run xs i k
  rw [List.filterMap_map] at this
  have e2 : ((fun x => xs[x]?) ∘ fun x => i + x) = fun m => xs[i + m]? := rfl
  rw [e2] at this
  rw [this]

theorem getItem_tuple_cut {t sl : Addr} {items : Array Value} {vl vu : Value} {lo hi : Option Int} {Q : Value → Shared → Prop} (ht : IsTup s.heap t items) (hs : s.heap.IsSliceOf sl vl vu .none) (pl : IsPart vl lo) (pu : IsPart vu hi)
    (hw : ¬ (sIx items.size 0 lo = 0 ∧ sIx items.size items.size hi = items.size))
    (h : Q (.ref s.heap.objs.size) { s with heap := s.heap.push { cls := .type "tuple", data := .seq ((items.toList.drop (sIx items.size 0 lo)).take (sIx items.size items.size hi - sIx items.size 0 lo)).toArray } })
    (hsz : items.size ≤ sizeLine) : wpAny (model prog w) A (getItem (.ref t) (.ref sl)) Q E s := by
  have htake : sizeOk (.seq ((items.toList.drop (sIx items.size 0 lo)).take (sIx items.size items.size hi - sIx items.size 0 lo)).toArray) := by
    show ((items.toList.drop (sIx items.size 0 lo)).take (sIx items.size items.size hi - sIx items.size 0 lo)).toArray.size ≤ sizeLine
    rw [List.size_toArray, List.length_take, List.length_drop, Array.length_toList]
    omega
  have hj : sIx items.size items.size hi ≤ items.size := sIx_le _ _ (Nat.le_refl _) hi
  obtain ⟨os, hos, hcs, hds⟩ := id hs
  have hTs : s.TypeIs (.ref sl) "slice" := ⟨os, hos, hcs⟩
  unfold getItem
  try with_reducible refine wpAny_holding ?_
  first | refine wpAny_bind (wpAny_pure ?_) | skip
  refine wpAny_bind (wpAny_sequenceKey ht.typeIs (by decide) ?_)
  refine wpAny_bind (wpAny_callSpecial?_slot (name := Str.ofString "__getitem__") ht.typeIs PyProof.Rows.slot_tuple_getitem
    (wpAny_call_entry PyProof.Rows.slot_tuple_getitem ht.typeIs entry_tuple_getitem ?_ (args_tuple_getitem _ _)))
  show wpAny _ _ (Builtin.Tuple.tupleItemsOf (.ref t) >>= _) _ _ s
  refine wpAny_bind (tupleItemsOf_ ht ?_)
  refine wpAny_bind (wpAny_typeOf hTs ?_)
  rw [if_pos (by decide)]
  refine wpAny_bind (sliceApplied_gen hs pl pu ?_)
  have hno : ¬ ((((sIx items.size 0 lo : Nat) : Int) == 0 && (1 : Int) == 1 && (sIx items.size items.size hi - sIx items.size 0 lo) == items.size) = true) := by
    intro q
    rw [Bool.and_eq_true, Bool.and_eq_true] at q
    have q1 : ((sIx items.size 0 lo : Nat) : Int) = 0 := eq_of_beq q.1.1
    have q2 : sIx items.size items.size hi - sIx items.size 0 lo = items.size := eq_of_beq q.2
    exact hw ⟨by omega, by omega⟩
  show wpAny _ _ (if (((sIx items.size 0 lo : Nat) : Int) == 0 && (1 : Int) == 1 && (sIx items.size items.size hi - sIx items.size 0 lo) == items.size) = true then _ else _) _ _ s
  rw [if_neg hno, pick_gen]
  first
    | exact wpAny_bind (m := Builtin.Tuple.tupleExact _) (wpAny_newObj_type (wpAny_pure ⟨_, rfl, wpAny_pure h⟩) htake)
    | exact wpAny_bind (m := Builtin.Tuple.tupleExact _) (wpAny_newObj_type (wpAny_bind (wpAny_pure (wpAny_pure ⟨_, rfl, wpAny_pure h⟩))) htake)
    | exact wpAny_bind (wpAny_bind (m := Builtin.Tuple.tupleExact _) (wpAny_newObj_type (wpAny_pure (wpAny_pure ⟨_, rfl, wpAny_pure h⟩)) htake))
    | exact wpAny_bind (wpAny_bind (m := Builtin.Tuple.tupleExact _) (wpAny_newObj_type (wpAny_pure ⟨_, rfl, wpAny_pure h⟩) htake))
end
end HT

namespace L2
open PySem PySem.Spec PyProof.Rows

/-! ### the parts of a slice -/
abbrev TO := St → Hp → (Option Int → Hp → Prop) → Prop
/-- a slice's part (left out, or an int) -/
def PO (X : Cx) (e : Option Expr) (t : TO) : Prop :=
  ∀ (pins : List (Addr × Obj)) (s : Shared) (σ : St) (H : Hp) (Q : Option Int → Hp → Prop), Inv X pins σ H s → t σ H Q →
    wpAny (model X.prog X.w) X.A (evalPart e X.env) (fun u s' => ∃ o H', Inv X pins σ H' s' ∧ IsPart u o ∧ Q o H') X.xe s
def tNoPart : TO := fun _ H Q => Q none H
def tPart (t : TE) : TO := fun σ H Q => t σ H fun x H1 => ∃ i, x = .int i ∧ Q (some i) H1

section
variable {X : Cx} {e : Expr} {te : TE} {lo hi : Option Expr} {tl th : TO} {pos p2 : Pos}

theorem po_none : PO X none tNoPart := by
  intro pins s σ H Q I h
  rw [evalPart_none]
  exact wpAny_pure ⟨none, H, I, .none, h⟩
theorem po_some (h : PE X e te) : PO X (some e) (tPart te) := by
  intro pins s σ H Q I hw
  rw [evalPart_some]
  refine thn (h pins s σ H _ I hw) fun u s1 ⟨x, H1, I1, r1, q1⟩ => ?_
  obtain ⟨i, rfl, q⟩ := q1
  obtain ⟨t, rfl⟩ := r1
  exact ⟨some i, H1, I1, .int i t, q⟩

/-- what a slice of a value is, by values: the slice object stands at sl -/
def SlR (X : Cx) (r : V → Option Int → Option Int → Hp → VK → Prop) : Prop :=
  ∀ (pins : List (Addr × Obj)) (s : Shared) (σ : St) (H : Hp) (x : V) (v vl vu : Value) (lo hi : Option Int) (sl : Addr) (Q : VK), Inv X pins σ H s → RelV x v → s.heap.IsSliceOf sl vl vu .none → IsPart vl lo → IsPart vu hi → r x lo hi H Q →
    ∃ T id, typeLookup (.type T) "__getitem__" = pure (some (.builtin id)) ∧ s.TypeIs v T ∧ wpAny (model X.prog X.w) X.A (getItem v (.ref sl)) (EP X pins σ Q) X.xe s
theorem SlR.or {r r' : V → Option Int → Option Int → Hp → VK → Prop} (h : SlR X r) (h' : SlR X r') : SlR X (fun x lo hi H Q => r x lo hi H Q ∨ r' x lo hi H Q) := by
  intro pins s σ H x v vl vu lo hi sl Q I rx hs pl pu q
  rcases q with q | q
  · exact h pins s σ H x v vl vu lo hi sl Q I rx hs pl pu q
  · exact h' pins s σ H x v vl vu lo hi sl Q I rx hs pl pu q
def tSl (r : V → Option Int → Option Int → Hp → VK → Prop) (te : TE) (tl th : TO) : TE := fun σ H Q => te σ H fun x H1 => tl σ H1 fun l H2 => th σ H2 fun u H3 => r x l u H3 Q
/-- a[lo:hi], any a -/
theorem pe_slice {r : V → Option Int → Option Int → Hp → VK → Prop} (hr : SlR X r) (he : PE X e te) (hl : PO X lo tl) (hu : PO X hi th) : PE X (.Subscript e (.Slice lo hi none p2) pos) (tSl r te tl th) := by
  intro pins s σ H Q I h
  refine Subscript_ (thn (he pins s σ H _ I h) fun v s1 ⟨x, H1, I1, r1, q1⟩ => ?_)
  refine wpAny_Slice (thn (hl pins s1 σ H1 _ I1 q1) fun vl s2 ⟨l, H2, I2, pl, q2⟩ => thn (hu pins s2 σ H2 _ I2 q2) fun vu s3 ⟨u, H3, I3, pu, q3⟩ => ?_)
  rw [evalPart_none]
  refine wpAny_pure ?_
  have I4 : Inv X pins σ H3 { s3 with heap := s3.heap.push { cls := .type "slice", data := .fields #[vl, vu, .none] } } := I3.kept (t' := s3.toks) fun b ob q => Heap.get?_push_of_some _ q
  obtain ⟨T, id, hT, ht, hg⟩ := hr pins { s3 with heap := s3.heap.push { cls := .type "slice", data := .fields #[vl, vu, .none] } } σ H3 x v vl vu l u s3.heap.objs.size Q I4 r1 (Heap.IsSliceOf.new ..) pl pu q3
  show wpAny (model X.prog X.w) X.A (subscriptTail e (.Slice lo hi none p2) v (.ref s3.heap.objs.size)) (EP X pins σ Q) X.xe { s3 with heap := s3.heap.push { cls := .type "slice", data := .fields #[vl, vu, .none] } }
  exact tail_any (ops := [.ref s3.heap.objs.size, v]) ht hT hg (by with_unfolding_all rfl)

/-- the items of xs[lo:hi] -/
def cutV (xs : List V) (lo hi : Option Int) : List V := (xs.drop (HT.sIx xs.length 0 lo)).take (HT.sIx xs.length xs.length hi - HT.sIx xs.length 0 lo)
theorem cutV_length (xs : List V) (lo hi : Option Int) : (cutV xs lo hi).length ≤ xs.length := by
  unfold cutV
  rw [List.length_take, List.length_drop]
  omega
/-- t[lo:hi], not the whole of it (the whole would be t itself) -/
def rSlT (K : PySem.W.Frag) : V → Option Int → Option Int → Hp → VK → Prop := fun x lo hi H Q => ∃ a xs, x = .ref a ∧ SqT K H a xs ∧
  ¬ (HT.sIx xs.length 0 lo = 0 ∧ HT.sIx xs.length xs.length hi = xs.length) ∧ ∀ p, H p = none → Q (.ref p) (upd H p (.tup (cutV xs lo hi)))
theorem sl_tup : SlR X (rSlT X.K) := by
  intro pins s σ H x v vl vu lo hi sl Q I rx hs pl pu h
  obtain ⟨a, xs, rfl, hx, hw, q⟩ := h
  cases rx
  obtain ⟨its, r, ht, hz⟩ := I.tuple hx
  have hlen : its.toArray.size = xs.length := by rw [List.size_toArray]; exact r.length.symm
  refine ⟨"tuple", _, PyProof.Rows.slot_tuple_getitem.lookup, ht.typeIs, ?_⟩
  refine HT.getItem_tuple_cut ht hs pl pu (by rw [hlen]; exact hw) ?_ (by rw [hlen]; exact hz)
  rw [hlen]
  refine ⟨.ref s.heap.objs.size, _, I.laid (t' := s.toks) (o := .tup (cutV xs lo hi)) (fun b ob q => Heap.get?_push_of_some _ q) (Nat.le_refl _) ?_, rfl, q _ (I.hok.fresh (Nat.le_refl _))⟩
  exact ⟨Nat.le_trans (cutV_length xs lo hi) hz, _, (r.drop (HT.sIx xs.length 0 lo)).take (HT.sIx xs.length xs.length hi - HT.sIx xs.length 0 lo), IsTup.new _ _⟩

/-! ### t < u, t + u -/
/-- t + u, t not empty: u empty gives t itself -/
def rCatT (K : PySem.W.Frag) : R2 := fun x y H Q => ∃ a b xs ys, x = .ref a ∧ y = .ref b ∧ SqT K H a xs ∧ SqT K H b ys ∧ xs ≠ [] ∧ xs.length + ys.length ≤ sizeLine ∧
  (ys = [] → Q (.ref a) H) ∧ (ys ≠ [] → ∀ p, H p = none → Q (.ref p) (upd H p (.tup (xs ++ ys))))
theorem Vals.nil_iff {xs : List V} {us : List Value} (r : Vals xs us) : us = [] ↔ xs = [] := by
  cases r with
  | nil => simp
  | cons _ _ => simp
theorem op_catT : OpR X (binaryOp .Add) (rCatT X.K) := by
  intro pins s σ H x y v u Q I rx ry h
  obtain ⟨a, b, xs, ys, rfl, rfl, ha, hb, hx, hz, q1, q2⟩ := h
  cases rx
  cases ry
  obtain ⟨its, r1, p1, _⟩ := I.tuple ha
  obtain ⟨its2, r2, p2, _⟩ := I.tuple hb
  refine HT.cat_tup p1 p2 (fun z => hx (r1.nil_iff.mp z)) (fun z => ⟨.ref a, H, I, rfl, q1 (r2.nil_iff.mp z)⟩) (fun z => ?_) (by rw [← r1.length, ← r2.length]; exact hz)
  refine ⟨.ref s.heap.objs.size, _, I.laid (t' := s.toks) (o := .tup (xs ++ ys)) (fun b ob q => Heap.get?_push_of_some _ q) (Nat.le_refl _) ?_, rfl, q2 (fun w => z (r2.nil_iff.mpr w)) _ (I.hok.fresh (Nat.le_refl _))⟩
  exact ⟨by rw [List.length_append]; exact hz, _, r1.append r2, IsTup.new _ _⟩
end
end L2

namespace L2
open PySem PySem.Spec PyProof.Rows

/-! ### places -/
/-- the place that an index of any sign means -/
def ixN (n : Nat) (i : Int) : Option Nat := if 0 ≤ i then (if i < n then some i.toNat else none) else if -(n : Int) ≤ i then some (i + n).toNat else none
def atI {α : Type} (xs : List α) (i : Int) : Option α := (ixN xs.length i).bind fun j => xs[j]?
theorem ixN_seq {n : Nat} {i : Int} {j : Nat} (h : ixN n i = some j) : seqIndex? i n = some j ∧ j < n ∧ -(n : Int) ≤ i ∧ i < n := by
  unfold ixN at h
  by_cases h0 : 0 ≤ i
  · rw [if_pos h0] at h
    by_cases h1 : i < n
    · rw [if_pos h1] at h
      have e : i.toNat = j := Option.some.inj h
      exact ⟨by rw [seqIndex_of h0 h1, e], by omega, by omega, h1⟩
    · rw [if_neg h1] at h; cases h
  · rw [if_neg h0] at h
    by_cases h1 : -(n : Int) ≤ i
    · rw [if_pos h1] at h
      have e : (i + n).toNat = j := Option.some.inj h
      exact ⟨by rw [seqIndex_neg (by omega) h1, e], by omega, h1, by omega⟩
    · rw [if_neg h1] at h; cases h
theorem atI_get {α : Type} {xs : List α} {i : Int} {v : α} (h : atI xs i = some v) : ∃ j, seqIndex? i xs.length = some j ∧ xs[j]? = some v ∧ j < xs.length ∧ -(xs.length : Int) ≤ i ∧ i < xs.length := by
  unfold atI at h
  cases e : ixN xs.length i with
  | none => rw [e] at h; cases h
  | some j =>
    rw [e] at h
    obtain ⟨h1, h2, h3, h4⟩ := ixN_seq e
    exact ⟨j, h1, h, h2, h3, h4⟩
theorem atI_nat {α : Type} {xs : List α} {j : Nat} {v : α} (h : xs[j]? = some v) : atI xs (j : Int) = some v := by
  have hj : j < xs.length := (List.getElem?_eq_some_iff.mp h).1
  have e : ixN xs.length (j : Int) = some j := by
    unfold ixN
    rw [if_pos (by omega), if_pos (by omega)]; simp
  unfold atI; rw [e]; exact h
theorem atI_last {α : Type} (xs : List α) (v : α) : atI (xs ++ [v]) (-1) = some v := by
  have hl : (xs ++ [v]).length = xs.length + 1 := by simp
  have e : ixN (xs ++ [v]).length (-1) = some xs.length := by
    unfold ixN
    rw [hl, if_neg (by decide), if_pos (by omega)]
    congr 1
    omega
  unfold atI
  rw [e]
  show (xs ++ [v])[xs.length]? = some v
  simp

/-! ### what may be subscripted -/
/-- what stands as an index of a plain subscript -/
def PlainIx (b : Expr) : Prop := ∀ o i, subscripted b false o i = operate [o, i] (getItem o i)
/-- a subscript by values -/
def IxR (X : Cx) (r : R2) : Prop :=
  ∀ (value slice : Expr) (pins : List (Addr × Obj)) (s : Shared) (σ : St) (H : Hp) (x y : V) (v u : Value) (Q : VK), Inv X pins σ H s → RelV x v → RelV y u → r x y H Q →
    subscripted slice false v u = operate [v, u] (getItem v u) → wpAny (model X.prog X.w) X.A (subscriptTail value slice v u) (EP X pins σ Q) X.xe s
/-- a call of a builtin's method by values: the receiver, the arguments -/
def MtR (X : Cx) (id : String) (r : V → List V → Hp → VK → Prop) : Prop :=
  ∀ (pins : List (Addr × Obj)) (s : Shared) (σ : St) (H : Hp) (x : V) (xs : List V) (v : Value) (us : List Value) (Q : VK), Inv X pins σ H s → RelV x v → Vals xs us → r x xs H Q →
    wpAny (model X.prog X.w) X.A (call (.builtin id) (v :: us)) (EP X pins σ Q) X.xe s
section
variable {X : Cx} {a b : Expr} {ta tb : TE} {pos : Pos}
theorem IxR.or {r r' : R2} (h : IxR X r) (h' : IxR X r') : IxR X (fun x y H Q => r x y H Q ∨ r' x y H Q) := by
  intro value slice pins s σ H x y v u Q I rx ry q hs
  rcases q with q | q
  · exact h value slice pins s σ H x y v u Q I rx ry q hs
  · exact h' value slice pins s σ H x y v u Q I rx ry q hs
theorem MtR.or {id : String} {r r' : V → List V → Hp → VK → Prop} (h : MtR X id r) (h' : MtR X id r') : MtR X id (fun x xs H Q => r x xs H Q ∨ r' x xs H Q) := by
  intro pins s σ H x xs v us Q I rx rs q
  rcases q with q | q
  · exact h pins s σ H x xs v us Q I rx rs q
  · exact h' pins s σ H x xs v us Q I rx rs q
/-- a[b] -/
theorem pe_ix {r : R2} (hr : IxR X r) (ha : PE X a ta) (hb : PE X b tb) (hs : PlainIx b) : PE X (.Subscript a b pos) (tOp r ta tb) := by
  intro pins s σ H Q I h
  exact Subscript_ (binT ha hb I h fun v u s2 x y H2 I2 rx ry q => hr a b pins s2 σ H2 x y v u Q I2 rx ry q (hs _ _))

def rIxL (K : PySem.W.Frag) : R2 := fun x y H Q => ∃ p xs i v, x = .ref p ∧ y = .int i ∧ SqL K H p xs ∧ atI xs i = some v ∧ Q v H
def rIxT (K : PySem.W.Frag) : R2 := fun x y H Q => ∃ p xs i v, x = .ref p ∧ y = .int i ∧ SqT K H p xs ∧ atI xs i = some v ∧ Q v H
theorem ix_list : IxR X (rIxL X.K) := by
  intro value slice pins s σ H x y v u Q I rx ry h hs
  obtain ⟨p, xs, i, z, rfl, rfl, hq, he, q⟩ := h
  cases rx
  obtain ⟨t, rfl⟩ := ry
  obtain ⟨its, r, pl, hz⟩ := I.list hq
  obtain ⟨j, h1, h2, h3, h4, h5⟩ := atI_get he
  obtain ⟨w, ew, rw'⟩ := r.get h2
  have hl := r.length
  have hn := line63
  have fin : EP X pins σ Q w s := ⟨z, H, I, rw', q⟩
  by_cases h0 : 0 ≤ i
  · have hj : i.toNat = j := by
      rw [seqIndex_of h0 h5] at h1
      exact Option.some.inj h1
    exact item_listR pl.isList h0 (by omega) (by rw [hj]; simpa using ew) fin hs
  · have hj : (i + (its.toArray.size : Int)).toNat = j := by
      rw [seqIndex_neg (by omega) h4] at h1
      rw [List.size_toArray, ← hl]
      exact Option.some.inj h1
    exact subscriptTail_builtinR (x := w) pl.isList.typeIs slot_list_getitem.lookup
      (wpAny_getItem_list_neg (Q := fun r s' => r = w ∧ EP X pins σ Q r s') pl.isList (by omega) (by rw [List.size_toArray] <;> omega) (by omega) (by rw [hj]; simpa using ew) ⟨rfl, fin⟩) hs
theorem ix_tup : IxR X (rIxT X.K) := by
  intro value slice pins s σ H x y v u Q I rx ry h hs
  obtain ⟨p, xs, i, z, rfl, rfl, hq, he, q⟩ := h
  cases rx
  obtain ⟨t, rfl⟩ := ry
  obtain ⟨its, r, pl, hz⟩ := I.tuple hq
  obtain ⟨j, h1, h2, h3, h4, h5⟩ := atI_get he
  obtain ⟨w, ew, rw'⟩ := r.get h2
  have hl := r.length
  have hn := line63
  have fin : EP X pins σ Q w s := ⟨z, H, I, rw', q⟩
  exact subscriptTail_builtinR (x := w) pl.typeIs slot_tuple_getitem.lookup
    (getItem_tuple (j := j) (Q := fun r s' => r = w ∧ EP X pins σ Q r s') pl (by omega) (by omega) (by rw [List.size_toArray, ← hl]; exact h1) (by simpa using ew) ⟨rfl, fin⟩) hs
/-! ### xs[i] = v, any sign -/
/-- the list's object behind a store -/
theorem mapSeq_set (its : List Value) (n j : Nat) (u : Value) : Obj.mapSeq (·.setIfInBounds j u) { cls := .type "list", data := .seq its.toArray n } = { cls := .type "list", data := .seq (its.set j u).toArray n } := by
  simp [Obj.mapSeq]
theorem Inv.lst {pins : List (Addr × Obj)} {σ : St} {H : Hp} {s : Shared} {p : Addr} {xs : List V} (I : Inv X pins σ H s) (h : H p = some (.lst xs)) :
    ∃ (its : List Value) (n : Nat), Vals xs its ∧ s.heap.get? p = some { cls := .type "list", data := .seq its.toArray n } ∧ xs.length ≤ sizeLine := by
  obtain ⟨z, its, n, r, e⟩ := I.hok p _ h
  exact ⟨its, n, r, e, z⟩
/-- the list at p is written by an update of its object -/
theorem Inv.lstUpd {pins : List (Addr × Obj)} {σ : St} {H : Hp} {s : Shared} {p : Addr} {xs ys : List V} {its its' : List Value} {n n' : Nat} {f : Obj → Obj} (I : Inv X pins σ H s) (h : H p = some (.lst xs))
    (ho : s.heap.get? p = some { cls := .type "list", data := .seq its.toArray n }) (hf : f { cls := .type "list", data := .seq its.toArray n } = { cls := .type "list", data := .seq its'.toArray n' }) (r : Vals ys its') (hz : ys.length ≤ sizeLine) (t : Nat) :
    Inv X pins σ (upd H p (.lst ys)) { s with heap := s.heap.update p f, toks := t } := by
  have e : (s.heap.update p f).get? p = some { cls := .type "list", data := .seq its'.toArray n' } := by
    rw [Heap.get?_update_self f ho (by rw [hf] <;> rfl), hf]
  refine I.write (x := p) (e := p) (by rw [h]; trivial) (.inl rfl) (fun b u hb q => (Heap.get?_update_other _ _ (Ne.symm hb)).trans q) ⟨_, e⟩ ?_
  exact ⟨hz, its', n', r, e⟩
def rSetL : V → V → V → Hp → (Hp → Prop) → Prop := fun o i v H Q => ∃ p xs k j, o = .ref p ∧ i = .int k ∧ H p = some (.lst xs) ∧ ixN xs.length k = some j ∧ Q (upd H p (.lst (xs.set j v)))
theorem set_list : PSet X rSetL := by
  intro pins s σ H o i v ov iv u Q I ro ri rv h
  obtain ⟨p, xs, k, j, rfl, rfl, hp, hj, q⟩ := h
  cases ro
  obtain ⟨t, rfl⟩ := ri
  obtain ⟨its, n, r, ho, hz⟩ := I.lst hp
  obtain ⟨h1, h2, h3, h4⟩ := ixN_seq hj
  have hl := r.length
  have hn := line63
  have I' : Inv X pins σ (upd H p (.lst (xs.set j v))) { s with heap := s.heap.update p (Obj.mapSeq (·.setIfInBounds j u)) } :=
    I.lstUpd hp ho (mapSeq_set its n j u) (r.set rv j) (by rw [List.length_set]; exact hz) s.toks
  by_cases h0 : 0 ≤ k
  · have hk : k.toNat = j := by
      rw [seqIndex_of h0 h4] at h1
      exact Option.some.inj h1
    exact PySem.W.ki_setAt ho h0 (by omega) (by rw [List.size_toArray, ← hl]; exact h4) (by rw [hk]; exact ⟨_, I', q⟩)
  · have hk : (k + (its.toArray.size : Int)).toNat = j := by
      rw [seqIndex_neg (by omega) h3] at h1
      rw [List.size_toArray, ← hl]
      exact Option.some.inj h1
    exact PySem.W.ki_setBack ho (by omega) (by rw [List.size_toArray, ← hl]; exact h3) (by omega) (by rw [hk]; exact ⟨_, I', q⟩)

/-! ### slices -/
theorem slice_bounds (lo hi : Option Int) (n : Nat) : (sliceBounds lo hi none n).1 = ((HT.sIx n 0 lo : Nat) : Int) ∧ (sliceBounds lo hi none n).2.1 = ((HT.sIx n n hi : Nat) : Int) ∧ (sliceBounds lo hi none n).2.2 = 1 := by
  refine ⟨?_, ?_, rfl⟩
  · cases lo with
    | none => simp [sliceBounds, HT.sIx]
    | some i =>
      simp only [sliceBounds, HT.sIx, Option.getD_none, show (1 : Int) > 0 by decide, if_true]
      by_cases h : i < 0
      · simp only [h, if_true] <;> omega
      · simp only [h, if_false] <;> omega
  · cases hi with
    | none => simp [sliceBounds, HT.sIx]
    | some i =>
      simp only [sliceBounds, HT.sIx, Option.getD_none, show (1 : Int) > 0 by decide, if_true]
      by_cases h : i < 0
      · simp only [h, if_true] <;> omega
      · simp only [h, if_false] <;> omega
theorem slicePick_cut (its : List Value) (lo hi : Option Int) : slicePick its.toArray lo hi none = ((its.drop (HT.sIx its.length 0 lo)).take (HT.sIx its.length its.length hi - HT.sIx its.length 0 lo)).toArray := by
  obtain ⟨h1, h2, h3⟩ := slice_bounds lo hi its.toArray.size
  unfold slicePick
  rw [h1, h2, h3]
  simp only [sliceRange_one, pick_run, List.size_toArray] <;> rfl
/-- xs[lo:hi] of a list: a new list -/
def rSlL (K : PySem.W.Frag) : V → Option Int → Option Int → Hp → VK → Prop := fun x lo hi H Q => ∃ a xs, x = .ref a ∧ SqL K H a xs ∧ ∀ p, H p = none → Q (.ref p) (upd H p (.lst (cutV xs lo hi)))
theorem sl_list : SlR X (rSlL X.K) := by
  intro pins s σ H x v vl vu lo hi sl Q I rx hs pl pu h
  obtain ⟨a, xs, rfl, hx, q⟩ := h
  cases rx
  obtain ⟨its, r, ht, hz⟩ := I.list hx
  have hlen := r.length
  refine ⟨"list", _, slot_list_getitem.lookup, ht.isList.typeIs, ?_⟩
  refine wpAny_getItem_list_slice ht.isList hs pl pu .none (by simp) ?_ (by rw [List.size_toArray] <;> omega)
  rw [slicePick_cut, ← hlen]
  refine ⟨.ref s.heap.objs.size, _, I.laid (t' := s.toks) (o := .lst (cutV xs lo hi)) (fun b ob q => Heap.get?_push_of_some _ q) (Nat.le_refl _) ?_, rfl, q _ (I.hok.fresh (Nat.le_refl _))⟩
  exact ⟨Nat.le_trans (cutV_length xs lo hi) hz, _, 0, (r.drop (HT.sIx xs.length 0 lo)).take (HT.sIx xs.length xs.length hi - HT.sIx xs.length 0 lo), Heap.get?_push_size _ rfl⟩

/-! ### in, not in: flat items -/
def flatV : V → Bool
  | .non => true
  | .bl _ => true
  | .int _ => true
  | .str _ => true
  | _ => false
/-- == of flat values -/
def eqV : V → V → Bool
  | .non, .non => true
  | .bl a, .bl b => a == b
  | .bl a, .int b => (if a then 1 else 0) == b
  | .int a, .bl b => a == (if b then 1 else 0)
  | .int a, .int b => a == b
  | .str a, .str b => a == b
  | _, _ => false
theorem eqAt_V {A : Around} {s : Shared} {y x : V} {u v : Value} (ry : RelV y u) (rx : RelV x v) (fy : flatV y = true) (fx : flatV x = true) : SeqAt.EqAt A s u v (eqV y x) := by
  cases y with
  | non =>
    cases ry
    cases x with
    | non => cases rx; exact SeqAt.EqAt.same _
    | bl b => cases rx; exact SeqAt.EqAt.none_bool b
    | int b => obtain ⟨t, rfl⟩ := rx; exact SeqAt.EqAt.none_int b t
    | str b => obtain ⟨t, rfl⟩ := rx; exact SeqAt.EqAt.none_str b t
    | _ => exact absurd (show false = true from fx) Bool.false_ne_true
  | bl a =>
    cases ry
    cases x with
    | non => cases rx; exact SeqAt.EqAt.bool_none a
    | bl b => cases rx; exact SeqAt.EqAt.bool_bool a b
    | int b => obtain ⟨t, rfl⟩ := rx; exact SeqAt.EqAt.bool_int a b t
    | str b => obtain ⟨t, rfl⟩ := rx; exact SeqAt.EqAt.bool_str a b t
    | _ => exact absurd (show false = true from fx) Bool.false_ne_true
  | int a =>
    obtain ⟨t', rfl⟩ := ry
    cases x with
    | non => cases rx; exact SeqAt.EqAt.int_none a t'
    | bl b => cases rx; exact SeqAt.EqAt.int_bool a t' b
    | int b => obtain ⟨t, rfl⟩ := rx; exact SeqAt.EqAt.int_int a t' b t
    | str b => obtain ⟨t, rfl⟩ := rx; exact SeqAt.EqAt.int_str a t' b t
    | _ => exact absurd (show false = true from fx) Bool.false_ne_true
  | str a =>
    obtain ⟨t', rfl⟩ := ry
    cases x with
    | non => cases rx; exact SeqAt.EqAt.str_none a t'
    | bl b => cases rx; exact SeqAt.EqAt.str_bool a t' b
    | int b => obtain ⟨t, rfl⟩ := rx; exact SeqAt.EqAt.str_int a t' b t
    | str b => obtain ⟨t, rfl⟩ := rx; exact SeqAt.EqAt.str_str a t' b t
    | _ => exact absurd (show false = true from fx) Bool.false_ne_true
  | _ => exact absurd (show false = true from fy) Bool.false_ne_true
/-- the items' answers, read off the values (a value's own answer does not lean on its token) -/
def eqU (x : V) (u : Value) : Bool := match u with
  | .none => eqV .non x
  | .bool b => eqV (.bl b) x
  | .int i _ => eqV (.int i) x
  | .str z _ => eqV (.str z) x
  | _ => false
theorem eqU_of {x y : V} {u : Value} (r : RelV y u) (f : flatV y = true) : eqU x u = eqV y x := by
  cases y with
  | non => cases r; rfl
  | bl b => cases r; rfl
  | int i => obtain ⟨t, rfl⟩ := r; rfl
  | str z => obtain ⟨t, rfl⟩ := r; rfl
  | _ => exact absurd (show false = true from f) Bool.false_ne_true
theorem any_eqU {x : V} : ∀ {xs : List V} {us : List Value}, Vals xs us → xs.all flatV = true → us.any (eqU x) = xs.any fun y => eqV y x
  | _, _, .nil, _ => rfl
  | y :: xs, u :: us, .cons r t, f => by
    rw [List.all_cons, Bool.and_eq_true] at f
    rw [List.any_cons, List.any_cons, eqU_of r f.1, any_eqU t f.2]
theorem mem_eqAt {A : Around} {s : Shared} {x : V} {v : Value} (rx : RelV x v) (fx : flatV x = true) : ∀ {xs : List V} {us : List Value}, Vals xs us → xs.all flatV = true → ∀ u ∈ us, SeqAt.EqAt A s u v (eqU x u)
  | _, _, .nil, _ => fun u hu => by cases hu
  | y :: xs, u :: us, .cons r t, f => fun u' hu => by
    rw [List.all_cons, Bool.and_eq_true] at f
    rcases List.mem_cons.mp hu with rfl | hu
    · rw [eqU_of r f.1]; exact eqAt_V r rx f.1 fx
    · exact mem_eqAt rx fx t f.2 u' hu
def inV (x : V) (xs : List V) : Bool := xs.any fun y => eqV y x
/-- x in a list or tuple of flat items -/
def rIn (K : PySem.W.Frag) (neg : Bool) : R2 := fun x y H Q => ∃ p xs, y = .ref p ∧ (SqL K H p xs ∨ SqT K H p xs) ∧ flatV x = true ∧ xs.all flatV = true ∧ Q (.bl (if neg then !inV x xs else inV x xs)) H
theorem op_in_seq : OpR X (compareOp .In) (rIn X.K false) := by
  intro pins s σ H x y v u Q I rx ry h
  obtain ⟨p, xs, rfl, hq, fx, fs, q⟩ := h
  cases ry
  rcases hq with hq | hq
  · obtain ⟨its, r, pl, hz⟩ := I.list hq
    refine SeqAt.in_listAt (eqU x) pl.isList (fun w hw => mem_eqAt rx fx r fs w (by simpa using hw)) ⟨.bl _, H, I, rfl, ?_⟩
    rw [show its.toArray.any (eqU x) = its.any (eqU x) by simp, any_eqU r fs]
    exact q
  · obtain ⟨its, r, pl, hz⟩ := I.tuple hq
    refine SeqAt.in_tupleAt (eqU x) pl (fun w hw => mem_eqAt rx fx r fs w (by simpa using hw)) ⟨.bl _, H, I, rfl, ?_⟩
    rw [show its.toArray.any (eqU x) = its.any (eqU x) by simp, any_eqU r fs]
    exact q
theorem op_notIn_seq : OpR X (compareOp .NotIn) (rIn X.K true) := by
  intro pins s σ H x y v u Q I rx ry h
  obtain ⟨p, xs, rfl, hq, fx, fs, q⟩ := h
  cases ry
  rcases hq with hq | hq
  · obtain ⟨its, r, pl, hz⟩ := I.list hq
    refine SeqAt.notIn_listAt (eqU x) pl.isList (fun w hw => mem_eqAt rx fx r fs w (by simpa using hw)) ⟨.bl _, H, I, rfl, ?_⟩
    rw [show its.toArray.any (eqU x) = its.any (eqU x) by simp, any_eqU r fs]
    exact q
  · obtain ⟨its, r, pl, hz⟩ := I.tuple hq
    refine SeqAt.notIn_tupleAt (eqU x) pl (fun w hw => mem_eqAt rx fx r fs w (by simpa using hw)) ⟨.bl _, H, I, rfl, ?_⟩
    rw [show its.toArray.any (eqU x) = its.any (eqU x) by simp, any_eqU r fs]
    exact q
/-! ### len, list(x), tuple(x) of any list or tuple that is read -/
theorem call_len_seq : CallR X (.builtin "len") (fun xs H Q => ∃ p ys, xs = [.ref p] ∧ (SqL X.K H p ys ∨ SqT X.K H p ys) ∧ Q (.int ys.length) H) := by
  intro pins s σ H xs us Q I r h
  obtain ⟨p, ys, rfl, hq, q⟩ := h
  obtain ⟨u, rfl, rx⟩ := vals1 r
  cases rx
  have hn := line63
  rcases hq with hq | hq
  · obtain ⟨its, r', pl, hz⟩ := I.list hq
    have hlen := r'.length
    exact Calls.call_len_list pl.isList (by simp only [List.size_toArray] <;> omega) ⟨.int ys.length, H, I.tok _, ⟨s.toks + 1, by rw [List.size_toArray, hlen]⟩, q⟩
  · obtain ⟨its, r', pl, hz⟩ := I.tuple hq
    have hlen := r'.length
    exact len_tuple pl (by simp only [List.size_toArray] <;> omega) ⟨.int ys.length, H, I.tok _, ⟨s.toks + 1, by rw [List.size_toArray, hlen]⟩, q⟩
theorem CallR.or {f : Value} {r r' : List V → Hp → VK → Prop} (h : CallR X f r) (h' : CallR X f r') : CallR X f (fun xs H Q => r xs H Q ∨ r' xs H Q) := by
  intro pins s σ H xs us Q I rs q
  rcases q with q | q
  · exact h pins s σ H xs us Q I rs q
  · exact h' pins s σ H xs us Q I rs q
theorem call_list_of : CallR X (.type "list") (fun xs H Q => ∃ p ys, xs = [.ref p] ∧ (SqL X.K H p ys ∨ SqT X.K H p ys) ∧ ∀ l, H l = none → Q (.ref l) (upd H l (.lst ys))) := by
  intro pins s σ H xs us Q I r h
  obtain ⟨p, ys, rfl, hq, q⟩ := h
  obtain ⟨u, rfl, rx⟩ := vals1 r
  cases rx
  have fin : ∀ (its : List Value), Vals ys its → ys.length ≤ sizeLine → ∀ (h' : Heap) (c' : Nat), (∀ b o', s.heap.get? b = some o' → h'.get? b = some o') →
      h'.get? s.heap.objs.size = some { cls := .type "list", dict := none, data := .seq its.toArray c', slots := #[] } → EP X pins σ Q (.ref s.heap.objs.size) { s with heap := h' } := fun its r' hz h' c' kp e =>
    ⟨.ref s.heap.objs.size, _, I.laid (t' := s.toks) kp (Nat.le_refl _) (show ObjOk X.prog X.w _ h' _ (.lst ys) from ⟨hz, its, c', r', e⟩), rfl, q _ (I.hok.fresh (Nat.le_refl _))⟩
  rcases hq with hq | hq
  · obtain ⟨its, r', pl, hz⟩ := I.list hq
    have hlen := r'.length
    obtain ⟨o, ho, hc, n, hd⟩ := pl.isList
    exact call_list_seq p (.inl rfl) ho hc hd (fun h' c' kp e => fin its r' hz h' c' kp e) (by simp only [List.size_toArray] <;> omega)
  · obtain ⟨its, r', pl, hz⟩ := I.tuple hq
    have hlen := r'.length
    obtain ⟨o, ho, hc, n, hd⟩ := pl
    exact call_list_seq p (.inr rfl) ho hc hd (fun h' c' kp e => fin its r' hz h' c' kp e) (by simp only [List.size_toArray] <;> omega)
theorem call_tuple_of : CallR X (.type "tuple") (fun xs H Q => ∃ p ys, xs = [.ref p] ∧ ((SqL X.K H p ys ∧ ∀ l, H l = none → Q (.ref l) (upd H l (.tup ys))) ∨ (SqT X.K H p ys ∧ Q (.ref p) H))) := by
  intro pins s σ H xs us Q I r h
  obtain ⟨p, ys, rfl, h⟩ := h
  obtain ⟨u, rfl, rx⟩ := vals1 r
  cases rx
  rcases h with ⟨hq, q⟩ | ⟨hq, q⟩
  · obtain ⟨its, r', pl, hz⟩ := I.list hq
    have hlen := r'.length
    refine call_tuple_list pl.isList (fun h' kp => ?_) (by simp only [List.size_toArray] <;> omega)
    have I1 : Inv X pins σ H { s with heap := h' } := I.kept (t' := s.toks) kp
    have I2 : Inv X pins σ (upd H h'.objs.size (.tup ys)) { s with heap := h'.push { cls := .type "tuple", data := .seq its.toArray } } :=
      I1.laid (t' := s.toks) (fun b o e => Heap.get?_push_of_some _ e) (Nat.le_refl _) (show ObjOk X.prog X.w _ _ _ (.tup ys) from ⟨hz, its, r', IsTup.new _ _⟩)
    exact ⟨.ref h'.objs.size, _, I2, rfl, q _ (I1.hok.fresh (Nat.le_refl _))⟩
  · obtain ⟨its, r', pl, hz⟩ := I.tuple hq
    exact call_tuple_same pl ⟨.ref p, H, I, rfl, q⟩

/-! ### the call of a builtin's method: o.m(..) -/
/-- the value is of that builtin type -/
def tyV (K : PySem.W.Frag) (T : String) (x : V) (H : Hp) : Prop := match x with
  | .str _ => T = "str"
  | .int _ => T = "int"
  | .ref p => (T = "list" ∧ ∃ xs, SqL K H p xs) ∨ (T = "tuple" ∧ ∃ o, K.lookup p = some o ∧ o.cls = .type "tuple" ∧ o.dict = none) ∨
      (T = "dict" ∧ ((∃ kvs, H p = some (.dK kvs)) ∨ ∃ kvs, H p = some (.dT kvs))) ∨ (T = "set" ∧ ∃ S n, H p = some (.set S n))
  | _ => False
theorem tyV_is {pins : List (Addr × Obj)} {σ : St} {H : Hp} {s : Shared} {T : String} {x : V} {v : Value} (I : Inv X pins σ H s) (r : RelV x v) (ty : tyV X.K T x H) :
    s.TypeIs v T ∧ ∀ a, v = .ref a → ∃ ob, s.heap.get? a = some ob ∧ ob.dict = none := by
  cases x with
  | str z =>
    obtain ⟨t, rfl⟩ := r
    cases (show T = "str" from ty)
    exact ⟨typeIs_str s z t, fun _ e => nomatch e⟩
  | int i =>
    obtain ⟨t, rfl⟩ := r
    cases (show T = "int" from ty)
    exact ⟨typeIs_int s i t, fun _ e => nomatch e⟩
  | ref p =>
    cases r
    rcases ty with ⟨rfl, xs, hq⟩ | ⟨rfl, o, hk, hc, hd⟩ | ⟨rfl, hk⟩ | ⟨rfl, S, n, hk⟩
    · obtain ⟨its, _, pl, _⟩ := I.list hq
      refine ⟨pl.isList.typeIs, fun a e => ?_⟩
      cases e
      obtain ⟨o, n, e, c, hd, _⟩ := pl
      exact ⟨o, e, hd⟩
    · refine ⟨⟨o, I.kIn p o hk, hc⟩, fun a e => ?_⟩
      cases e
      exact ⟨o, I.kIn _ o hk, hd⟩
    · have z : ∃ o, s.heap.get? p = some o ∧ o.ExactDict := by
        rcases hk with ⟨kvs, hk⟩ | ⟨kvs, hk⟩
        · obtain ⟨_, _, _, _, o, _, _, e, ex, _⟩ := I.hok p _ hk
          exact ⟨o, e, ex⟩
        · obtain ⟨_, _, _, _, o, _, _, e, ex, _⟩ := I.hok p _ hk
          exact ⟨o, e, ex⟩
      obtain ⟨o, e, ex⟩ := z
      refine ⟨⟨o, e, ex.1⟩, fun a e2 => ?_⟩
      cases e2
      exact ⟨o, e, ex.2.1⟩
    · obtain ⟨o, _, _, _, e, ex, _⟩ := I.hok p _ hk
      refine ⟨⟨o, e, ex.1⟩, fun a e2 => ?_⟩
      cases e2
      exact ⟨o, e, ex.2.1⟩
  | _ => exact False.elim ty
def tBM (K : PySem.W.Frag) (T : String) (r : V → List V → Hp → VK → Prop) (to : TE) (t : TA) : TE := fun σ H Q => to σ H fun x H1 => tyV K T x H1 ∧ t σ H1 fun xs H2 => r x xs H2 Q
variable {o e : Expr} {es : List Expr} {to : TE} {t : TA} {name : Str} {apos cpos : Pos} {T id : String} {r : V → List V → Hp → VK → Prop}
theorem pe_bm (pa : PlainAttrs T) (slot : Slot T name id) (hty : typeOf (.builtin id) = pure (.type "method_descriptor")) (hm : MtR X id r) (ho : PE X o to) (ha : PA X (e :: es) t)
    (hbase : attributeBase o name X.env (eval o X.env) = eval o X.env := by rfl)
    (hfew : ((backTo cpos (starEach (e :: es) X.env)).all (fun x => !x.1) && (backToKw cpos (keywordEach [] X.env)).all (fun x => x.1.isSome)
      && decide ((e :: es).length + ([] : List Keyword).length + (if ([] : List Keyword).isEmpty then 0 else 1) < 30)) = true := by rfl)
    (hline : (apos.endLine == cpos.line) = true := by rfl) (hs : starEach (e :: es) X.env = (false, eval e X.env) :: starEach es X.env := by rfl) (hplain : (backTo cpos (starEach es X.env)).any (·.1) = false := by rfl) :
    PE X (.Call (.Attribute o name apos) (e :: es) [] cpos) (tBM X.K T r to t) := by
  intro pins s σ H Q I h
  refine wpAny_Call_method_late hbase hfew hline rfl (thn (ho pins s σ H _ I h) fun v s1 ⟨x, H1, I1, r1, ty, q1⟩ => ?_)
  obtain ⟨h1, h2⟩ := tyV_is I1 r1 ty
  refine ⟨T, id, pa, slot, hty, h1, h2, ?_⟩
  have hA := ha cpos pins s1 σ H1 _ I1 q1
  rw [hs] at hA ⊢
  refine Calls.callWith_builtin (by show (false || (backTo cpos (starEach es X.env)).any (·.1)) = false; rw [hplain] <;> rfl) (Calls.evalArgs_plain ?_)
  exact thn hA fun us s2 ⟨vs, H2, I2, r2, q2⟩ => hm pins s2 σ H2 x vs v us Q I2 r1 r2 q2
/- xs.append(e), list.index on a module's tuple .. are MtR facts of 06m -/
end
end L2

namespace L2
open PySem PySem.Spec PyProof.Rows

def MtM (X : Cx) (id : String) (r : V → List V → Hp → VK → Prop) : Prop :=
  ∀ (pins : List (Addr × Obj)) (s : Shared) (σ : St) (H : Hp) (x : V) (xs : List V) (v : Value) (us : List Value) (Q : VK), Inv X pins σ H s → RelV x v → Vals xs us → r x xs H Q →
    wpAny (model X.prog X.w) X.A (call (.builtin id) (v :: us)) (EP X pins σ Q) X.xe s

/-! ### lists of values -/
theorem Vals.one : ∀ {x : V} {us : List Value}, Vals [x] us → ∃ u, us = [u] ∧ RelV x u
  | _, _, .cons r .nil => ⟨_, rfl, r⟩
theorem Vals.two : ∀ {x y : V} {us : List Value}, Vals [x, y] us → ∃ u v, us = [u, v] ∧ RelV x u ∧ RelV y v
  | _, _, _, .cons r (.cons q .nil) => ⟨_, _, rfl, r, q⟩
theorem Vals.zero : ∀ {us : List Value}, Vals [] us → us = []
  | _, .nil => rfl
theorem Vals.eraseIdx : ∀ {xs : List V} {us : List Value} (i : Nat), Vals xs us → Vals (xs.eraseIdx i) (us.eraseIdx i)
  | _, _, _, .nil => .nil
  | _, _, 0, .cons _ t => t
  | _, _, i + 1, .cons r t => .cons r (Vals.eraseIdx i t)
section
variable {X : Cx} {pins : List (Addr × Obj)} {σ : St} {H : Hp} {s : Shared} {l b : Addr} {xs ys zs : List V}

/-! ### the two steps: a tracked list is rewritten, a new list is laid -/
theorem Inv.lset {its its' : List Value} {n : Nat} {f : Array Value → Array Value} {t' : Nat} (I : Inv X pins σ H s) (hH : H l = some (.lst xs))
    (e : s.heap.get? l = some { cls := .type "list", data := .seq its.toArray n }) (hf : f its.toArray = its'.toArray) (hv : Vals ys its') (hz : ys.length ≤ sizeLine) :
    Inv X pins σ (upd H l (.lst ys)) { s with heap := s.heap.update l (Obj.mapSeq f), toks := t' } := by
  have q := PySem.IsL.update e f
  rw [hf] at q
  refine I.write (x := l) (e := l) (by rw [hH]; exact trivial) (.inl rfl) (fun b' u hb hu => (Heap.get?_update_other s.heap (Obj.mapSeq f) (Ne.symm hb)).trans hu) ⟨_, q⟩ ?_
  exact ⟨hz, its', _, hv, q⟩
theorem Inv.fresh (I : Inv X pins σ H s) : H s.heap.objs.size = none := I.hok.fresh (Nat.le_refl _)
theorem Inv.lstM (I : Inv X pins σ H s) (hH : H l = some (.lst xs)) : xs.length ≤ sizeLine ∧ ∃ (its : List Value) (n : Nat), Vals xs its ∧ xs.length = its.length ∧ s.heap.get? l = some { cls := .type "list", data := .seq its.toArray n } := by
  obtain ⟨z, its, n, r, e⟩ := I.hok l _ hH
  exact ⟨z, its, n, r, r.length, e⟩

theorem notLongL {n : Nat} (h : n ≤ sizeLine) : Builtin.List.listTooLong n = false := by
  unfold Builtin.List.listTooLong
  exact decide_eq_false (by omega)
end

section
variable {X : Cx}

/-! ### methods -/
def rAppend : V → List V → Hp → VK → Prop := fun x vs H Q => ∃ l xs y, x = .ref l ∧ vs = [y] ∧ H l = some (.lst xs) ∧ xs.length < sizeLine ∧ Q .non (upd H l (.lst (xs ++ [y])))
theorem mt_append : MtM X "list.append" rAppend := by
  intro pins s σ H x vs v us Q I rx rv h
  obtain ⟨l, xs, y, rfl, rfl, hH, hz, q⟩ := h
  cases rx
  obtain ⟨u, rfl, ru⟩ := rv.one
  obtain ⟨z, its, n, r, hl, e⟩ := I.lstM hH
  refine call_meets F.slot_list_append ⟨_, e, rfl⟩ F.entry_list_append (F.args_list_append_2 _ _) (PySem.list_append l its.toArray n u (by rw [List.size_toArray]; omega)) ⟨e, ?_⟩
  refine ⟨.non, _, I.lset (its' := its ++ [u]) hH e (by simp) (r.append (.cons ru .nil)) ?_, rfl, q⟩
  rw [List.length_append, List.length_singleton]
  omega

/-! ### list + list, list += list, list * int -/
/-! ### del xs[i] -/
end

/-! ### xs[a:b] = ys -/
section
variable {prog : Program} {w : World} {A : Around} {E : Value → Shared → Prop} {s : Shared}
end

section
variable {X : Cx}
end
end L2

namespace Att
open PySem PySem.W PySem.Calls PyProof.Rows

/-! ### the script -/
theorem ints_of_wellAll {P : Params} {h : Heap} : ∀ (ns : List Int) (vs : List Value), WellAll P h vs (ns.map WData.int) → IntsAre vs ns := by
  intro ns
  induction ns with
  | nil =>
    intro vs w
    rw [List.map_nil] at w
    cases w
    exact .nil
  | cons n ns ih =>
    intro vs w
    rw [List.map_cons] at w
    cases w with
    | cons a b =>
      cases a
      exact .cons _ _ (ih _ b)

theorem script_of {l : OpenLaw} {n : Nat} (hn : l.most = some n) {P : Params} {h : Heap} {args : List WData} {vals : List Value}
    (hpre : l.row.toRowW.claim.pre args = true) (hwl : WellAll P h vals args) :
    ∃ a vs ns, vals = [Value.ref a] ∧ args = [WData.list (ns.map WData.int)] ∧ h.get? a = some { cls := .type "list", data := .seq vs.toArray } ∧ IntsAre vs ns ∧ ns.length ≤ n := by
  have hsh : WShape.hasAll [] args [.list .int] = true := (pre_splitW hpre).1
  have hc : l.pre.holds [] { args := args } = true := (pre_splitW hpre).2
  obtain ⟨d, r, rfl, h1, h2⟩ := hasAllW_cons hsh
  obtain rfl := hasAllW_nil h2
  obtain ⟨xs, rfl, h3⟩ := hasW_list h1
  obtain ⟨ns, rfl⟩ := items_int h3
  have hlen : ns.length ≤ n := by
    unfold OpenLaw.pre at hc
    have h4 : (WTm.not (.lt (.lit (.int (n : Int))) (.len (.arg 0)))).holds [] { args := [.list (ns.map .int)] } = true := by
      have h4 := (holds_andW hc).1
      rw [hn] at h4
      exact h4
    have h5 := condW_of h4 (w_not (w_lt w_lit (w_len_list (w_arg rfl))))
    rw [List.length_map] at h5
    refine Nat.le_of_not_lt fun q => ?_
    have q' : (n : Int) < ((ns.length : Nat) : Int) := by omega
    first
      | (rw [decide_eq_true q'] at h5; exact absurd h5 (by decide))
      | (simp at h5; omega)
  cases hwl with
  | cons w1 w2 =>
    cases w2
    cases w1 with
    | list ho hall => exact ⟨_, _, ns, rfl, rfl, ho, ints_of_wellAll ns _ hall, hlen⟩

theorem post_true (l : OpenLaw) (args : List WData) : l.row.toRowW.claim.post args (.bool true) args = true :=
  postW_of (r := l.row.toRowW) (X := (true == true))
    (show WShape.has [] (.bool true) .bool = true by first | rfl | decide | simp [WShape.has, WShape.arms, WShape.armsAll])
    (show (WTm.eq .res (.lit (.bool true))).value [] { args := args, res := some (.bool true), after := args } = some (.bool (true == true)) from w_eq_bool (w_res rfl) w_lit) rfl

/-! ### the attachment: holds_open's last premise (the goal 'hc' behind k_head) from a wpAny of the law's body -/
/-- the same from a codeAny of the CALL (for a layer whose function contracts speak of calls) -/
theorem attach_call {l : OpenLaw} {n : Nat} {q : Program} {loose : List Str} {XP : (Str → Option Value) → Heap → Prop} {YP : World → Heap → Prop} {d : DefRec}
    (hn : l.most = some n) (hdf : d.params.defaults = [])
    (call : ∀ (w : World) (s₀ s₁ : Shared) (mg mb : Str → Option Value) (fa : Addr) (o : Obj) (pm cd doc : Value) (a : Addr) (vs : List Value) (ns : List Int),
      Ground q loose [] XP w s₀ mg mb s₁.heap → YP w s₁.heap →
      s₁.heap.get? fa = some o → o.data = .func (docDef d.name d.params d.body d.scope pm cd doc) → s₁.heap.CodeRec cd d.name → mg d.name = some (.ref fa) →
      s₁.heap.get? a = some { cls := .type "list", data := .seq vs.toArray } → IntsAre vs ns → ns.length ≤ n → s₁.gens = #[] →
      codeAny (model l.prog w) callerA (.call (.ref fa) ⟨[.ref a], []⟩) (fun r s' => r = .ok (.ret (.bool true)) ∧ OldK s₁.heap s'.heap ∧ s'.os = s₁.os ∧ AllBare s'.gens) s₁) :
    WalkO q loose XP YP l.row.toRowW d [] (fun f vs => PySem.call f vs) := by
  intro w s₀ s₁ mg mb G Y fa o pm cd doc dV kV ho hd hcd hD hmg hg args vals as hpre hlay hrd hwl hlo
  obtain rfl : dV = .none := Dflts.none hD hdf
  obtain rfl : kV = .none := Dflts.noKw hD
  obtain ⟨a, vs, ns, rfl, rfl, hobj, hints, hlen⟩ := script_of hn hpre hwl
  refine enter_call (codeAny_mono (call w s₀ s₁ mg mb fa o pm cd doc a vs ns G Y ho (fd_plain hd) hcd hmg hobj hints hlen hg) fun r s' hq => ?_)
  obtain ⟨rfl, h2, h3, h4⟩ := hq
  exact ⟨.inl ⟨.bool true, .bool true, [], rfl, fun _ => rfl, .bool true, post_true l _, fun _ => ⟨List.Pairwise.nil, fun _ hm => (nomatch hm)⟩⟩, h2, h3, h4⟩

/-! ### rules over ANY heap (no ledger) from facts about the written part K: the library's own take a ledger (News) for what they write -/
section
variable {prog : Program} {w : World} {A : Around} {E : Value → Shared → Prop} {s : Shared} {K : Frag}

/-! the whole heap as the ledger: makes every rule that writes through a ledger a rule over any heap -/
def ledger (h : Heap) (L d : Addr) : List (Addr × Obj) := (List.range h.objs.size).filterMap fun a => if a = L ∨ a = d then none else (h.get? a).map fun o => (a, o)
end
end Att

namespace L2
open PySem PySem.Spec PyProof.Rows

theorem vals_ints : ∀ {vs : List Value} {ns : List Int}, IntsAre vs ns → Vals (ns.map V.int) vs
  | _, _, .nil => .nil
  | _, _, .cons n t h => .cons ⟨t, rfl⟩ (vals_ints h)

/-- nothing is tracked but the script, known to the object (or it is an object of the module) -/
def Only (H : Hp) : Prop := ∀ b, H b = none ∨ ∃ o xs, H b = some (.frz o (.lst xs))

/-- THE HEAD: the law's promise, at the heap behind the top. F, the promise of the law's def, may use that base is part of the heap (so K.In base, base.Ns mainGlobals mg stand in Mod) -/
theorem law_call {P : Program} {w : World} {K : PySem.W.Frag} {mg mb : Str → Option Value} {CX : CXT} {k : Nat} {fa a : Addr} {fd : FuncData} {x : Str} {sp : Sp} {s₁ : Shared} {vs : List Value} {ns : List Int}
    (KX : K.In s₁.heap) (hns : s₁.heap.Ns mainGlobals mg) (hb : s₁.heap.Ns builtinsNs mb) (hbb : ∀ x : Str, x ≠ "__name__" → mb x = bootBuiltins x) (hlim : s₁.heap.NoLimit) (hg : s₁.gens = #[])
    (ha : s₁.heap.get? a = some { cls := .type "list", data := .seq vs.toArray }) (hi : IntsAre vs ns) (hl : ns.length ≤ sizeLine) (hr : Room k callerA)
    (F : ∀ base : Heap, K.In base → base.Ns mainGlobals mg → FnOk P w K mg base CX k fa fd [x] sp) (hbind : ∀ (s : Shared) (u : Value), BindsTo s fd ⟨[u], []⟩ [(x, u)])
    (hsp : ∀ H : Hp, Only H → SqL K H a (ns.map V.int) → sp [.ref a] H (fun v _ => v = .bl true) fun _ _ _ => False)
    (hCX : ∀ H e s', CX [] H s₁ (fun _ _ _ => False) e s' → False) :
    codeAny (model P w) callerA (.call (.ref fa) ⟨[.ref a], []⟩) (fun r s' => r = .ok (.ret (.bool true)) ∧ OldK s₁.heap s'.heap ∧ s'.os = s₁.os ∧ AllBare s'.gens) s₁ := by
  have rv := vals_ints hi
  have lenV := hi.length
  -- from an abstract heap in which nothing but the script may be tracked
  have core : ∀ H : Hp, Only H → SqL K H a (ns.map V.int) → HOk P w H s₁.heap → (∀ b, H b ≠ none → b = a) → (H a ≠ none → K.lookup a = none) →
      codeAny (model P w) callerA (.call (.ref fa) ⟨[.ref a], []⟩) (fun r s' => r = .ok (.ret (.bool true)) ∧ OldK s₁.heap s'.heap ∧ s'.os = s₁.os ∧ AllBare s'.gens) s₁ := by
    intro H hO hS hok hA hK
    have base_of : ∀ {b : Addr} {o : Obj}, s₁.heap.get? b = some o → H b = none → (hidT s₁.heap H).get? b = some o := fun e n => hidT_get e n
    have noA : ∀ {b : Addr} {o : Obj} {es : Array DictEntry} {ep : Nat}, s₁.heap.get? b = some o → o.data = .dict es ep → H b = none := fun {b o es ep} e d => by
      cases q : H b with
      | none => rfl
      | some u =>
        have e' : b = a := hA b (by rw [q]; simp)
        subst e'
        rw [ha] at e; cases e
        have d' : Data.seq vs.toArray _ = Data.dict es ep := d
        cases d'
    have nsK : ∀ {b : Addr} {m : Str → Option Value}, s₁.heap.Ns b m → (hidT s₁.heap H).Ns b m := fun {b m} ⟨o, es, ep, e, d, r⟩ => ⟨o, es, ep, base_of e (noA e d), d, r⟩
    have hKb : K.In (hidT s₁.heap H) := fun b o e => base_of (KX b o e) (by
      cases q : H b with
      | none => rfl
      | some u =>
        have e' : b = a := hA b (by rw [q]; simp)
        subst e'
        rw [hK (by rw [q]; simp)] at e; cases e)
    have hM : Mod K mg (hidT s₁.heap H) := ⟨hKb, nsK hns, ⟨mb, nsK hb, hbb⟩, let ⟨mc, h1, h2⟩ := hlim; ⟨mc, nsK h1, h2⟩⟩
    have e0 : Env0 P w K mg (hidT s₁.heap H) callerA [] s₁ H := ⟨rfl, hM, fun b o e => of_hidT e, Nat.le_of_eq (hidT_size _ _), trivial, fun b hb => absurd (show b ∈ ([] : List Addr) from hb) (by simp), hok, .of_eq hg⟩
    refine codeAny_mono ((F _ hKb (nsK hns)).run callerA [] s₁ H ⟨[.ref a], []⟩ [.ref a] [.ref a] _ _ hr e0 (hbind s₁ (.ref a)) (.cons rfl .nil) (hsp H hO hS)) fun r s' h => ?_
    cases r with
    | error e => exact (hCX H e s' h).elim
    | ok fl =>
      cases fl with
      | next => exact False.elim h
      | brk => exact False.elim h
      | cont => exact False.elim h
      | ret u =>
        obtain ⟨v, H', os, bare, un, hok', r', q⟩ := h
        have q' : v = .bl true := q
        subst q'
        obtain rfl : u = Value.bool true := r'
        refine ⟨rfl, OldK.of_keep fun b o e => ?_, os, bare⟩
        cases q : H b with
        | none => exact un.keep b o e q (by intro z; exact absurd (show b ∈ ([] : List Addr) from z) (by simp)) (by simp)
        | some u =>
          rcases hO b with z | ⟨ob, xs, z⟩
          · rw [q] at z; cases z
          · have z2 := un.frzs b ob _ z
            obtain ⟨e1, _⟩ := hok b _ z
            obtain ⟨e2, _⟩ := hok' b _ z2
            rw [e] at e1; cases e1
            exact e2
  cases hk : K.lookup a with
  | some o =>
    -- the script is one of the module's own objects
    have e := KX a o hk
    rw [ha] at e
    cases e
    refine core (fun _ => none) (fun _ => .inl rfl) (.inr ⟨_, vs.toArray, _, hk, rfl, rfl, rfl, by rw [List.size_toArray, lenV]; exact hl, by simpa using rv⟩) (fun b u z => by have z' : (none : Option HO) = some u := z; cases z') (fun b z => absurd rfl z) fun z => absurd rfl z
  | none =>
    refine core (fun b => if b = a then some (.frz { cls := .type "list", data := .seq vs.toArray } (.lst (ns.map V.int))) else none) (fun b => ?_) (.inl (.inr ⟨{ cls := .type "list", data := .seq vs.toArray }, if_pos rfl⟩)) (fun b u z => ?_) (fun b z => ?_) fun _ => hk
    · by_cases hb : b = a
      · exact .inr ⟨_, _, if_pos hb⟩
      · exact .inl (if_neg hb)
    · by_cases hb : b = a
      · have z' := (if_pos hb).symm.trans z
        cases z'
        subst hb
        exact ⟨ha, by rw [List.length_map]; exact hl, vs, _, rv, ha⟩
      · have z' := (if_neg hb).symm.trans z
        cases z'
    · by_cases hb : b = a
      · exact hb
      · exact absurd (if_neg hb) z
end L2

namespace L2
open PySem PySem.Spec PyProof.Rows

abbrev KOf {K : PySem.W.Frag} {h : Heap} (_ : K.In h) : PySem.W.Frag := K

/-- the goal that k_head leaves (case hc), from the law's promise. F gives the function object fd (K's own) once, then the promise over every base -/
theorem walk_of {l : PySem.W.OpenLaw} {n k : Nat} {q : Program} {loose : List Str} {XP : (Str → Option Value) → Heap → Prop} {YP : World → Heap → Prop} {d : DefRec} {K : Params → PySem.W.Frag} {CX : World → CXT} {sp : World → Sp} {x : Str}
    (hn : l.most = some n) (hn2 : n ≤ sizeLine) (hdf : d.params.defaults = []) (hr : Room k callerA)
    (hY : ∀ (w : World) (h : Heap), YP w h → (K w.params).In h)
    (F : ∀ (w : World) (mg : Str → Option Value) (fa : Addr) (h : Heap), (K w.params).In h → h.Ns mainGlobals mg → mg d.name = some (.ref fa) →
      ∃ fd : FuncData, (∀ (s : Shared) (u : Value), BindsTo s fd ⟨[u], []⟩ [(x, u)]) ∧
        ∀ base : Heap, (K w.params).In base → base.Ns mainGlobals mg → FnOk l.prog w (K w.params) mg base (CX w) k fa fd [x] (sp w))
    (hsp : ∀ (w : World) (H : Hp) (a : Addr) (ns : List Int), ns.length ≤ n → Only H → SqL (K w.params) H a (ns.map V.int) → sp w [.ref a] H (fun v _ => v = .bl true) fun _ _ _ => False)
    (hCX : ∀ (w : World) (H : Hp) (s : Shared) (e : Value) (s' : Shared), CX w [] H s (fun _ _ _ => False) e s' → False) :
    PySem.W.WalkO q loose XP YP l.row.toRowW d [] (fun f vs => PySem.call f vs) := by
  refine Att.attach_call hn hdf fun w s₀ s₁ mg mb fa o pm cd doc a vs ns G Y ho hd hcd hmg hobj hints hlen hg => ?_
  have KX := hY w _ Y
  obtain ⟨fd, hb, hF⟩ := F w mg fa _ KX G.T.g hmg
  exact law_call KX G.T.g G.T.b G.T.builtins G.T.nolimit hg hobj hints (Nat.le_trans hlen hn2) hr hF hb (fun H hO hS => hsp w H a ns hlen hO hS) fun H e s' => hCX w H s₁ e s'
end L2

/- THE LAST THEOREM (shape; LID, My.* are yours):
   My.Adr: a structure of the addresses that your layer names (classes, functions); My.Txt K t: a structure (Prop) of the equations over K;
   My.txt_mk : {K} {implicit addresses ..} (e1 : nsIn K mainGlobals "law" = some (some (.ref f))) (e2 : K.lookup f = some ⟨oc, od, .func (fnOf "law" "law" params body scope dV kV doc pm an cdv ct), sl⟩) (e3 : codeIn K cdv "law" = true) .. : ∃ t, My.Txt K t

set_option maxRecDepth 100000 in
set_option maxHeartbeats 0 in
theorem PySem.Challenge.cw_LID_holds : PySem.Challenge.rw_LID.Holds := by
  w_on; o_law; k_head; (case hw => w_witness2)
  k_fill
  refine L2.walk_of (l := PySem.Challenge.rw_LID) (n := 63) (k := 40) (x := "script") (CX := fun w => ..) (sp := fun _ => My.sp_law) rfl (by decide) rfl ⟨rfl, by decide, by decide⟩ (fun w h Y => PySem.W.kIn_of Y) ?F ?S ?C
  case F =>
    intro w mg fa h KX G hmg
    have T : ∃ t, My.Txt (L2.KOf KX) t := by
      dsimp only [L2.KOf]                          -- K must stand as «<heap const> w.params» for k_is
      refine' My.txt_mk ?e1 ?e2 ?e3 ..
      (case e1 => PySem.W.k_is)                    -- in the order: a name -> its address -> its object -> its parts
      (case e2 => PySem.W.k_is)
      ..
    obtain ⟨t, T⟩ := T
    have e0 := hmg.symm.trans (PySem.W.mg_of KX G T.law)
    cases e0                                       -- fa is the law's own address
    exact ⟨_, fun s u => .of_eq rfl, fun base kb nb => My.law_fn T kb nb⟩     -- if «.of_eq rfl» comes too early: refine' ⟨_, ?b, fun base kb nb => My.law_fn T kb nb⟩; exact fun s u => .of_eq rfl
  case S => exact fun w H a ns hl hO hS => ..
  case C => exact ..
(the tactic k_is has no namespace: write k_is) -/

/-! SHORT WORDS over the layer: a def of the text, its body, what a loop and a test want. -/
namespace L2
open PySem PySem.Spec PyProof.Rows

/-! ### the text by places -/
def defArgs (s : Stmt) : Arguments := match s with
  | .FunctionDef _ a _ _ _ _ _ _ _ _ => a
  | _ => { posonlyargs := [], args := [], vararg := none, kwonlyargs := [], kw_defaults := [], kwarg := none, defaults := [] }
def defBody (s : Stmt) : List Stmt := match s with
  | .FunctionDef _ _ b _ _ _ _ _ _ _ => b
  | _ => []
def defScope (s : Stmt) : Scope := match s with
  | .FunctionDef _ _ _ _ _ _ sc _ _ _ => sc
  | _ => { kind := .function, names := [], isGenerator := false, isCoroutine := false }

/-! ### no exception leaves a def -/
abbrev CX0 : CXT := fun _ _ _ _ _ _ => False
abbrev E0 : XK := fun _ _ _ => False
theorem pass0 {X : Cx} : Passes CX0 X E0 := fun _ _ _ _ _ _ _ h => h.elim

/-! ### a def (or method) of the text as it stands behind the top -/
structure Fun (K : PySem.W.Frag) (x qual : Str) (st : Stmt) (f : Addr) (fd : FuncData) : Prop where
  ex : ∃ (oc : Value) (od : Option Addr) (kV doc pm : Value) (an : Option Addr) (cdv ct : Value) (osl : Array (Option Value)),
    fd = PySem.W.fnOf x qual (defArgs st) (defBody st) (defScope st) .none kV doc pm an cdv ct ∧ K.lookup f = some ⟨oc, od, .func fd, osl⟩ ∧ PySem.W.codeIn K cdv qual = true
  kp : PySem.W.keepIn K (.ref f) = true
section
variable {P : Program} {w : World} {K : PySem.W.Frag} {mg : Str → Option Value} {base : Heap}
/-- THE RULE for a def: its body as a term of rules, and the reading of that term -/
theorem Fun.ok {x qual : Str} {st : Stmt} {f : Addr} {fd : FuncData} {N ps : List Str} {k : Nat} {sp : Sp} (F : Fun K x qual st f fd) (S : FnScope N ps (defScope st)) (len : ∀ vs H Q E, sp vs H Q E → vs.length = ps.length)
    (hbody : ∀ (cdv : Value) (A : Around) (outer : List Env) (s : Shared) (H : Hp) (vs : List V) (Q : VK) (E : XK), Room k (A.deeper (envOfC qual (defScope st) s.heap.objs.size f cdv)) → sp vs H Q E →
      ∃ t, PSs (cxOf CX0 P w K mg base N qual (defScope st) f cdv A outer s H E).nox (defBody st) t ∧ t { nx := fun _ H' => Q .non H', rt := Q } (start N vs) H) : FnOk P w K mg base CX0 (k + 1) f fd ps sp := by
  obtain ⟨oc, od, kV, doc, pm, an, cdv, ct, osl, rfl, lk, hcd⟩ := F.ex
  refine fn_of lk hcd S len fun A outer s H vs Q E hr hsp => ?_
  obtain ⟨t, h, q⟩ := hbody cdv A outer s H vs Q E hr hsp
  exact ⟨t, h.nox, q⟩
/-- how its arguments bind (no defaults): h is «fun _ _ _ _ _ _ us hl => match us, hl with | [_, _], _ => rfl», one _ a parameter -/
theorem Fun.binds {x qual : Str} {st : Stmt} {f : Addr} {fd : FuncData} {ps : List Str} (F : Fun K x qual st f fd)
    (h : ∀ (kV doc pm : Value) (an : Option Addr) (cdv ct : Value) (us : List Value), us.length = ps.length → bindArgs (PySem.W.fnOf x qual (defArgs st) (defBody st) (defScope st) .none kV doc pm an cdv ct) ⟨us, []⟩ = pure (ps.zip us)) : Binds K fd ps [] := by
  obtain ⟨oc, od, kV, doc, pm, an, cdv, ct, osl, rfl, lk, hcd⟩ := F.ex
  exact .all (h kV doc pm an cdv ct)
theorem fun_mk {x qual : Str} {st : Stmt} {f : Addr} {oc : Value} {od an : Option Addr} {osl : Array (Option Value)} {kV doc pm cdv ct : Value} (l : K.lookup f = some ⟨oc, od, .func (PySem.W.fnOf x qual (defArgs st) (defBody st) (defScope st) .none kV doc pm an cdv ct), osl⟩)
    (c : PySem.W.codeIn K cdv qual = true) (k : PySem.W.keepIn K (.ref f) = true) : Fun K x qual st f (PySem.W.fnOf x qual (defArgs st) (defBody st) (defScope st) .none kV doc pm an cdv ct) := ⟨⟨oc, od, kV, doc, pm, an, cdv, ct, osl, rfl, l, c⟩, k⟩
end
/-! ### expressions in short: the name that stands in the i-th slot -/
section
variable {X : Cx}
end

/-! ### tests -/
theorem iteF {A B : Prop} (h : B) : if false = true then A else B := by
  rw [if_neg Bool.false_ne_true]
  exact h
theorem iteT {A B : Prop} (h : A) : if true = true then A else B := by
  rw [if_pos rfl]
  exact h
theorem ite2 {c A B : Prop} [Decidable c] (h1 : c → A) (h2 : ¬ c → B) : if c then A else B := by
  by_cases h : c
  · rw [if_pos h]
    exact h1 h
  · rw [if_neg h]
    exact h2 h
/-! ### heaps -/
/-- all that was tracked is as it was -/
def Same (H H' : Hp) : Prop := ∀ b o, H b = some o → H' b = some o
theorem Same.refl (H : Hp) : Same H H := fun _ _ h => h
theorem Same.trans {H H1 H2 : Hp} (a : Same H H1) (b : Same H1 H2) : Same H H2 := fun c o h => b c o (a c o h)
theorem Same.free {H H' : Hp} (e : Same H H') {l : Addr} (h : H' l = Option.none) : H l = Option.none := by
  cases q : H l with
  | none => rfl
  | some o =>
    rw [e l o q] at h
    cases h
theorem Same.seq {K : PySem.W.Frag} {H H' : Hp} {a : Addr} {xs : List V} (e : Same H H') (h : SqL K H a xs) : SqL K H' a xs := by
  rcases h with (h | ⟨o, h⟩) | h
  · exact .inl (.inl (e _ _ h))
  · exact .inl (.inr ⟨o, e _ _ h⟩)
  · exact .inr h

end L2

set_option Elab.async false
set_option linter.all false
set_option maxRecDepth 100000
/-! Rules of our own over the hand layer: a def by its name, comprehensions. -/
namespace L2
open PySem PySem.Spec PyProof.Rows

/-! ### a def by its name -/
structure DefOk (P : Program) (w : World) (K : PySem.W.Frag) (mg : Str → Option Value) (base : Heap) (k : Nat) (x : Str) (ps : List Str) (sp : Sp) : Prop where
  ex : ∃ (f : Addr) (fd : FuncData), FnOk P w K mg base CX0 k f fd ps sp ∧ mg x = some (.ref f) ∧ PySem.W.keepIn K (.ref f) = true ∧ Binds K fd ps []
def tCallD (sp : Sp) (t : TA) : TE := fun σ H Q => t σ H fun vs H1 => sp vs H1 Q E0
theorem tCallD_eq (sp : Sp) (t : TA) : tCall sp [] E0 t = tCallD sp t := by
  funext σ H Q
  unfold tCall tCallD
  congr
  funext vs H1
  rw [List.append_nil]
section
variable {X : Cx} {k : Nat} {x : Str} {ps : List Str} {sp : Sp} {e : Expr} {es : List Expr} {t : TA} {p pos : Pos}
theorem pe_callD (D : DefOk X.prog X.w X.K X.mg X.base k x ps sp) (hr : Room k X.A) (ha : PA X (e :: es) t) (hg : Gl X x := by rfl)
    (hdb : (x == ("__debug__" : Str)) = false := by decide) (he : starEach (e :: es) X.env = (false, eval e X.env) :: starEach es X.env := by rfl) (hpl : (backTo pos (starEach es X.env)).any (·.1) = false := by rfl) :
    PE X (.Call (.Name x p) (e :: es) [] pos) (tCallD sp t) := by
  obtain ⟨f, fd, F, hm, hk, hb⟩ := D.ex
  rw [← tCallD_eq]
  exact pe_call F hr hg hm hk hb .nil pass0 ha hdb he hpl
end

/-! ### comprehensions: the cells that the block sees -/
def clOf (cells : List (Str × Addr)) : List (Str × NameKind) → List (Str × Addr) → List (Str × Addr)
  | [], acc => acc
  | (n, k) :: r, acc => clOf cells r (if (k == NameKind.free) = true then (n, (cells.lookup n).getD 0) :: acc else acc)
theorem clOf_cons (cells : List (Str × Addr)) (n : Str) (k : NameKind) (r : List (Str × NameKind)) (acc : List (Str × Addr)) : clOf cells ((n, k) :: r) acc = clOf cells r (if (k == NameKind.free) = true then (n, (cells.lookup n).getD 0) :: acc else acc) := rfl
theorem mem_clOf {cells : List (Str × Addr)} {x : Str} {c : Addr} : ∀ {l : List (Str × NameKind)} {acc : List (Str × Addr)}, (x, c) ∈ clOf cells l acc → (x, c) ∈ acc ∨ ((x, NameKind.free) ∈ l ∧ c = (cells.lookup x).getD 0)
  | [], acc, h => .inl h
  | (n, k) :: r, acc, h => by
    unfold clOf at h
    rcases mem_clOf h with h | ⟨h1, h2⟩
    · by_cases hk : (k == NameKind.free) = true
      · rw [if_pos hk] at h
        rcases List.mem_cons.mp h with h | h
        · cases h
          have : k = NameKind.free := by simpa using hk
          subst this
          exact .inr ⟨List.mem_cons_self, rfl⟩
        · exact .inl h
      · rw [if_neg hk] at h
        exact .inl h
    · exact .inr ⟨List.mem_cons_of_mem _ h1, h2⟩
theorem acc_clOf {cells : List (Str × Addr)} {q : Str × Addr} : ∀ {l : List (Str × NameKind)} {acc : List (Str × Addr)}, q ∈ acc → q ∈ clOf cells l acc
  | [], _, h => h
  | (n, k) :: r, acc, h => by
    unfold clOf
    refine acc_clOf ?_
    split
    · exact List.mem_cons_of_mem _ h
    · exact h
theorem in_clOf {cells : List (Str × Addr)} {x : Str} : ∀ {l : List (Str × NameKind)} {acc : List (Str × Addr)}, (x, NameKind.free) ∈ l → (x, (cells.lookup x).getD 0) ∈ clOf cells l acc
  | [], _, h => by cases h
  | (n, k) :: r, acc, h => by
    unfold clOf
    rcases List.mem_cons.mp h with h | h
    · cases h
      refine acc_clOf ?_
      simp
    · exact in_clOf h
theorem lookup_mem {β : Type} {x : Str} {b : β} : ∀ {l : List (Str × β)}, (x, b) ∈ l → ∃ c, l.lookup x = some c
  | [], h => by cases h
  | (n, k) :: r, h => by
    rw [List.lookup_cons]
    cases e : x == n with
    | true => exact ⟨k, rfl⟩
    | false =>
      rcases List.mem_cons.mp h with h | h
      · cases h
        simp at e
      · exact lookup_mem h
theorem closure_run {env : Env} : ∀ (l : List (Str × NameKind)) (acc : List (Str × Addr)), (∀ x ∈ l, x.2 = NameKind.free → ∃ c, env.cells.lookup x.1 = some c) →
    (forIn l acc fun x r => if (x.2 == NameKind.free) = true then (do let c ← cellOf env x.1; pure (ForInStep.yield ((x.1, c) :: r))) else pure (ForInStep.yield r) : Sem (List (Str × Addr))) = pure (clOf env.cells l acc)
  | [], acc, _ => rfl
  | (n, k) :: r, acc, h => by
    rw [List.forIn_cons]
    by_cases hk : (k == NameKind.free) = true
    · obtain ⟨c, hc⟩ := h (n, k) List.mem_cons_self (by simpa using hk)
      have e : cellOf env n = pure c := by unfold cellOf; rw [hc]
      show (if (k == NameKind.free) = true then _ else _) >>= _ = _
      rw [if_pos hk, e]
      show (forIn r ((n, c) :: acc) _ : Sem _) = _
      rw [closure_run r _ fun x hx => h x (List.mem_cons_of_mem _ hx)]
      rw [clOf_cons, if_pos hk, show env.cells.lookup n = some c from hc]
      rfl
    · show (if (k == NameKind.free) = true then _ else _) >>= _ = _
      rw [if_neg hk]
      show (forIn r acc _ : Sem _) = _
      rw [closure_run r _ fun x hx => h x (List.mem_cons_of_mem _ hx)]
      rw [clOf_cons, if_neg hk]
theorem closureFor_cl {scope : Scope} {env : Env} (h : ∀ x ∈ scope.names, x.2 = NameKind.free → ∃ c, env.cells.lookup x.1 = some c) : closureFor scope env = pure (clOf env.cells scope.names []) := by
  have e := closure_run scope.names [] h
  unfold closureFor
  first
    | exact (congrArg (fun m => m >>= fun r => pure r) e).trans rfl
    | (simp only [bind_pure]; exact e)
    | (rw [← e]; rfl)

/-! ### the block's context -/
def cxComp (X : Cx) (sc : Scope) (N : List Str) (cl : List (Str × Addr)) (C : Addr) (s₂ : Shared) (H₂ : Hp) (fp : List Addr) : Cx where
  prog := X.prog
  w := X.w
  K := X.K
  mg := X.mg
  base := X.base
  A := X.A
  N := N
  s₀ := s₂
  H₀ := H₂
  env := compEnvC sc cl C X.env
  outer := X.stack
  stack := X.stack
  ex := fp
  fn := fun _ => false
  calm := true
  pn := []
  xe := fun _ _ => False

/-- what is looked at once: the block's names against the def's -/
def compOk (NX : List Str) (scX sc : Scope) (N : List Str) (mp : List (Option Nat)) : Bool :=
  sc.names.all (fun p => p.2 != NameKind.cell) && sc.names.all (fun p => p.2 != NameKind.local || sc.names.lookup p.1 == some NameKind.local) &&
  sc.names.all (fun p => p.2 != NameKind.free || (scX.names.lookup p.1 == some NameKind.cell || scX.names.lookup p.1 == some NameKind.free)) &&
  mp.length == N.length && (N.zip mp).all (fun q => match q.2 with | none => true | some i => NX[i]? == some q.1 && sc.names.lookup q.1 == some NameKind.free)
/-- the block's values at its entry: what it sees of the def's -/
def seed (mp : List (Option Nat)) (σ : St) : St := mp.map fun o => match o with | none => none | some i => (σ[i]?).join

structure CompOk (NX : List Str) (scX sc : Scope) (N : List Str) (mp : List (Option Nat)) : Prop where
  cell : ∀ x ∈ sc.names, x.2 ≠ NameKind.cell
  loc : ∀ x ∈ sc.names, x.2 = NameKind.local → sc.names.lookup x.1 = some NameKind.local
  free : ∀ x ∈ sc.names, x.2 = NameKind.free → scX.names.lookup x.1 = some NameKind.cell ∨ scX.names.lookup x.1 = some NameKind.free
  len : mp.length = N.length
  map : ∀ (j : Nat) (x : Str) (i : Nat), N[j]? = some x → mp[j]? = some (some i) → NX[i]? = some x ∧ sc.names.lookup x = some NameKind.free
theorem compOk_of {NX : List Str} {scX sc : Scope} {N : List Str} {mp : List (Option Nat)} (h : compOk NX scX sc N mp = true) : CompOk NX scX sc N mp := by
  unfold compOk at h
  simp only [Bool.and_eq_true, List.all_eq_true] at h
  obtain ⟨⟨⟨⟨h1, h2⟩, h3⟩, h4⟩, h5⟩ := h
  have hl : mp.length = N.length := by simpa using h4
  refine ⟨fun x hx => by simpa using h1 x hx, fun x hx e => ?_, fun x hx e => ?_, hl, fun j x i e1 e2 => ?_⟩
  · have := h2 x hx
    rw [e] at this
    simpa using this
  · have := h3 x hx
    rw [e] at this
    simpa using this
  · have hj1 : j < N.length := (List.getElem?_eq_some_iff.mp e1).1
    have hj2 : j < mp.length := (List.getElem?_eq_some_iff.mp e2).1
    have hm : (x, some i) ∈ N.zip mp := by
      refine List.mem_of_getElem? (i := j) ?_
      rw [List.getElem?_zip_eq_some]
      exact ⟨e1, e2⟩
    have := h5 _ hm
    simpa using this

theorem relabel_lookup {sc : Scope} {env : Env} {x : Str} {k : NameKind} (h : (relabel sc env).names.lookup x = some k) : ∃ k', (x, k') ∈ sc.names ∧ (k = k' ∨ (k' = NameKind.free ∧ k = NameKind.cell)) := by
  have hm := PySem.mem_of_lookup h
  obtain ⟨⟨n, k'⟩, hm', e⟩ := List.mem_map.mp hm
  refine ⟨k', ?_⟩
  dsimp only at e
  split at e
  · rename_i hc
    cases e
    rw [Bool.and_eq_true, Bool.and_eq_true] at hc
    have : k' = NameKind.free := by simpa using hc.1.1
    exact ⟨hm', .inr ⟨this, rfl⟩⟩
  · cases e
    exact ⟨hm', .inl rfl⟩
theorem relabel_free {sc : Scope} {env : Env} {x : Str} (h : sc.names.lookup x = some NameKind.free) : (relabel sc env).names.lookup x = some NameKind.cell ∨ (relabel sc env).names.lookup x = some NameKind.free := by
  show (sc.names.map _).lookup x = _ ∨ (sc.names.map _).lookup x = _
  generalize sc.names = l at h
  induction l with
  | nil => cases h
  | cons p r ih =>
    obtain ⟨n, k⟩ := p
    rw [List.map_cons]
    dsimp only
    by_cases hc : (k == NameKind.free && env.scope.kind == .function && env.kindOf n == some .cell) = true
    · rw [if_pos hc, List.lookup_cons]
      cases e : x == n with
      | true => exact .inl rfl
      | false =>
        rw [List.lookup_cons, e] at h
        exact ih h
    · rw [if_neg hc, List.lookup_cons]
      cases e : x == n with
      | true =>
        rw [List.lookup_cons, e] at h
        exact .inr h
      | false =>
        rw [List.lookup_cons, e] at h
        exact ih h

section
variable {X : Cx} {sc : Scope} {N : List Str} {mp : List (Option Nat)} {pins : List (Addr × Obj)} {σ : St} {H : Hp} {s : Shared} {fp : List Addr} {C : Addr} {h₁ : Heap}
theorem cl_cells (O : CompOk X.N X.env.scope sc N mp) (ok : X.Ok) : ∀ x ∈ sc.names, x.2 = NameKind.free → ∃ c, X.env.cells.lookup x.1 = some c := fun x hx e => ok.has x.1 (O.free x hx e)
theorem cl_sub (O : CompOk X.N X.env.scope sc N mp) (ok : X.Ok) {x : Str} {c : Addr} (h : (clOf X.env.cells sc.names []).lookup x = some c) : X.env.cells.lookup x = some c ∧ (x, NameKind.free) ∈ sc.names := by
  rcases mem_clOf (PySem.mem_of_lookup h) with h | ⟨h1, h2⟩
  · cases h
  · obtain ⟨c', hc⟩ := cl_cells O ok _ h1 rfl
    have hc' : X.env.cells.lookup x = some c' := hc
    rw [hc'] at h2
    rw [hc', h2]
    exact ⟨rfl, h1⟩
theorem cl_has (O : CompOk X.N X.env.scope sc N mp) (ok : X.Ok) {x : Str} (h : (x, NameKind.free) ∈ sc.names) : ∃ c, (clOf X.env.cells sc.names []).lookup x = some c := lookup_mem (in_clOf h)

/-- the block begins -/
theorem inv_comp (hc : X.calm = true) (O : CompOk X.N X.env.scope sc N mp) (hk : sc.kind = .function) (I : Inv X pins σ H s) (hC : s.heap.objs.size ≤ C) (kp : ∀ b o, s.heap.get? b = some o → h₁.get? b = some o) {m : Str → Option Value}
    (hn : h₁.Ns C m) (fpo : ∀ b ∈ fp, FpOk X pins H b) (fpl : ∀ b ∈ fp, b < s.heap.objs.size) {t' : Nat} :
    Inv (cxComp X sc N (clOf X.env.cells sc.names []) C s H fp) [] (seed mp σ) H { s with heap := h₁, toks := t' } := by
  have ok := I.ok
  have fsb : ∀ b ∈ fp, b ∉ frs X.stack := fun b hb z => by
    rcases List.mem_cons.mp (I.stkSub b z) with e | e
    · exact (fpo b hb).2.1 e
    · exact (fpo b hb).2.2.1 e
  refine ⟨⟨ok.mod, hk, ok.glob, ok.blt, hC, ?_, ?_, ?_, fun _ => ok.hd hc, ok.frames, .inl rfl, ?_, I.bs, Nat.le_trans ok.bsz I.sz, ?_, fsb, I.stack, I.stkFree⟩, rfl, I.bare, Un.kept kp, ?_, ?_, I.hok.fresh hC, ?_, ?_, I.hok.kept kp, ?_⟩
  · intro x y c h1 h2
    exact ok.inj x y c (cl_sub O ok h1).1 (cl_sub O ok h2).1
  · intro x hx
    have hx' : (relabel sc X.env).names.lookup x = some .cell ∨ (relabel sc X.env).names.lookup x = some .free := hx
    have hf : (x, NameKind.free) ∈ sc.names := by
      rcases hx' with h | h
      · obtain ⟨k', hm, e⟩ := relabel_lookup h
        rcases e with e | ⟨e, _⟩
        · subst e
          exact absurd rfl (O.cell _ hm)
        · subst e
          exact hm
      · obtain ⟨k', hm, e⟩ := relabel_lookup h
        rcases e with e | ⟨_, e⟩
        · subst e
          exact hm
        · cases e
    exact cl_has O ok hf
  · intro x c hf
    cases hf
  · intro b hb
    refine ⟨Nat.ne_of_lt (Nat.lt_of_lt_of_le (fpl b hb) hC), fun x c h => ?_⟩
    exact (fpo b hb).2.2.2.2.1 x c (cl_sub O ok h).1
  · intro b o e hb
    rcases (fpo b hb).2.2.2.1 with z | z
    · exact ok.noex b o e z
    · exact absurd (Nat.lt_of_lt_of_le (Heap.lt_size (ok.bs b o e).1) z) (Nat.lt_irrefl _)
  · refine ⟨m, hn, fun j x v e1 e2 e3 => ?_⟩
    have e1' : N[j]? = some x := e1
    have hj : j < mp.length := by
      rw [O.len]
      exact (List.getElem?_eq_some_iff.mp e1').1
    obtain ⟨i, hi, hv⟩ : ∃ i, mp[j]? = some (some i) ∧ σ[i]? = some (some v) := by
      unfold seed at e2
      rw [List.getElem?_map] at e2
      cases e : mp[j]? with
      | none => rw [e] at e2; cases e2
      | some o =>
        rw [e] at e2
        cases o with
        | none => cases e2
        | some i =>
          refine ⟨i, rfl, ?_⟩
          have e2' : (σ[i]?).join = some v := Option.some.inj e2
          cases q : σ[i]? with
          | none => rw [q] at e2'; cases e2'
          | some z =>
            rw [q] at e2'
            have : z = some v := e2'
            rw [this]
    obtain ⟨hx, hf⟩ := O.map j x i e1' hi
    have hfm := PySem.mem_of_lookup hf
    obtain ⟨mX, hnX, hl⟩ := I.loc
    have vis : Vis X.env.scope x := by
      rcases O.free _ hfm rfl with z | z
      · exact .inr (.inl z)
      · exact .inr (.inr z)
    obtain ⟨u, r, q⟩ := hl i x v hx hv vis
    refine ⟨u, r, ?_⟩
    rcases q with ⟨z, _⟩ | ⟨_, c, ec, cellc⟩
    · exfalso
      have z' : X.env.scope.names.lookup x = some .local := z
      rcases O.free _ hfm rfl with y | y
      · rw [show X.env.scope.names.lookup x = some .cell from y] at z'; cases z'
      · rw [show X.env.scope.names.lookup x = some .free from y] at z'; cases z'
    · obtain ⟨c', hc'⟩ := cl_has O ok hfm
      have hcc := (cl_sub O ok hc').1
      rw [ec] at hcc
      cases hcc
      refine .inr ⟨relabel_free hf, c, hc', ?_⟩
      obtain ⟨o, ho, hd⟩ := cellc
      exact ⟨o, kp _ _ ho, hd⟩
  · intro x c h
    obtain ⟨v, o, ho, hd⟩ := I.cell x c (cl_sub O ok h).1
    exact ⟨v, o, kp _ _ ho, hd⟩
  · intro x c h
    exact I.freeC x c (cl_sub O ok h).1
  · intro p hp
    cases hp
  · show (seed mp σ).length = N.length
    unfold seed
    rw [List.length_map, O.len]

/-- an untracked object of ours is tracked from now on -/
theorem Inv.track {a : Addr} {o : HO} {ob : Obj} (I : Inv X pins σ H s) (ho : s.heap.get? a = some ob) (hn : H a = none) (hL : a ≠ X.env.locals) (h1 : a ∈ X.ex ∨ X.s₀.heap.objs.size ≤ a) (h2 : ∀ x c, X.env.cells.lookup x = some c → c ≠ a)
    (h3 : ∀ p ∈ X.pn ++ pins, p.1 ≠ a) (new : ObjOk X.prog X.w (upd H a o) s.heap a o) : Inv X pins σ (upd H a o) s := by
  have nit : ∀ b u, H b = some u → b ≠ a := fun b u e z => by rw [z, hn] at e; cases e
  have := I.step (g' := s.gens) (d' := s.drawn) (t' := s.toks) (h' := s.heap) (H' := upd H a o) (ch := [a]) (fun b hb => ?_) (fun b o _ _ _ e _ => e) (fun b o _ _ _ e _ => ⟨o.slots, e⟩) (fun b o hc _ n => ?_)
    (fun b o _ e => ⟨o, e⟩) (fun b xs e => ?_) (fun b u xs e => ?_) (fun b ps e => ⟨#[], ?_⟩) (fun m hm => hm) (fun b u e => ?_) I.bare
  · exact this
  · have e : b = a := by simpa using hb
    subst e
    exact ⟨h1, hL, h2, h3⟩
  · rw [upd_ne (fun z => hc (by simp [z]))]; exact n
  · rw [upd_ne (nit _ _ e)]; exact e
  · rw [upd_ne (nit _ _ e)]; exact e
  · rw [upd_ne (nit _ _ e), e]; simp
  · by_cases hb : b = a
    · subst hb; rw [upd_same] at e; cases e; exact new
    · rw [upd_ne hb] at e
      exact (I.hok b u e).stay (fun c v _ q => q) (fun c q => by rw [upd_ne (nit _ _ q)]; exact q) fun c xs q => by rw [upd_ne (nit _ _ q)]; exact q
end

/-! ### the loop of a comprehension, any target -/
theorem compLoop_own {prog : Program} {w : World} {A : Around} {R : Result → Shared → Prop} {s : Shared} {elt target iter : Expr} {ifs : List Expr} {scope : Scope} {pos : Pos} {it acc : Value} {env : Env} (I : Nat → Shared → Prop)
    (turn : ∀ n s, I n s → wpAny (model prog w) A (pyNext it) (fun r s₁ => match r with
      | none => R (.ok .next) s₁
      | some v => wpAny (model prog w) A (letOwnedTupleGo target it v) (fun _ s' => wpAny (model prog w) A (assign target env v) (fun _ s₂ =>
          wpAny (model prog w) A (forIn ifs true fun c r => if r = true then do let ok ← isTrue c env (eval c env); pure (ForInStep.yield ok) else pure (ForInStep.yield r)) (fun ok s₃ =>
            if ok = true then wpAny (model prog w) A (eval elt env) (fun x s₄ =>
              wpAny (model prog w) A (call (.builtin "list.append") [acc, x]) (fun _ s₅ => ∃ m, m < n ∧ I m s₅) (fun _ _ => False) s₄) (fun _ _ => False) s₃
            else ∃ m, m < n ∧ I m s₃) (fun _ _ => False) s₂) (fun _ _ => False) s') (fun _ _ => False) s₁) (fun _ _ => False) s)
    (n : Nat) (h : I n s) :
    codeAny (model prog w) A (.compLoop (.ListComp elt [⟨target, iter, ifs, 0⟩] scope pos) 0 it acc env) R s := by
  refine codeAny_loop rfl I (fun n s hI => ?_) n h
  show wpAny _ A ((compTurn (.ListComp elt [⟨target, iter, ifs, 0⟩] scope pos) 0 it acc env).onRaise (fun x => do noteFrame x env; theTreesLotGoes x)) _ _ s
  refine wpAny_noted ?_
  rw [compTurn_list]
  refine wpAny_bind (wpAny_standAt (wpAny_bind (wpAny_mono (turn n s hI) (fun r s₁ h₁ => ?_) fun _ _ h' => h'.elim)))
  cases r with
  | none => exact wpAny_pure h₁
  | some v =>
    refine wpAny_bind (wpAny_mono h₁ (fun _ s' h' => wpAny_bind (wpAny_mono h' (fun _ s₂ h₂ => wpAny_bind (wpAny_mono h₂ (fun ok s₃ h₃ => ?_) fun _ _ h' => h'.elim)) fun _ _ h' => h'.elim)) fun _ _ h' => h'.elim)
    cases ok with
    | false => exact wpAny_pure ⟨rfl, h₃⟩
    | true =>
      exact wpAny_bind (wpAny_bind (wpAny_mono h₃ (fun x s₄ h₄ => wpAny_bind (wpAny_mono h₄ (fun _ s₅ h₅ => wpAny_pure (wpAny_pure ⟨rfl, h₅⟩)) fun _ _ h' => h'.elim)) fun _ _ h' => h'.elim))

/-- the tests of a comprehension's clause -/
def PCk (X : Cx) (ifs : List Expr) (t : TT) : Prop :=
  ∀ (pins : List (Addr × Obj)) (s : Shared) (σ : St) (H : Hp) (Q : Bool → Hp → Prop), Inv X pins σ H s → t σ H Q →
    wpAny (model X.prog X.w) X.A (forIn ifs true fun c r => if r = true then do let ok ← isTrue c X.env (eval c X.env); pure (ForInStep.yield ok) else pure (ForInStep.yield r)) (TP X pins σ Q) X.xe s
def tTrue : TT := fun _ H Q => Q true H
theorem pk_nil1 {X : Cx} : PCk X [] tTrue := fun _ _ _ H _ I h => wpAny_tests_nil ⟨H, I, h⟩
theorem pk_one1 {X : Cx} {c : Expr} {t : TT} (h : PT X c t) : PCk X [c] t := fun pins s σ H Q I hw => wpAny_tests_one (h pins s σ H Q I hw)

/-- what a comprehension's list is: R of its items and the heap behind -/
abbrev TC := St → Hp → (List V → Hp → Prop) → Prop
def tComp (wi : TI) (mp : List (Option Nat)) (g : TG) (tc : TT) (te : TE) : TC := fun σ H R => wi σ H fun J H1 => ∃ W : Nat → Nat → List V → St → Hp → Prop, (∃ m, W 0 m [] (seed mp σ) H1) ∧ ∀ i m ys σ' H', W i m ys σ' H' →
  (J.stop i H' ∧ ys.length ≤ sizeLine ∧ R ys H') ∨
  (J.go i H' ∧ ys.length < sizeLine ∧ ∀ x H'', J.yld i H' x H'' → g x σ' H'' fun σ2 H2 => tc σ2 H2 fun b H3 =>
    if b = true then te σ2 H3 fun y H4 => ∃ m', m' < m ∧ W (i + 1) m' (ys ++ [y]) σ2 H4 else ∃ m', m' < m ∧ W (i + 1) m' ys σ2 H3)

section
variable {X : Cx} {elt tg iter : Expr} {ifs : List Expr} {sc : Scope} {pos pos' : Pos} {N : List Str} {mp : List (Option Nat)} {wi : TI} {g : TG} {tc : TT} {te : TE}
theorem comp_core {use : Option (Value → Sem Unit)} {Q : Value → Shared → Prop} (hc : X.calm = true) (hi : PI X tg iter wi) (hk : sc.kind = .function) (O : CompOk X.N X.env.scope sc N mp)
    (hb : ∀ (cl : List (Str × Addr)) (C : Addr) (s₂ : Shared) (H₂ : Hp) (fp : List Addr), PG (cxComp X sc N cl C s₂ H₂ fp) tg g ∧ PCk (cxComp X sc N cl C s₂ H₂ fp) ifs tc ∧ PE (cxComp X sc N cl C s₂ H₂ fp) elt te)
    {pins : List (Addr × Obj)} {s : Shared} {σ : St} {H : Hp} {R : List V → Hp → Prop} (I : Inv X pins σ H s) (h : tComp wi mp g tc te σ H R)
    (hs : ∀ x, foldedSetIterable iter X.env x = pure x)
    (hend : ∀ (D C : Addr) (ys : List V) (H' : Hp) (s' : Shared) (m : Str → Option Value), Inv X pins σ (upd H' D (.lst ys)) s' → s'.heap.Ns C m → FpOk X pins (upd H' D (.lst ys)) C → H' D = none → R ys H' →
      compPost (model X.prog X.w) X.A X.xe use Q (.ref D) C (.ok .next) s') :
    wpAny (model X.prog X.w) X.A (comprehension (.ListComp elt [⟨tg, iter, ifs, 0⟩] sc pos) sc X.env pos' (newList []) false (eval iter X.env) use) Q X.xe s := by
  have ok := I.ok
  refine wpAny_comprehension_free (g := ⟨tg, iter, ifs, 0⟩) (gs := []) rfl hs (closureFor_cl (cl_cells O ok)) hk O.loc (thn (hi pins s σ H _ I h) fun v s1 h1 => thn h1 fun itv s2 h2 => ?_)
  obtain ⟨it, fp, tn, J, H2, e, I2, T, st2, f2, W, ⟨m0, w0⟩, turn⟩ := h2
  subst e
  refine wpAny_newObj_type (wpAny_newFunctionEnv O.cell (by intro y hy; simp at hy) (fun h₁ hns₁ hsb₁ => ?_) hk)
  dsimp only at hns₁ hsb₁ ⊢
  generalize hP : s2.heap.push { cls := .type "list", dict := none, data := .seq ([] : List Value).toArray } = P2 at hns₁ hsb₁ ⊢
  have hCe : P2.objs.size = s2.heap.objs.size + 1 := by rw [← hP, Heap.size_push]
  have hDC : s2.heap.objs.size ≠ P2.objs.size := by rw [hCe]; exact Nat.ne_of_lt (Nat.lt_succ_self _)
  have hCle : s2.heap.objs.size ≤ P2.objs.size := by rw [hCe]; exact Nat.le_succ _
  have old : ∀ b o, s2.heap.get? b = some o → h₁.get? b = some o := fun b o e =>
    hsb₁.extBut b o (Nat.ne_of_lt (Nat.lt_of_lt_of_le (Heap.lt_size e) hCle)) (Heap.get?_push_of_some _ (hP ▸ Heap.get?_push_of_some _ e))
  have hacc : h₁.get? s2.heap.objs.size = some { cls := .type "list", dict := none, data := .seq ([] : List Value).toArray } :=
    hsb₁.extBut _ _ hDC (Heap.get?_push_of_some _ (hP ▸ Heap.get?_push_size _ rfl))
  have fpl : ∀ b ∈ fp, b < s2.heap.objs.size := fun b hb => by
    obtain ⟨o, e, _⟩ := T.obj _ _ st2 b hb
    exact Heap.lt_size e
  have hDf : s2.heap.objs.size ∉ fp := fun z => Nat.lt_irrefl _ (fpl _ z)
  have I3 : Inv (cxComp X sc N (clOf X.env.cells sc.names []) P2.objs.size s2 H2 fp) [] (seed mp σ) H2 { s2 with heap := h₁, toks := s2.toks + ([] : List (Str × Value)).length } :=
    inv_comp hc O hk I2 hCle old hns₁ f2 fpl
  obtain ⟨hg, ht, he⟩ := hb (clOf X.env.cells sc.names []) P2.objs.size s2 H2 fp
  generalize hX : cxComp X sc N (clOf X.env.cells sc.names []) P2.objs.size s2 H2 fp = Y at I3 hg ht he
  have yP : Y.prog = X.prog := by rw [← hX]; rfl
  have yw : Y.w = X.w := by rw [← hX]; rfl
  have yK : Y.K = X.K := by rw [← hX]; rfl
  have yA : Y.A = X.A := by rw [← hX]; rfl
  have yc : Y.calm = true := by rw [← hX]; rfl
  have yx : Y.xe = fun _ _ => False := by rw [← hX]; rfl
  have yl : Y.env.locals = P2.objs.size := by rw [← hX]; rfl
  have yex : Y.ex = fp := by rw [← hX]; rfl
  have ys0 : Y.s₀ = s2 := by rw [← hX]; rfl
  have yH0 : Y.H₀ = H2 := by rw [← hX]; rfl
  have ypn : Y.pn = [] := by rw [← hX]; rfl
  have yfs : Y.fs = frs X.stack := by rw [← hX]; rfl
  have yenv : Y.env = compEnvC sc (clOf X.env.cells sc.names []) P2.objs.size X.env := by rw [← hX]; rfl
  have ycl : ∀ x c, Y.env.cells.lookup x = some c → X.env.cells.lookup x = some c := fun x c e => by
    rw [yenv] at e
    exact (cl_sub O ok e).1
  have dne : ∀ x c, Y.env.cells.lookup x = some c → c ≠ s2.heap.objs.size := fun x c e z => by
    obtain ⟨v, o, ho, _⟩ := I2.cell x c (ycl x c e)
    exact absurd (Heap.lt_size ho) (by rw [z]; exact Nat.lt_irrefl _)
  have fsb : ∀ b ∈ fp, b ∉ frs X.stack := fun b hb z => by
    rcases List.mem_cons.mp (I2.stkSub b z) with e | e
    · exact (f2 b hb).2.1 e
    · exact (f2 b hb).2.2.1 e
  have dfs : s2.heap.objs.size ∉ frs X.stack := fun z => by
    rcases List.mem_cons.mp (I2.stkSub _ z) with e | e
    · exact absurd I2.lt (by rw [← e]; exact Nat.lt_irrefl _)
    · exact I2.nofs (Nat.le_refl _) e
  have fpo : ∀ {H' : Hp} {o : Obj}, (∀ b ∈ fp, H' b = none) → ∀ b ∈ fp, FpOk Y [(s2.heap.objs.size, o)] H' b := fun {H' o} hn b hb => by
    refine ⟨hn b hb, ?_, ?_, ?_, ?_, ?_⟩
    · rw [yl]; exact Nat.ne_of_lt (Nat.lt_of_lt_of_le (fpl b hb) hCle)
    · rw [yfs]; exact fsb b hb
    · rw [yex]; exact .inl hb
    · exact fun x c e => (f2 b hb).2.2.2.2.1 x c (ycl x c e)
    · intro p hp
      rw [ypn] at hp
      have : p = (s2.heap.objs.size, o) := by simpa using hp
      subst this
      exact fun z => hDf (by have z' : s2.heap.objs.size = b := z; rw [z']; exact hb)
  -- the list under work is pinned
  have pinD : ∀ {σ' : St} {H' : Hp} {s' : Shared} {o : Obj}, Inv Y [] σ' H' s' → s'.heap.get? s2.heap.objs.size = some o → (∀ v, o.data ≠ .cell v) → H' s2.heap.objs.size = none → Inv Y [(s2.heap.objs.size, o)] σ' H' s' :=
    fun {σ' H' s' o} J e d hn => J.pins_of fun p hp => by
      have : p = (s2.heap.objs.size, o) := by simpa using hp
      subst this
      exact ⟨e, hn, by rw [yl]; exact hDC, by rw [yfs]; exact dfs, d⟩
  have loop : ∀ s₃ : Shared, s₃ = { s2 with heap := h₁, toks := s2.toks + ([] : List (Str × Value)).length } →
      codeAny (model X.prog X.w) X.A (.compLoop (.ListComp elt [⟨tg, iter, ifs, 0⟩] sc pos) 0 (.ref it) (.ref s2.heap.objs.size) Y.env)
        (compPost (model X.prog X.w) X.A X.xe use Q (.ref s2.heap.objs.size) P2.objs.size) s₃ := by
    rintro s₃ rfl
    refine compLoop_own (fun n s' => ∃ i ys its c σ' H', Inv Y [(s2.heap.objs.size, ({ cls := .type "list", data := .seq its.toArray c } : Obj))] σ' H' s' ∧ Vals ys its ∧ tn i s'.heap ∧ (∀ b ∈ fp, H' b = none) ∧ ys.length ≤ sizeLine ∧ W i n ys σ' H') ?_ m0
      ⟨0, [], [], 0, seed mp σ, H2, pinD I3 hacc (fun v z => by cases z) (I2.hok.fresh (Nat.le_refl _)), .nil, T.keep _ _ _ st2 (fun b _ o e => old b o e), fun b hb => (f2 b hb).1, Nat.zero_le _, w0⟩
    rintro n s3 ⟨i, ys, its, c, σ3, H3, J3, rv, st3, fr3, hz, w3⟩
    have hpin := J3.pin _ (List.mem_append_right _ (List.mem_singleton.mpr rfl))
    rcases turn i n ys σ3 H3 w3 with ⟨stop, hl, qn⟩ | ⟨go, hl, step⟩
    · have := T.done Y yP yw yK yc i _ s3 σ3 H3 (fun _ _ => False) J3 (fpo fr3) st3 stop
      rw [yA] at this
      refine thn this fun r s4 ⟨hr, J4⟩ => ?_
      subst hr
      obtain ⟨pe, pn, _, _, _⟩ := J4.pin _ (List.mem_append_right _ (List.mem_singleton.mpr rfl))
      dsimp only at pe pn
      -- back in the def
      have un := J4.base
      rw [yfs, yex, ys0, yH0] at un
      have os4 : s4.os = s2.os := by have := J4.os; rw [ys0] at this; exact this
      have hok4 := J4.hok
      rw [yP, yw] at hok4
      have IX : Inv X pins σ H3 s4 := I2.call' os4 un hok4 J4.bare fun b hb => ⟨(f2 b hb).2.2.2.1, (f2 b hb).2.1, (f2 b hb).2.2.2.2.1, (f2 b hb).2.2.2.2.2⟩
      obtain ⟨mC, hnC, _⟩ := J4.loc
      rw [yl] at hnC
      have dX : FpOk X pins H3 s2.heap.objs.size := I2.fpOk (Nat.le_refl _) pn
      have IT : Inv X pins σ (upd H3 s2.heap.objs.size (.lst ys)) s4 := IX.track (o := .lst ys) pe pn dX.2.1 dX.2.2.2.1 dX.2.2.2.2.1 dX.2.2.2.2.2 ⟨hl, its, c, rv, pe⟩
      have cn : H3 P2.objs.size = none := by have := J4.free; rw [yl] at this; exact this
      have cX : FpOk X pins (upd H3 s2.heap.objs.size (.lst ys)) P2.objs.size := I2.fpOk hCle (by rw [upd_ne hDC.symm]; exact cn)
      exact hend _ _ ys H3 s4 mC IT hnC cX pn qn
    · have := T.item Y yP yw yK yc i _ s3 σ3 H3 (fun _ _ => False) J3 (fpo fr3) st3 go
      rw [yA] at this
      refine thn this fun r s4 ⟨u, hr, h4⟩ => ?_
      subst hr
      refine thn h4 fun _ s5 ⟨x, H5, J5, r5, y5, st5, fr5⟩ => ?_
      have J5' := J5.pinned (fpo fr5) (T.obj _ _ st5)
      have ga := hg _ s5 σ3 H5 x u _ J5' r5 (step x H5 y5)
      rw [yP, yw, yA, yx] at ga
      refine thn ga fun _ s6 ⟨σ6, H6, J6, q6⟩ => ?_
      have gt := ht _ s6 σ6 H6 _ J6 q6
      rw [yP, yw, yA, yx] at gt
      refine thn gt fun b s7 ⟨H7, J7, q7⟩ => ?_
      have pins7 : ∀ {σ' : St} {H' : Hp} {s' : Shared}, Inv Y ([(s2.heap.objs.size, ({ cls := .type "list", data := .seq its.toArray c } : Obj))] ++ pinsAt fp s5.heap) σ' H' s' → tn (i + 1) s'.heap ∧ (∀ b ∈ fp, H' b = none) := fun {σ' H' s'} J => by
        refine ⟨T.keep _ _ _ st5 fun b hb o e => (J.pin (b, o) (List.mem_append_right _ (List.mem_append_right _ (mem_pinsAt hb e)))).1, fun b hb => ?_⟩
        obtain ⟨o, e, d⟩ := T.obj _ _ st5 b hb
        exact (J.pin (b, o) (List.mem_append_right _ (List.mem_append_right _ (mem_pinsAt hb e)))).2.1
      cases b with
      | false =>
        have q7' : ∃ m', m' < n ∧ W (i + 1) m' ys σ6 H7 := by simpa using q7
        obtain ⟨m', hm, w7⟩ := q7'
        obtain ⟨t7, f7⟩ := pins7 J7
        rw [if_neg Bool.false_ne_true]
        exact ⟨m', hm, i + 1, ys, its, c, σ6, H7, J7.unpinned, rv, t7, f7, hz, w7⟩
      | true =>
        rw [if_pos rfl]
        have q7' : te σ6 H7 fun y H4 => ∃ m', m' < n ∧ W (i + 1) m' (ys ++ [y]) σ6 H4 := by simpa using q7
        have ge := he _ s7 σ6 H7 _ J7 q7'
        rw [yP, yw, yA, yx] at ge
        refine thn ge fun u8 s8 ⟨y, H8, J8, r8, m', hm, w8⟩ => ?_
        obtain ⟨t8, f8⟩ := pins7 J8
        have J8' := J8.unpinned
        obtain ⟨pe, pn, _, _, _⟩ := J8'.pin _ (List.mem_append_right _ (List.mem_singleton.mpr rfl))
        dsimp only at pe pn
        have hlen := rv.length
        refine call_meets F.slot_list_append ⟨_, pe, rfl⟩ F.entry_list_append (F.args_list_append_2 _ _) (PySem.list_append s2.heap.objs.size its.toArray c u8 (by rw [List.size_toArray]; omega)) ⟨pe, ?_⟩
        have qe := PySem.IsL.update pe (fun a => a.push u8)
        have qe' : (s8.heap.update s2.heap.objs.size (Obj.mapSeq fun a => a.push u8)).get? s2.heap.objs.size = some { cls := .type "list", data := .seq (its ++ [u8]).toArray (c + 1) } := by
          simpa using qe
        have J9 : Inv Y [] σ6 H8 { s8 with heap := s8.heap.update s2.heap.objs.size (Obj.mapSeq fun a => a.push u8), toks := s8.toks } := by
          have J0 : Inv Y [] σ6 H8 s8 := J8'.pins_of fun p hp => by cases hp
          refine J0.turned (it := s2.heap.objs.size) (fun b o hb e => (Heap.get?_update_other s8.heap _ (Ne.symm hb)).trans e) pn (by rw [yl]; exact hDC) (.inr (by rw [ys0]; exact Nat.le_refl _)) dne (fun p hp => ?_)
          rw [ypn] at hp
          cases hp
        refine ⟨m', hm, i + 1, ys ++ [y], its ++ [u8], c + 1, σ6, H8, pinD J9 qe' (fun v z => by cases z) pn, rv.append (.cons r8 .nil), ?_, f8, by rw [List.length_append, List.length_singleton]; omega, w8⟩
        exact T.keep _ _ _ t8 fun b hb o e => (Heap.get?_update_other s8.heap _ (fun (z : s2.heap.objs.size = b) => hDf (by rw [z]; exact hb))).trans e
  have yenv' : compEnvC sc (clOf X.env.cells sc.names []) P2.objs.size X.env = Y.env := yenv.symm
  show codeAny _ _ (.compStart _ 0 (.ref it) (.ref s2.heap.objs.size) (compEnvC sc (clOf X.env.cells sc.names []) P2.objs.size X.env)) _ _
  rw [yenv']
  exact codeAny_compStart_list (loop _ rfl) (T.self _ 0 _ _ _ (T.keep _ _ _ st2 fun b _ o e => old b o e) (loop _ rfl))

/-- [elt for tg in iter if ..] as a value -/
def tCompE (t : TC) : TE := fun σ H Q => t σ H fun ys H' => ∀ D, H' D = none → Q (.ref D) (upd H' D (.lst ys))
theorem pe_comp (hc : X.calm = true) (hi : PI X tg iter wi) (hk : sc.kind = .function) (hm : compOk X.N X.env.scope sc N mp = true)
    (hb : ∀ (cl : List (Str × Addr)) (C : Addr) (s₂ : Shared) (H₂ : Hp) (fp : List Addr), PG (cxComp X sc N cl C s₂ H₂ fp) tg g ∧ PCk (cxComp X sc N cl C s₂ H₂ fp) ifs tc ∧ PE (cxComp X sc N cl C s₂ H₂ fp) elt te)
    (hs : ∀ x, foldedSetIterable iter X.env x = pure x := by intro _; rfl) : PE X (.ListComp elt [⟨tg, iter, ifs, 0⟩] sc pos) (tCompE (tComp wi mp g tc te)) := by
  intro pins s σ H Q I h
  rw [eval_ListComp]
  refine comp_core (use := none) hc hi hk (compOk_of hm) hb I h hs fun D C ys H' s' m I' hn f hD q => ?_
  refine ⟨m, hn, fun h' hs' => ?_⟩
  obtain ⟨f0, f1, _, f3, f4, f5⟩ := f
  exact ⟨.ref D, _, I'.turned (t' := s'.toks) (it := C) (fun b o hb e => (hs'.2 b hb).trans e) f0 f1 f3 f4 f5, rfl, q D hD⟩
/-- x = [elt for tg in iter if ..], x a plain local -/
def tCompS (i : Nat) (t : TC) : TS := fun D σ H => t σ H fun ys H' => ∀ l, H' l = none → D.nx (σ.set i (some (.ref l))) (upd H' l (.lst ys))
theorem ps_comp {i : Nat} {x : Str} {py spos : Pos} (hN : X.N.Nodup) (hix : X.N[i]? = some x) (hx : X.env.scope.names.lookup x = some .local) (hc : X.calm = true) (hi : PI X tg iter wi) (hk : sc.kind = .function) (hm : compOk X.N X.env.scope sc N mp = true)
    (hb : ∀ (cl : List (Str × Addr)) (C : Addr) (s₂ : Shared) (H₂ : Hp) (fp : List Addr), PG (cxComp X sc N cl C s₂ H₂ fp) tg g ∧ PCk (cxComp X sc N cl C s₂ H₂ fp) ifs tc ∧ PE (cxComp X sc N cl C s₂ H₂ fp) elt te)
    (hsw : swapsWith (.ListComp elt [⟨tg, iter, ifs, 0⟩] sc pos) (some (.Name x py)) spos.line X.env = pure true := by rfl)
    (hs : ∀ x, foldedSetIterable iter X.env x = pure x := by intro _; rfl) : PS X (.Assign [.Name x py] (.ListComp elt [⟨tg, iter, ifs, 0⟩] sc pos) spos) (tCompS i (tComp wi mp g tc te)) := by
  intro pins s σ H D I h
  rw [exec_Assign_Name_used _ _ _ _ hsw]
  refine wpAny_bind (wpAny_standAt (wpAny_bind ?_))
  show wpAny _ X.A (do let _ ← comprehension (.ListComp elt [⟨tg, iter, ifs, 0⟩] sc pos) sc X.env _ (newList []) false (eval iter X.env) (some (assign (.Name x py) X.env))) _ _ s
  refine wpAny_bind (thn (comp_core (use := some (assign (.Name x py) X.env)) (Q := fun _ s' => SP X pins D .next s') hc hi hk (compOk_of hm) hb I h hs fun l C ys H' s' m I' hn f hD q => ?_) fun _ s' hq => wpAny_pure (wpAny_pure hq))
  obtain ⟨f0, f1, f2, f3, f4, f5⟩ := f
  show wpAny _ _ (assign (.Name x py) X.env (.ref l)) _ _ s'
  refine wpAny_assign_Name (store_ok2 (v := .ref l) I' hN hix (.inl hx) rfl (fun s'' I'' ⟨a, sb, ea⟩ => ?_) (.inr hx))
  have hac : C ≠ a := by
    rcases ea with e | e
    · rw [e]; exact f1
    · exact fun z => f4 x a e z.symm
  refine ⟨m, hn.sameBut sb hac, fun h' hs' => ?_⟩
  exact ⟨_, _, I''.turned (t' := s''.toks) (it := C) (fun b o hb e => (hs'.2 b hb).trans e) f0 f1 f3 f4 f5, q l hD⟩
end
end L2

set_option Elab.async false
set_option linter.all false
set_option maxRecDepth 100000
/-! Rules of our own: plain data (PyData) in the abstract heap, repr, ==, isinstance, ranges, slices. -/
namespace L2
open PySem PySem.Spec PyProof.Rows

/-! ### data -/
mutual
/-- the value stands for the data; the lists at S (they may change) are no part of it -/
def Rep (S : List Addr) (H : Hp) : PyData → V → Prop
  | .none, v => v = .non
  | .bool b, v => v = .bl b
  | .int i, v => v = .int i
  | .str x, v => v = .str x
  | .tuple ds, v => ∃ a xs, v = .ref a ∧ H a = some (.tup xs) ∧ Reps S H ds xs
  | .list ds, v => ∃ a xs, v = .ref a ∧ H a = some (.lst xs) ∧ a ∉ S ∧ Reps S H ds xs
  | .dict _, _ => False
def Reps (S : List Addr) (H : Hp) : List PyData → List V → Prop
  | [], xs => xs = []
  | d :: ds, xs => ∃ x r, xs = x :: r ∧ Rep S H d x ∧ Reps S H ds r
end
/-- what stays: all but the lists at S; the tuples anyway -/
structure Ext (S : List Addr) (H H' : Hp) : Prop where
  keep : ∀ b o, b ∉ S → H b = some o → H' b = some o
  tup : ∀ b xs, H b = some (.tup xs) → H' b = some (.tup xs)
theorem Ext.refl (S : List Addr) (H : Hp) : Ext S H H := ⟨fun _ _ _ e => e, fun _ _ e => e⟩
theorem Ext.trans {S : List Addr} {H H1 H2 : Hp} (a : Ext S H H1) (b : Ext S H1 H2) : Ext S H H2 := ⟨fun c o hc e => b.keep c o hc (a.keep c o hc e), fun c xs e => b.tup c xs (a.tup c xs e)⟩
theorem Ext.mono {S S' : List Addr} {H H' : Hp} (a : Ext S H H') (h : ∀ b ∈ S, b ∈ S') : Ext S' H H' := ⟨fun b o hb e => a.keep b o (fun z => hb (h b z)) e, a.tup⟩
theorem Ext.new {S : List Addr} {H : Hp} {p : Addr} {o : HO} (h : H p = none) : Ext S H (upd H p o) := ⟨fun b u _ e => by rw [upd_ne (ne_of_none e h)]; exact e, fun b xs e => by rw [upd_ne (ne_of_none e h)]; exact e⟩
theorem Ext.set {S : List Addr} {H : Hp} {p : Addr} {o : HO} {xs : List V} (hp : p ∈ S) (h : H p = some (.lst xs)) : Ext S H (upd H p o) :=
  ⟨fun b u hb e => by rw [upd_ne (fun (z : b = p) => hb (by rw [z]; exact hp))]; exact e, fun b ys e => by rw [upd_ne (fun z => by rw [z, h] at e; cases e)]; exact e⟩
/-- .. where p is new ahead of H0 -/
theorem Ext.set' {S : List Addr} {H0 H : Hp} {p : Addr} {o : HO} {xs : List V} (a : Ext S H0 H) (h0 : H0 p = none) (h : H p = some (.lst xs)) : Ext S H0 (upd H p o) :=
  ⟨fun b u hb e => by rw [upd_ne (fun z => by rw [z, h0] at e; cases e)]; exact a.keep b u hb e, fun b ys e => by rw [upd_ne (fun z => by rw [z, h0] at e; cases e)]; exact a.tup b ys e⟩
theorem Ext.fresh {S : List Addr} {H0 H : Hp} {p : Addr} (a : Ext S H0 H) (hp : p ∉ S) (h : H p = none) : H0 p = none := by
  cases e : H0 p with
  | none => rfl
  | some o => rw [a.keep p o hp e] at h; cases h

mutual
theorem Rep.ext {S : List Addr} {H H' : Hp} (x : Ext S H H') : ∀ {d : PyData} {v : V}, Rep S H d v → Rep S H' d v
  | .none, _, h => h
  | .bool _, _, h => h
  | .int _, _, h => h
  | .str _, _, h => h
  | .tuple ds, _, h => by
    unfold Rep at h ⊢
    obtain ⟨a, xs, e, ha, hr⟩ := h
    exact ⟨a, xs, e, x.tup a xs ha, Reps.ext x hr⟩
  | .list ds, _, h => by
    unfold Rep at h ⊢
    obtain ⟨a, xs, e, ha, hs, hr⟩ := h
    exact ⟨a, xs, e, x.keep a _ hs ha, hs, Reps.ext x hr⟩
  | .dict _, _, h => h
theorem Reps.ext {S : List Addr} {H H' : Hp} (x : Ext S H H') : ∀ {ds : List PyData} {vs : List V}, Reps S H ds vs → Reps S H' ds vs
  | [], _, h => h
  | d :: ds, _, h => by
    unfold Reps at h ⊢
    obtain ⟨y, r, e, h1, h2⟩ := h
    exact ⟨y, r, e, Rep.ext x h1, Reps.ext x h2⟩
end

mutual
theorem Rep.less {S S' : List Addr} {H : Hp} (x : ∀ b ∈ S', b ∈ S) : ∀ {d : PyData} {v : V}, Rep S H d v → Rep S' H d v
  | .none, _, h => h
  | .bool _, _, h => h
  | .int _, _, h => h
  | .str _, _, h => h
  | .tuple ds, _, h => by
    unfold Rep at h ⊢
    obtain ⟨a, xs, e, ha, hr⟩ := h
    exact ⟨a, xs, e, ha, Reps.less x hr⟩
  | .list ds, _, h => by
    unfold Rep at h ⊢
    obtain ⟨a, xs, e, ha, hs, hr⟩ := h
    exact ⟨a, xs, e, ha, fun z => hs (x a z), Reps.less x hr⟩
  | .dict _, _, h => h
theorem Reps.less {S S' : List Addr} {H : Hp} (x : ∀ b ∈ S', b ∈ S) : ∀ {ds : List PyData} {vs : List V}, Reps S H ds vs → Reps S' H ds vs
  | [], _, h => h
  | d :: ds, _, h => by
    unfold Reps at h ⊢
    obtain ⟨y, r, e, h1, h2⟩ := h
    exact ⟨y, r, e, Rep.less x h1, Reps.less x h2⟩
end
section
variable {S : List Addr} {H : Hp}
theorem Reps.nil : Reps S H [] [] := by unfold Reps; rfl
theorem Reps.cons {d : PyData} {x : V} {ds : List PyData} {xs : List V} (h : Rep S H d x) (t : Reps S H ds xs) : Reps S H (d :: ds) (x :: xs) := by unfold Reps; exact ⟨x, xs, rfl, h, t⟩
theorem Reps.of_cons {d : PyData} {ds : List PyData} {xs : List V} (h : Reps S H (d :: ds) xs) : ∃ x r, xs = x :: r ∧ Rep S H d x ∧ Reps S H ds r := by unfold Reps at h; exact h
theorem Reps.of_nil {xs : List V} (h : Reps S H [] xs) : xs = [] := by unfold Reps at h; exact h
theorem Reps.length : ∀ {ds : List PyData} {xs : List V}, Reps S H ds xs → xs.length = ds.length
  | [], _, h => by rw [h.of_nil]; rfl
  | _ :: _, _, h => by
    obtain ⟨x, r, e, _, h2⟩ := h.of_cons
    subst e
    simp [h2.length]
theorem Reps.get : ∀ {ds : List PyData} {xs : List V} {i : Nat} {x : V}, Reps S H ds xs → xs[i]? = some x → ∃ d, ds[i]? = some d ∧ Rep S H d x
  | [], _, i, x, h, e => by rw [h.of_nil] at e; cases e
  | d :: ds, _, 0, x, h, e => by
    obtain ⟨y, r, e1, h1, h2⟩ := h.of_cons
    subst e1
    cases e
    exact ⟨d, rfl, h1⟩
  | d :: ds, _, i + 1, x, h, e => by
    obtain ⟨y, r, e1, h1, h2⟩ := h.of_cons
    subst e1
    obtain ⟨d', q, h3⟩ := Reps.get (i := i) h2 (by simpa using e)
    exact ⟨d', by simpa using q, h3⟩
theorem Reps.at : ∀ {ds : List PyData} {xs : List V} {i : Nat} {d : PyData}, Reps S H ds xs → ds[i]? = some d → ∃ x, xs[i]? = some x ∧ Rep S H d x
  | [], _, i, d, h, e => by cases e
  | d :: ds, _, 0, d', h, e => by
    obtain ⟨y, r, e1, h1, h2⟩ := h.of_cons
    subst e1
    cases e
    exact ⟨y, rfl, h1⟩
  | d :: ds, _, i + 1, d', h, e => by
    obtain ⟨y, r, e1, h1, h2⟩ := h.of_cons
    subst e1
    obtain ⟨x, q, h3⟩ := Reps.at (i := i) h2 (by simpa using e)
    exact ⟨x, by simpa using q, h3⟩
theorem Reps.append : ∀ {ds es : List PyData} {xs ys : List V}, Reps S H ds xs → Reps S H es ys → Reps S H (ds ++ es) (xs ++ ys)
  | [], _, _, _, h, k => by rw [h.of_nil]; exact k
  | d :: ds, _, _, _, h, k => by
    obtain ⟨y, r, e1, h1, h2⟩ := h.of_cons
    subst e1
    exact .cons h1 (Reps.append h2 k)
theorem Reps.take : ∀ {ds : List PyData} {xs : List V} (n : Nat), Reps S H ds xs → Reps S H (ds.take n) (xs.take n)
  | _, _, 0, _ => .nil
  | [], _, n + 1, h => by rw [h.of_nil]; exact .nil
  | d :: ds, _, n + 1, h => by
    obtain ⟨y, r, e1, h1, h2⟩ := h.of_cons
    subst e1
    exact .cons h1 (Reps.take n h2)
theorem Reps.drop : ∀ {ds : List PyData} {xs : List V} (n : Nat), Reps S H ds xs → Reps S H (ds.drop n) (xs.drop n)
  | _, _, 0, h => h
  | [], _, n + 1, h => by rw [h.of_nil]; exact .nil
  | d :: ds, _, n + 1, h => by
    obtain ⟨y, r, e1, h1, h2⟩ := h.of_cons
    subst e1
    exact Reps.drop n h2
theorem Reps.eraseIdx : ∀ {ds : List PyData} {xs : List V} (n : Nat), Reps S H ds xs → Reps S H (ds.eraseIdx n) (xs.eraseIdx n)
  | [], _, n, h => by rw [h.of_nil]; exact .nil
  | d :: ds, _, 0, h => by
    obtain ⟨y, r, e1, h1, h2⟩ := h.of_cons
    subst e1
    exact h2
  | d :: ds, _, n + 1, h => by
    obtain ⟨y, r, e1, h1, h2⟩ := h.of_cons
    subst e1
    exact .cons h1 (Reps.eraseIdx n h2)
theorem Reps.ints : ∀ (ns : List Int), Reps S H (ns.map PyData.int) (ns.map V.int)
  | [] => .nil
  | n :: ns => .cons (by unfold Rep; rfl) (Reps.ints ns)
theorem Rep.tup {a : Addr} {xs : List V} {ds : List PyData} (h : H a = some (.tup xs)) (r : Reps S H ds xs) : Rep S H (.tuple ds) (.ref a) := by unfold Rep; exact ⟨a, xs, rfl, h, r⟩
theorem Rep.lst {a : Addr} {xs : List V} {ds : List PyData} (h : H a = some (.lst xs)) (hs : a ∉ S) (r : Reps S H ds xs) : Rep S H (.list ds) (.ref a) := by unfold Rep; exact ⟨a, xs, rfl, h, hs, r⟩
theorem Rep.int (i : Int) : Rep S H (.int i) (.int i) := by unfold Rep; rfl
theorem Rep.bl (b : Bool) : Rep S H (.bool b) (.bl b) := by unfold Rep; rfl
theorem Rep.non : Rep S H .none .non := by unfold Rep; rfl
theorem Rep.str (x : Str) : Rep S H (.str x) (.str x) := by unfold Rep; rfl
theorem Rep.of_tup {ds : List PyData} {v : V} (h : Rep S H (.tuple ds) v) : ∃ a xs, v = .ref a ∧ H a = some (.tup xs) ∧ Reps S H ds xs := by unfold Rep at h; exact h
theorem Rep.of_lst {ds : List PyData} {v : V} (h : Rep S H (.list ds) v) : ∃ a xs, v = .ref a ∧ H a = some (.lst xs) ∧ a ∉ S ∧ Reps S H ds xs := by unfold Rep at h; exact h
theorem Rep.of_int {i : Int} {v : V} (h : Rep S H (.int i) v) : v = .int i := by unfold Rep at h; exact h
theorem Rep.of_bl {b : Bool} {v : V} (h : Rep S H (.bool b) v) : v = .bl b := by unfold Rep at h; exact h
theorem Rep.of_str {x : Str} {v : V} (h : Rep S H (.str x) v) : v = .str x := by unfold Rep at h; exact h
theorem Rep.of_non {v : V} (h : Rep S H .none v) : v = .non := by unfold Rep at h; exact h
end

/-! ### data is read by the model -/
mutual
theorem Rep.reads {P : Program} {w : World} {S : List Addr} {H : Hp} {h : Heap} (ok : HOk P w H h) : ∀ {d : PyData} {v : V} {u : Value}, Rep S H d v → RelV v u → ∃ as, Reads h u d as
  | .none, v, u, r, q => by cases r.of_non; cases (show u = Value.none from q); exact ⟨_, .none⟩
  | .bool b, v, u, r, q => by cases r.of_bl; cases (show u = Value.bool b from q); exact ⟨_, .bool b⟩
  | .int i, v, u, r, q => by cases r.of_int; obtain ⟨t, e⟩ := (show ∃ t, u = Value.int i t from q); cases e; exact ⟨_, .int i t⟩
  | .str x, v, u, r, q => by cases r.of_str; obtain ⟨t, e⟩ := (show ∃ t, u = Value.str x t from q); cases e; exact ⟨_, .str x t⟩
  | .tuple ds, v, u, r, q => by
    obtain ⟨a, xs, rfl, ha, hr⟩ := r.of_tup
    cases (show u = Value.ref a from q)
    obtain ⟨_, its, rv, o, e, c, n, d⟩ := ok a _ ha
    obtain ⟨as, ra⟩ := Reps.reads ok hr rv
    exact ⟨_, .tuple e c d (by simpa using ra)⟩
  | .list ds, v, u, r, q => by
    obtain ⟨a, xs, rfl, ha, _, hr⟩ := r.of_lst
    cases (show u = Value.ref a from q)
    obtain ⟨_, its, n, rv, e⟩ := ok a _ ha
    obtain ⟨as, ra⟩ := Reps.reads ok hr rv
    exact ⟨_, .list e rfl rfl (by simpa using ra)⟩
  | .dict _, v, u, r, q => by unfold Rep at r; exact r.elim
theorem Reps.reads {P : Program} {w : World} {S : List Addr} {H : Hp} {h : Heap} (ok : HOk P w H h) : ∀ {ds : List PyData} {xs : List V} {us : List Value}, Reps S H ds xs → Vals xs us → ∃ as, ReadsAll h us ds as
  | [], xs, us, r, q => by
    cases r.of_nil
    cases q
    exact ⟨_, .nil⟩
  | d :: ds, xs, us, r, q => by
    obtain ⟨x, t, rfl, h1, h2⟩ := r.of_cons
    cases q with
    | cons q1 q2 =>
      obtain ⟨as, a1⟩ := Rep.reads ok h1 q1
      obtain ⟨bs, b1⟩ := Reps.reads ok h2 q2
      exact ⟨_, .cons a1 b1⟩
end

/-! ### what is good to show and to compare -/
structure Good (d : PyData) : Prop where
  lay : d.canLay0 = true
  show' : d.showable = true
  short : d.leavesShort 60 = true
  deep : d.depth ≤ 60
  light : d.weight ≤ 200000
theorem Good.nodict {d : PyData} (g : Good d) : d.hasDict = false := PyData.hasDict_of_canLay d g.lay
theorem Good.fits {d : PyData} (g : Good d) : d.shown.length ≤ sizeLine := by
  have h := PyData.shown_le 60 (by decide) d g.short
  have h2 := g.light
  rw [sizeLine_eq]
  omega

section
variable {X : Cx} {k : Nat}
theorem call_reprD (hr : Room k X.A) : CallR X (.builtin "repr") (fun xs H Q => ∃ S d v, xs = [v] ∧ Rep S H d v ∧ Good d ∧ Q (.str d.shown) H) := by
  intro pins s σ H xs us Q I r h
  obtain ⟨S, d, v, rfl, rp, g, q⟩ := h
  obtain ⟨u, rfl, ru⟩ := vals1 r
  have hun := hr.units
  have fin : ∀ (h' : Heap) (t : Tok) (tk : Nat), (∀ b o, s.heap.get? b = some o → h'.get? b = some o) → EP X pins σ Q (.str d.shown t) { s with heap := h', toks := tk } := fun h' t tk kp => ⟨.str d.shown, H, I.kept kp, ⟨t, rfl⟩, q⟩
  have fin0 : ∀ (t : Tok) (tk : Nat), EP X pins σ Q (.str d.shown t) { s with toks := tk } := fun t tk => fin s.heap t tk fun _ _ e => e
  cases d with
  | none => cases rp.of_non; cases (show u = Value.none from ru); exact P.repr_of_none (fin0 _ _)
  | bool b => cases rp.of_bl; cases (show u = Value.bool b from ru); exact P.repr_of_bool (fin0 _ _)
  | int i => cases rp.of_int; obtain ⟨t, e⟩ := (show ∃ t, u = Value.int i t from ru); cases e; exact P.repr_of_int (by simpa [PyData.showable] using g.show') (fin0 _ _)
  | str x => cases rp.of_str; obtain ⟨t, e⟩ := (show ∃ t, u = Value.str x t from ru); cases e; exact P.repr_of_str (fin0 _ _) g.fits
  | tuple ds =>
    obtain ⟨as, ra⟩ := rp.reads I.hok ru
    obtain ⟨a, xs, rfl, _⟩ := rp.of_tup
    cases (show u = Value.ref a from ru)
    exact repr_of_reads' ra g.show' (PyData.noDict_hsm g.nodict) hr.gd (by have := g.deep; omega) (fun _ _ e => e) (fun h' t tk kp => fin h' t tk kp) g.fits
  | list ds =>
    obtain ⟨as, ra⟩ := rp.reads I.hok ru
    obtain ⟨a, xs, rfl, _⟩ := rp.of_lst
    cases (show u = Value.ref a from ru)
    exact repr_of_reads' ra g.show' (PyData.noDict_hsm g.nodict) hr.gd (by have := g.deep; omega) (fun _ _ e => e) (fun h' t tk kp => fin h' t tk kp) g.fits
  | dict _ => unfold Rep at rp; exact rp.elim
/-- data compared -/
def rEqD (neg : Bool) : R2 := fun x y H Q => ∃ S dx dy, Rep S H dx x ∧ Rep S H dy y ∧ dx.canLay0 = true ∧ dy.canLay0 = true ∧ dx.depth ≤ 60 ∧ Q (.bl (if neg then !PyData.eqv dx dy else PyData.eqv dx dy)) H
theorem op_eqD (hr : Room k X.A) : OpR X (compareOp .Eq) (rEqD false) := by
  intro pins s σ H x y v u Q I rx ry h
  obtain ⟨S, dx, dy, h1, h2, c1, c2, d1, q⟩ := h
  obtain ⟨as, ra⟩ := h1.reads I.hok rx
  obtain ⟨bs, rb⟩ := h2.reads I.hok ry
  have hun := hr.units
  exact SeqAt.compareEq_reads ra rb c1 c2 (by omega) ⟨.bl _, H, I, rfl, q⟩
theorem op_neD (hr : Room k X.A) : OpR X (compareOp .NotEq) (rEqD true) := by
  intro pins s σ H x y v u Q I rx ry h
  obtain ⟨S, dx, dy, h1, h2, c1, c2, d1, q⟩ := h
  obtain ⟨as, ra⟩ := h1.reads I.hok rx
  obtain ⟨bs, rb⟩ := h2.reads I.hok ry
  have hun := hr.units
  exact SeqAt.compareNe_reads ra rb c1 c2 (by omega) ⟨.bl _, H, I, rfl, q⟩

/-! ### isinstance against a built-in type -/
theorem call_isi : CallR X (.builtin "isinstance") (fun xs H Q => ∃ x t c b, xs = [x, .ty c] ∧ TyOf X.K H x (.type t) ∧ PySem.W.kitOne X.K (.type t) (.type c) = some b ∧ Q (.bl b) H) := by
  intro pins s σ H xs us Q I r h
  obtain ⟨x, t, c, b, rfl, ty, e, q⟩ := h
  obtain ⟨u, u2, rfl, rx, rc⟩ := vals2 r
  cases (show u2 = Value.type c from rc)
  exact isinst_ok I rx ty e fun tk => ⟨.bl b, H, I.tok tk, rfl, q⟩
end

/-- the type of data -/
def tyD : PyData → String
  | .none => "NoneType"
  | .bool _ => "bool"
  | .int _ => "int"
  | .str _ => "str"
  | .list _ => "list"
  | .tuple _ => "tuple"
  | .dict _ => "dict"
theorem Rep.ty {K : PySem.W.Frag} {S : List Addr} {H : Hp} {d : PyData} {v : V} (h : Rep S H d v) : TyOf K H v (.type (tyD d)) := by
  cases d with
  | none => cases h.of_non; exact .non
  | bool b => cases h.of_bl; exact .bl b
  | int i => cases h.of_int; exact .int i
  | str x => cases h.of_str; exact .str x
  | tuple ds => obtain ⟨a, xs, rfl, ha, _⟩ := h.of_tup; exact .tup ha
  | list ds => obtain ⟨a, xs, rfl, ha, _⟩ := h.of_lst; exact .lst ha
  | dict _ => unfold Rep at h; exact h.elim
end L2

set_option Elab.async false
set_option linter.all false
set_option maxRecDepth 100000
/-! Rules of our own: ranges as values, tuple(range), slices of tuples, sums of tuples, insert, min and max of a tuple. -/
namespace PySem
open Sem (wp)
open AutoSeq1 (wpAny_loadPart')
section
variable {prog : Program} {w : World} {A : Around} {E : Value → Shared → Prop} {s : Shared}
end
end PySem
namespace L2
open PySem PySem.Spec PyProof.Rows
/-! ### ranges as values -/
section
variable {X : Cx}
/-! ### insert -/
def rInsert : V → List V → Hp → VK → Prop := fun x vs H Q => ∃ l xs i y, x = .ref l ∧ vs = [.int i, y] ∧ H l = some (.lst xs) ∧ xs.length < sizeLine ∧ 0 ≤ i ∧ i < 2 ^ 62 ∧ Q .non (upd H l (.lst (xs.take i.toNat ++ y :: xs.drop i.toNat)))
theorem mt_insert : MtM X "list.insert" rInsert := by
  intro pins s σ H x vs v us Q I rx rv h
  obtain ⟨l, xs, i, y, rfl, rfl, hH, hz, h0, h1, q⟩ := h
  cases rx
  obtain ⟨u, u2, rfl, ⟨t, e1⟩, ru⟩ := rv.two
  subst e1
  obtain ⟨z, its, n, r, hl, e⟩ := I.lstM hH
  refine call_meets F.slot_list_insert ⟨_, e, rfl⟩ F.entry_list_insert (F.args_list_insert_3 _ _ _) (AutoSeq1.list_insert_list_int_val_1 l its.toArray n i t u2 (by rw [fitsIndex_both (by omega) (by omega)]; decide) (by rw [List.size_toArray]; omega)) ⟨e, ?_⟩
  refine ⟨.non, _, I.lset (its' := its.take i.toNat ++ u2 :: its.drop i.toNat) hH e ?_ ((r.take i.toNat).append (.cons ru (r.drop i.toNat))) ?_, rfl, q⟩
  · have hi : ¬ i < 0 := by omega
    simp only [if_neg hi, List.size_toArray]
    apply Array.ext'
    simp
    by_cases hc : i.toNat ≤ its.length
    · rw [Nat.min_eq_left hc, show (its.drop i.toNat).take (its.length - i.toNat) = its.drop i.toNat from List.take_of_length_le (by rw [List.length_drop]; exact Nat.le_refl _)]
    · rw [Nat.min_eq_right (by omega)]
      simp [List.take_of_length_le (show its.length ≤ i.toNat by omega), List.drop_of_length_le (show its.length ≤ i.toNat by omega)]
  · rw [List.length_append, List.length_take, List.length_cons, List.length_drop]
    omega
end

/-! ### short words -/
section
variable {X : Cx}
theorem pe_ty (T : String) {x : Str} {pos : Pos} (hg : Gl X x) (hm : X.mg x = none) (hv : bootBuiltins x = some (.type T)) (hn : x ≠ "__name__" := by decide) (hd : (x == ("__debug__" : Str)) = false := by decide) : PE X (.Name x pos) (tC (.ty T)) := pe_bltn hg hm hv rfl hn hd
/-- a statement, then what holds behind it, then the rest -/
def tCut (t u : TS) : TS := fun D σ H => ∃ M : St → Hp → Prop, t { D with nx := M } σ H ∧ ∀ σ' H', M σ' H' → u D σ' H'
theorem pss_cut {st : Stmt} {rest : List Stmt} {t u : TS} (h1 : PS X st t) (h2 : PSs X rest u) : PSs X (st :: rest) (tCut t u) := by
  intro pins s σ H D I h
  obtain ⟨M, q, k⟩ := h
  refine wpAny_execs_cons (thn (h1 pins s σ H { D with nx := M } I q) fun f s1 e => ?_)
  cases f with
  | next => obtain ⟨σ1, H1, I1, m1⟩ := e; exact h2 pins s1 σ1 H1 D I1 (k σ1 H1 m1)
  | brk => exact e
  | cont => exact e
  | ret u => exact e
theorem atI_ex {α : Type} {xs : List α} {i : Int} (h0 : 0 ≤ i) (h1 : i < xs.length) : ∃ v, atI xs i = some v ∧ xs[i.toNat]? = some v := by
  have hlt : i.toNat < xs.length := by omega
  refine ⟨xs[i.toNat], ?_, by simp [hlt]⟩
  unfold atI ixN
  rw [if_pos h0, if_pos h1]
  simp [hlt]
end

/-! ### argument lists, looked at quickly -/
def notStar : Expr → Bool
  | .Starred .. => false
  | _ => true
theorem starEach_ns {e : Expr} {es : List Expr} {env : Env} (h : notStar e = true) : starEach (e :: es) env = (false, eval e env) :: starEach es env := by
  cases e <;> first | rfl | cases h
theorem backTo_ns {pos : Pos} {env : Env} : ∀ {es : List Expr}, es.all notStar = true → (backTo pos (starEach es env)).any (·.1) = false
  | [], _ => rfl
  | e :: es, h => by
    rw [List.all_cons, Bool.and_eq_true] at h
    rw [starEach_ns h.1]
    show (backTo pos ((false, eval e env) :: starEach es env)).any (·.1) = false
    have ih := backTo_ns (pos := pos) (env := env) h.2
    show (false || (backTo pos (starEach es env)).any (·.1)) = false
    rw [ih]
    rfl
theorem backTo_all {pos : Pos} {env : Env} : ∀ {es : List Expr}, es.all notStar = true → (backTo pos (starEach es env)).all (fun x => !x.1) = true
  | [], _ => rfl
  | e :: es, h => by
    rw [List.all_cons, Bool.and_eq_true] at h
    rw [starEach_ns h.1]
    have ih := backTo_all (pos := pos) (env := env) h.2
    show (true && (backTo pos (starEach es env)).all (fun x => !x.1)) = true
    rw [ih]
    rfl
theorem ns_hd {e : Expr} {es : List Expr} (h : (e :: es).all notStar = true) : notStar e = true ∧ es.all notStar = true := by
  rw [List.all_cons, Bool.and_eq_true] at h
  exact h
end L2

set_option Elab.async false
set_option linter.all false
set_option maxRecDepth 100000
/-! The judgements as structures (so that no elaborator unfolds them), and the rules over them: q.. for p... -/
namespace L2
open PySem PySem.Spec PyProof.Rows
structure QE (X : Cx) (e : Expr) (t : TE) : Prop where run : PE X e t
structure QT (X : Cx) (e : Expr) (t : TT) : Prop where run : PT X e t
structure QW (X : Cx) (e : Expr) (t : TT) : Prop where run : PW X e t
structure QA (X : Cx) (es : List Expr) (t : TA) : Prop where
  run : PA X es t
  ns : es.all notStar = true
structure QS (X : Cx) (st : Stmt) (t : TS) : Prop where run : PS X st t
structure QSs (X : Cx) (st : List Stmt) (t : TS) : Prop where run : PSs X st t
structure QG (X : Cx) (e : Expr) (t : TG) : Prop where run : PG X e t
structure QGs (X : Cx) (es : List Expr) (t : TGs) : Prop where run : PGs X es t
structure QI (X : Cx) (tg iter : Expr) (t : TI) : Prop where run : PI X tg iter t
structure QO (X : Cx) (e : Option Expr) (t : TO) : Prop where run : PO X e t
structure QK (X : Cx) (ifs : List Expr) (t : TT) : Prop where run : PCk X ifs t
section
variable {X : Cx} {a b c e o i' tg iter elt : Expr} {es : List Expr} {ta tb tc te to ti : TE} {tA tB' : TT} {t : TA} {pos p apos cpos p2 : Pos} {k : Nat} {x name : Str} {ps : List Str} {sp : Sp} {id T : String} {rest : List Expr}
theorem qv (i : Nat) {x : Str} {pos : Pos} (hN : X.N[i]? = some x := by rfl) (hv : Vis X.env.scope x := by first | exact Or.inl rfl | exact Or.inr (Or.inl rfl) | exact Or.inr (Or.inr rfl)) (hd : (x == ("__debug__" : Str)) = false := by decide)
    (hcd : (x == ("__classdict__" : Str)) = false := by decide) : QE X (.Name x pos) (tVar i) := ⟨pe_var hN hv hd hcd⟩
theorem qe_int {i j pos} : QE X (.Constant (.int i) j pos) (tC (.int i)) := ⟨pe_int⟩
theorem qe_bl {b j pos} : QE X (.Constant (.bool b) j pos) (tC (.bl b)) := ⟨pe_bl⟩
theorem qe_non {j pos} : QE X (.Constant .none j pos) (tC .non) := ⟨pe_non⟩
theorem qe_ty (T : String) {x : Str} {pos : Pos} (hg : Gl X x) (hm : X.mg x = none) (hv : bootBuiltins x = some (.type T)) (hn : x ≠ "__name__" := by decide) (hd : (x == ("__debug__" : Str)) = false := by decide) : QE X (.Name x pos) (tC (.ty T)) := ⟨pe_ty T hg hm hv hn hd⟩
theorem qe_op {op : Operator} {r : R2} (ho : OpR X (binaryOp op) r) (ha : QE X a ta) (hb : QE X b tb) : QE X (.BinOp a op b pos) (tOp r ta tb) := ⟨pe_op ho ha.run hb.run⟩
theorem qe_un {op : UnaryOp} {r : V → Hp → VK → Prop} (ho : UnR X (unaryOp op) r) (ha : QE X a ta) : QE X (.UnaryOp op a pos) (tUn r ta) := ⟨pe_un ho ha.run⟩
theorem qe_cmpR {op : CmpOp} {r : R2} (ho : OpR X (compareOp op) r) (ha : QE X a ta) (hb : QE X b tb) (hm : behindInMarks op b = false) : QE X (.Compare a [op] [b] pos) (tOp r ta tb) := ⟨pe_cmpR ho ha.run hb.run hm⟩
theorem qt_cmpR {op : CmpOp} {r : R2} (ho : OpR X (compareOp op) r) (ha : QE X a ta) (hb : QE X b tb) (hm : behindInMarks op b = false) : QT X (.Compare a [op] [b] pos) (tTest (tOp r ta tb)) := ⟨pt_cmpR ho ha.run hb.run hm⟩
theorem qe_chain {op op' : CmpOp} {r r' : R2} (ho : OpR X (compareOp op) r) (ho' : OpR X (compareOp op') r') (ha : QE X a ta) (hb : QE X b tb) (hc : QE X c tc)
    (hm : lastMarks [op, op'] [b, c] = false := by with_unfolding_all rfl) : QE X (.Compare a [op, op'] [b, c] pos) (tChain r r' ta tb tc) := ⟨pe_chain ho ho' ha.run hb.run hc.run hm⟩
theorem qt_val (h : QE X e te) (he : ∀ whole, isTrue e X.env whole = (do let v ← whole; standAt e.pos; holding [v] (truthy v)) := by intro _; rfl) : QT X e (tB te) := ⟨pt_val h.run he⟩
theorem qw_and1 (ha : QT X a tA) : QW X (.BoolOp .And [a] pos) tA := ⟨pw_and1 ha.run⟩
theorem qw_or1 (ha : QT X a tA) : QW X (.BoolOp .Or [a] pos) tA := ⟨pw_or1 ha.run⟩
theorem qw_and (ha : QT X a tA) (hb : QW X (.BoolOp .And (b :: rest) pos) tB') : QW X (.BoolOp .And (a :: b :: rest) pos) (tAnd tA tB') := ⟨pw_and ha.run hb.run⟩
theorem qw_or (ha : QT X a tA) (hb : QW X (.BoolOp .Or (b :: rest) pos) tB') : QW X (.BoolOp .Or (a :: b :: rest) pos) (tOr tA tB') := ⟨pw_or ha.run hb.run⟩
theorem QW.pt (h : QW X e tA) : QT X e tA := ⟨h.run.pt⟩
theorem qt_not (ha : QT X a tA) : QT X (.UnaryOp .Not a pos) (tNot tA) := ⟨pt_not ha.run⟩
theorem qe_one {op} (h : QE X a ta) : QE X (.BoolOp op [a] pos) ta := ⟨pe_one h.run⟩
theorem qe_and (ha : QE X a ta) (hb : QE X (.BoolOp .And (b :: rest) pos) tb) : QE X (.BoolOp .And (a :: b :: rest) pos) (tAndV ta tb) := ⟨pe_and ha.run hb.run⟩
theorem qe_or (ha : QE X a ta) (hb : QE X (.BoolOp .Or (b :: rest) pos) tb) : QE X (.BoolOp .Or (a :: b :: rest) pos) (tOrV ta tb) := ⟨pe_or ha.run hb.run⟩
theorem qe_not (ha : QE X a ta) : QE X (.UnaryOp .Not a pos) (tNotV ta) := ⟨pe_not ha.run⟩
theorem qe_ifExp (hc : QT X c tA) (ha : QE X a ta) (hb : QE X b tb) : QE X (.IfExp c a b pos) (tIf tA ta tb) := ⟨pe_ifExp hc.run ha.run hb.run⟩
theorem qa_nil : QA X [] tNil := ⟨pa_nil, rfl⟩
theorem qa_c (ha : QE X e te) (hr : QA X es t) (hs : notStar e = true := by rfl) : QA X (e :: es) (tCons te t) := ⟨pa_cons ha.run hr.run (starEach_ns hs), by rw [List.all_cons, hs, hr.ns]; rfl⟩
theorem qe_lst (h : QA X es t) : QE X (.List es pos) (tLst t) := ⟨pe_lst h.run⟩
theorem qe_tup {x1} (h : QA X es t) : QE X (.Tuple es x1 pos) (tTup t) := ⟨pe_tup h.run⟩
theorem qe_ix {r : R2} (hr : IxR X r) (ha : QE X a ta) (hb : QE X b tb) (hs : PlainIx b) : QE X (.Subscript a b pos) (tOp r ta tb) := ⟨pe_ix hr ha.run hb.run hs⟩
theorem qo_none : QO X none tNoPart := ⟨po_none⟩
theorem qo_some (h : QE X e te) : QO X (some e) (tPart te) := ⟨po_some h.run⟩
theorem qe_slice {r : V → Option Int → Option Int → Hp → VK → Prop} {lo hi : Option Expr} {tl th : TO} (hr : SlR X r) (he : QE X e te) (hl : QO X lo tl) (hu : QO X hi th) : QE X (.Subscript e (.Slice lo hi none p2) pos) (tSl r te tl th) := ⟨pe_slice hr he.run hl.run hu.run⟩
theorem qe_callD (D : DefOk X.prog X.w X.K X.mg X.base k x ps sp) (hr : Room k X.A) (ha : QA X (e :: es) t) (hg : Gl X x := by rfl) (hdb : (x == ("__debug__" : Str)) = false := by decide) :
    QE X (.Call (.Name x p) (e :: es) [] pos) (tCallD sp t) := ⟨pe_callD D hr ha.run hg hdb (starEach_ns (ns_hd ha.ns).1) (backTo_ns (ns_hd ha.ns).2)⟩
theorem qe_callB {r : List V → Hp → VK → Prop} (hc : CallR X (.builtin id) r) (hg : Gl X x) (hm : X.mg x = none) (hv : bootBuiltins x = some (.builtin id)) (ha : QA X (e :: es) t) (hn : x ≠ "__name__" := by decide) (hdb : (x == ("__debug__" : Str)) = false := by decide) :
    QE X (.Call (.Name x p) (e :: es) [] pos) (tCB r t) := ⟨pe_callB hc hg hm hv ha.run hn hdb (starEach_ns (ns_hd ha.ns).1) (backTo_ns (ns_hd ha.ns).2)⟩
theorem qe_callTy {r : List V → Hp → VK → Prop} (hc : CallR X (.type T) r) (hg : Gl X x) (hm : X.mg x = none) (hv : bootBuiltins x = some (.type T)) (ha : QA X (e :: es) t) (hn : x ≠ "__name__" := by decide) (hdb : (x == ("__debug__" : Str)) = false := by decide) :
    QE X (.Call (.Name x p) (e :: es) [] pos) (tCB r t) := ⟨pe_callTy hc hg hm hv ha.run hn hdb (starEach_ns (ns_hd ha.ns).1) (backTo_ns (ns_hd ha.ns).2)⟩
theorem qe_bm {r : V → List V → Hp → VK → Prop} (pa : PlainAttrs T) (slot : Slot T name id) (hty : typeOf (.builtin id) = pure (.type "method_descriptor")) (hm : MtR X id r) (ho : QE X o to) (ha : QA X (e :: es) t)
    (hbase : attributeBase o name X.env (eval o X.env) = eval o X.env := by rfl) (hl : decide ((e :: es).length + 0 + 0 < 30) = true := by rfl)
    (hline : (apos.endLine == cpos.line) = true := by rfl) : QE X (.Call (.Attribute o name apos) (e :: es) [] cpos) (tBM X.K T r to t) := by
  refine ⟨pe_bm pa slot hty hm ho.run ha.run hbase ?_ hline (starEach_ns (ns_hd ha.ns).1) (backTo_ns (ns_hd ha.ns).2)⟩
  rw [backTo_all ha.ns]
  exact hl
/-! targets, iterators -/
theorem qg_name {i : Nat} {x : Str} (hN : X.N.Nodup) (hi : X.N[i]? = some x) (hx : Loc X.env.scope x) (hf : X.fn x = true ∨ X.env.scope.names.lookup x = some .local := by first | exact .inl rfl | exact .inr rfl | assumption) : QG X (.Name x pos) (gName i) := ⟨pg_name hN hi hx hf⟩
theorem qgs_nil : QGs X [] gNil := ⟨pgs_nil⟩
theorem qgs_cons {tt : TG} {u : TGs} (h1 : QG X e tt) (h2 : QGs X es u) (hs : (assignEach (e :: es) X.env).map (·.2) = assign e X.env :: (assignEach es X.env).map (·.2) := by rfl) : QGs X (e :: es) (gCons tt u) := ⟨pgs_cons h1.run h2.run hs⟩
theorem qg_tup {k n : Nat} {tt : TGs} (hc : X.calm = true) (h : QGs X es tt) (hn : (assignEach es X.env).length = n := by rfl) (hst : (assignEach es X.env).findIdx? (·.1) = none := by rfl) : QG X (.Tuple es k pos) (gTup X.K n tt) := ⟨pg_tup hc h.run hn hst⟩
theorem qg_sub {tt : TSet} (ho : QE X o to) (hi : QE X i' ti) (hs : PSet X tt)
    (ha : ∀ v, assign (.Subscript o i' pos) X.env v = (do
      let ov ← holding [v] (eval o X.env)
      let iv ← holding [v, ov] (eval i' X.env)
      standAt pos
      holding [v, ov, iv] (setItem ov iv v)
      release [v, ov, iv] []) := by intro _; rfl) : QG X (.Subscript o i' pos) (gSub to ti tt) := ⟨pg_sub ho.run hi.run hs ha⟩
theorem qi_list (hl : QE X a ta) : QI X tg a (iList X.K ta) := ⟨pi_list hl.run⟩
theorem qi_tup (hl : QE X a ta) : QI X tg a (iTup X.K ta) := ⟨pi_tup hl.run⟩
theorem qi_range1 (hg : Gl X "range") (hm : X.mg "range" = none) (ha : QA X [a] t) : QI X tg (.Call (.Name "range" p) [a] [] pos) (iRng1 t) := ⟨pi_range1 hg hm ha.run (starEach_ns (ns_hd ha.ns).1)⟩
theorem qk_nil : QK X [] tTrue := ⟨pk_nil1⟩
theorem qk_one (h : QT X c tA) : QK X [c] tA := ⟨pk_one1 h.run⟩
/-! statements -/
variable {st : Stmt} {sts body els : List Stmt} {ts us : TS} {ifs : List Expr} {sc : Scope} {N : List Str} {mp : List (Option Nat)} {wi : TI} {g : TG}
theorem qss_nil : QSs X [] tNext := ⟨pss_nil⟩
theorem qss_cons (h1 : QS X st ts) (h2 : QSs X sts us) : QSs X (st :: sts) (tSeq ts us) := ⟨pss_cons h1.run h2.run⟩
theorem qss_cut (h1 : QS X st ts) (h2 : QSs X sts us) : QSs X (st :: sts) (tCut ts us) := ⟨pss_cut h1.run h2.run⟩
theorem qss_one (h1 : QS X st ts) : QSs X [st] ts := ⟨pss_one h1.run⟩
theorem qs_expr (he : QE X e te) (hs : swapsWith e none pos.line X.env = pure false := by rfl) : QS X (.Expr e pos) (tDrop te) := ⟨ps_expr he.run hs⟩
theorem qs_ret (he : QE X e te) : QS X (.Return (some e) pos) (tRet te) := ⟨ps_ret he.run⟩
theorem qs_if (hc : QT X c tA) (ha : QSs X body ts) (hb : QSs X els us) : QS X (.If c body els pos) (tIfS tA ts us) := ⟨ps_if hc.run ha.run hb.run⟩
theorem qs_set {i : Nat} {x : Str} {pos' : Pos} (hN : X.N.Nodup) (hi : X.N[i]? = some x) (hx : Loc X.env.scope x) (he : QE X e te) (hs : swapsWith e (some (.Name x pos')) pos.line X.env = pure false := by rfl)
    (hf : X.fn x = true ∨ X.env.scope.names.lookup x = some .local := by first | exact .inl rfl | exact .inr rfl | assumption) : QS X (.Assign [.Name x pos'] e pos) (tAsg te (gName i)) := ⟨ps_set hN hi hx he.run hs hf⟩
theorem qs_asg (he : QE X e te) (hg : QG X tg g) (hs : swapsWithSole [tg] e pos.line X.env = pure false := by rfl) (hw : swappedStores [tg] e X.env = pure none := by rfl)
    (h1 : (assignEach [tg] X.env).map (·.2) = [assign tg X.env] := by rfl) : QS X (.Assign [tg] e pos) (tAsg te g) := ⟨ps_asg he.run hg.run hs hw h1⟩
theorem qs_for (hp : PassesOwn (model X.prog X.w) X.A X.env X.xe) (hc : X.calm = true) (hi : QI X tg iter wi) (hg : QG X tg g) (hb : QSs X body ts) (hs : ∀ x, foldedSetIterable iter X.env x = pure x := by intro _; rfl) :
    QS X (.For tg iter body [] pos) (tFor wi g ts) := ⟨ps_for hp hc hi.run hg.run hb.run hs⟩
theorem qs_while (hp : PassesOwn (model X.prog X.w) X.A X.env X.xe) (hc : QT X c tA) (hb : QSs X body ts) : QS X (.While c body [] pos) (tWhile tA ts) := ⟨ps_while hp hc.run hb.run⟩
theorem qe_comp (hc : X.calm = true) (hi : QI X tg iter wi) (hk : sc.kind = .function) (hm : compOk X.N X.env.scope sc N mp = true)
    (hb : ∀ (cl : List (Str × Addr)) (C : Addr) (s₂ : Shared) (H₂ : Hp) (fp : List Addr), QG (cxComp X sc N cl C s₂ H₂ fp) tg g ∧ QK (cxComp X sc N cl C s₂ H₂ fp) ifs tA ∧ QE (cxComp X sc N cl C s₂ H₂ fp) elt te)
    (hs : ∀ x, foldedSetIterable iter X.env x = pure x := by intro _; rfl) : QE X (.ListComp elt [⟨tg, iter, ifs, 0⟩] sc pos) (tCompE (tComp wi mp g tA te)) :=
  ⟨pe_comp hc hi.run hk hm (fun cl C s₂ H₂ fp => ⟨(hb cl C s₂ H₂ fp).1.run, (hb cl C s₂ H₂ fp).2.1.run, (hb cl C s₂ H₂ fp).2.2.run⟩) hs⟩
theorem qs_comp {i : Nat} {x : Str} {py spos : Pos} (hN : X.N.Nodup) (hix : X.N[i]? = some x) (hx : X.env.scope.names.lookup x = some .local) (hc : X.calm = true) (hi : QI X tg iter wi) (hk : sc.kind = .function) (hm : compOk X.N X.env.scope sc N mp = true)
    (hb : ∀ (cl : List (Str × Addr)) (C : Addr) (s₂ : Shared) (H₂ : Hp) (fp : List Addr), QG (cxComp X sc N cl C s₂ H₂ fp) tg g ∧ QK (cxComp X sc N cl C s₂ H₂ fp) ifs tA ∧ QE (cxComp X sc N cl C s₂ H₂ fp) elt te)
    (hsw : swapsWith (.ListComp elt [⟨tg, iter, ifs, 0⟩] sc pos) (some (.Name x py)) spos.line X.env = pure true := by rfl)
    (hs : ∀ x, foldedSetIterable iter X.env x = pure x := by intro _; rfl) : QS X (.Assign [.Name x py] (.ListComp elt [⟨tg, iter, ifs, 0⟩] sc pos) spos) (tCompS i (tComp wi mp g tA te)) :=
  ⟨ps_comp hN hix hx hc hi.run hk hm (fun cl C s₂ H₂ fp => ⟨(hb cl C s₂ H₂ fp).1.run, (hb cl C s₂ H₂ fp).2.1.run, (hb cl C s₂ H₂ fp).2.2.run⟩) hsw hs⟩
end
theorem Fun.okQ {P : Program} {w : World} {K : PySem.W.Frag} {mg : Str → Option Value} {base : Heap} {x qual : Str} {st : Stmt} {f : Addr} {fd : FuncData} {N ps : List Str} {k : Nat} {sp : Sp} (F : Fun K x qual st f fd) (S : FnScope N ps (defScope st)) (len : ∀ vs H Q E, sp vs H Q E → vs.length = ps.length)
    (hbody : ∀ (cdv : Value) (A : Around) (outer : List Env) (s : Shared) (H : Hp) (vs : List V) (Q : VK) (E : XK), Room k (A.deeper (envOfC qual (defScope st) s.heap.objs.size f cdv)) → sp vs H Q E →
      ∃ t, QSs (cxOf CX0 P w K mg base N qual (defScope st) f cdv A outer s H E).nox (defBody st) t ∧ t { nx := fun _ H' => Q .non H', rt := Q } (start N vs) H) : FnOk P w K mg base CX0 (k + 1) f fd ps sp :=
  F.ok S len fun cdv A outer s H vs Q E hr h => let ⟨t, q, r⟩ := hbody cdv A outer s H vs Q E hr h; ⟨t, q.run, r⟩
/-! ### the rules that name the written part: K said outright (a block's own context must not stand in a reading) -/
section
variable {X : Cx} (K : PySem.W.Frag)
theorem ixT (h : X.K = K := by rfl) : IxR X (rIxT K) := by subst h; exact ix_tup
theorem ixL (h : X.K = K := by rfl) : IxR X (rIxL K) := by subst h; exact ix_list
theorem slL (h : X.K = K := by rfl) : SlR X (rSlL K) := by subst h; exact sl_list
theorem lenK (h : X.K = K := by rfl) : CallR X (.builtin "len") (fun xs H Q => ∃ p ys, xs = [.ref p] ∧ (SqL K H p ys ∨ SqT K H p ys) ∧ Q (.int ys.length) H) := by subst h; exact call_len_seq
theorem isiK (h : X.K = K := by rfl) : CallR X (.builtin "isinstance") (fun xs H Q => ∃ x t c b, xs = [x, .ty c] ∧ TyOf K H x (.type t) ∧ PySem.W.kitOne K (.type t) (.type c) = some b ∧ Q (.bl b) H) := by subst h; exact call_isi
theorem inK (h : X.K = K := by rfl) : OpR X (compareOp .In) (rIn K false) := by subst h; exact op_in_seq
theorem ninK (h : X.K = K := by rfl) : OpR X (compareOp .NotIn) (rIn K true) := by subst h; exact op_notIn_seq
theorem listK (h : X.K = K := by rfl) : CallR X (.type "list") (fun xs H Q => ∃ p ys, xs = [.ref p] ∧ (SqL K H p ys ∨ SqT K H p ys) ∧ ∀ l, H l = none → Q (.ref l) (upd H l (.lst ys))) := by subst h; exact call_list_of
theorem tupleK (h : X.K = K := by rfl) : CallR X (.type "tuple") (fun xs H Q => ∃ p ys, xs = [.ref p] ∧ ((SqL K H p ys ∧ ∀ l, H l = none → Q (.ref l) (upd H l (.tup ys))) ∨ (SqT K H p ys ∧ Q (.ref p) H))) := by subst h; exact call_tuple_of
variable {a o e tg : Expr} {es : List Expr} {ta to : TE} {t : TA} {apos cpos : Pos} {name : Str} {id T : String}
theorem qi_listK (hl : QE X a ta) (h : X.K = K := by rfl) : QI X tg a (iList K ta) := by subst h; exact qi_list hl
theorem qi_tupK (hl : QE X a ta) (h : X.K = K := by rfl) : QI X tg a (iTup K ta) := by subst h; exact qi_tup hl
theorem qe_bmK {r : V → List V → Hp → VK → Prop} (pa : PlainAttrs T) (slot : Slot T name id) (hty : typeOf (.builtin id) = pure (.type "method_descriptor")) (hm : MtR X id r) (ho : QE X o to) (ha : QA X (e :: es) t) (h : X.K = K := by rfl)
    (hbase : attributeBase o name X.env (eval o X.env) = eval o X.env := by rfl) (hl : decide ((e :: es).length + 0 + 0 < 30) = true := by rfl)
    (hline : (apos.endLine == cpos.line) = true := by rfl) : QE X (.Call (.Attribute o name apos) (e :: es) [] cpos) (tBM K T r to t) := by subst h; exact qe_bm pa slot hty hm ho ha hbase hl hline
theorem qg_tupK {k n : Nat} {pos : Pos} {tt : TGs} (hc : X.calm = true) (hh : QGs X es tt) (h : X.K = K := by rfl) (hn : (assignEach es X.env).length = n := by rfl) (hst : (assignEach es X.env).findIdx? (·.1) = none := by rfl) : QG X (.Tuple es k pos) (gTup K n tt) := by subst h; exact qg_tup hc hh hn hst
end
end L2

set_option Elab.async false
set_option linter.all false
set_option maxRecDepth 100000
/-! Slices of tuples: the whole, turned about; sums with an empty tuple. -/
namespace HT
open PySem PyProof.Rows
section
variable {prog : Program} {w : World} {A : Around} {E : Value → Shared → Prop} {s : Shared}
theorem getItem_tuple_whole {t sl : Addr} {items : Array Value} {vl vu : Value} {lo hi : Option Int} {Q : Value → Shared → Prop} (ht : IsTup s.heap t items) (hs : s.heap.IsSliceOf sl vl vu .none) (pl : IsPart vl lo) (pu : IsPart vu hi)
    (hw : sIx items.size 0 lo = 0 ∧ sIx items.size items.size hi = items.size) (h : Q (.ref t) s) : wpAny (model prog w) A (getItem (.ref t) (.ref sl)) Q E s := by
  obtain ⟨os, hos, hcs, hds⟩ := id hs
  have hTs : s.TypeIs (.ref sl) "slice" := ⟨os, hos, hcs⟩
  unfold getItem
  try with_reducible refine wpAny_holding ?_
  first | refine wpAny_bind (wpAny_pure ?_) | skip
  refine wpAny_bind (wpAny_sequenceKey ht.typeIs (by decide) ?_)
  refine wpAny_bind (wpAny_callSpecial?_slot (name := Str.ofString "__getitem__") ht.typeIs PyProof.Rows.slot_tuple_getitem
    (wpAny_call_entry PyProof.Rows.slot_tuple_getitem ht.typeIs entry_tuple_getitem ?_ (args_tuple_getitem _ _)))
  show wpAny _ _ (Builtin.Tuple.tupleItemsOf (.ref t) >>= _) _ _ s
  refine wpAny_bind (tupleItemsOf_ ht ?_)
  refine wpAny_bind (wpAny_typeOf hTs ?_)
  rw [if_pos (by decide)]
  refine wpAny_bind (sliceApplied_gen hs pl pu ?_)
  have hyes : ((((sIx items.size 0 lo : Nat) : Int) == 0 && (1 : Int) == 1 && (sIx items.size items.size hi - sIx items.size 0 lo) == items.size) = true) := by
    rw [hw.1, hw.2]; simp
  show wpAny _ _ (if (((sIx items.size 0 lo : Nat) : Int) == 0 && (1 : Int) == 1 && (sIx items.size items.size hi - sIx items.size 0 lo) == items.size) = true then _ else _) _ _ s
  rw [if_pos hyes]
  refine wpAny_bind ?_
  unfold Builtin.Tuple.tupleIsExact
  refine wpAny_bind (wpAny_typeOf ht.typeIs (wpAny_pure ?_))
  show wpAny _ _ (if (Value.type "tuple" == Value.type "tuple") = true then _ else _) _ _ s
  rw [if_pos (by decide)]
  exact wpAny_bind (wpAny_rule (wpAny_pure ⟨_, rfl, wpAny_pure h⟩))
end
end HT
namespace L2
open PySem PySem.Spec PyProof.Rows
/-- t[lo:hi], also the whole (t itself) -/
def rSlTA (K : PySem.W.Frag) : V → Option Int → Option Int → Hp → VK → Prop := fun x lo hi H Q => ∃ a xs, x = .ref a ∧ SqT K H a xs ∧ (cutV xs lo hi = xs → Q (.ref a) H) ∧ ∀ p, H p = none → Q (.ref p) (upd H p (.tup (cutV xs lo hi)))
section
variable {X : Cx} (K : PySem.W.Frag)
theorem slT (h : X.K = K := by rfl) : SlR X (rSlTA K) := by
  subst h
  intro pins s σ H x v vl vu lo hi sl Q I rx hs pl pu h
  obtain ⟨a, xs, rfl, hx, hw, q⟩ := h
  by_cases hc : HT.sIx xs.length 0 lo = 0 ∧ HT.sIx xs.length xs.length hi = xs.length
  · cases rx
    obtain ⟨its, r, ht, hz⟩ := I.tuple hx
    have hlen : its.toArray.size = xs.length := by rw [List.size_toArray]; exact r.length.symm
    refine ⟨"tuple", _, PyProof.Rows.slot_tuple_getitem.lookup, ht.typeIs, ?_⟩
    refine HT.getItem_tuple_whole ht hs pl pu (by rw [hlen]; exact hc) ⟨.ref a, H, I, rfl, hw ?_⟩
    unfold cutV
    rw [hc.1, hc.2]
    simp
  · exact sl_tup pins s σ H (.ref a) v vl vu lo hi sl Q I rx hs pl pu ⟨a, xs, rfl, hx, hc, q⟩
end
/-- t + u, any -/
def rCatA (K : PySem.W.Frag) : R2 := fun x y H Q => ∃ a b xs ys, x = .ref a ∧ y = .ref b ∧ SqT K H a xs ∧ SqT K H b ys ∧ xs.length + ys.length ≤ sizeLine ∧ (xs = [] → Q (.ref b) H) ∧ (ys = [] → Q (.ref a) H) ∧ ∀ p, H p = none → Q (.ref p) (upd H p (.tup (xs ++ ys)))
theorem catT {X : Cx} (K : PySem.W.Frag) (h : X.K = K := by rfl) : OpR X (binaryOp .Add) (rCatA K) := by
  subst h
  intro pins s σ H x y v u Q I rx ry h
  obtain ⟨a, b, xs, ys, rfl, rfl, ha, hb, hz, q0, q1, q2⟩ := h
  by_cases hx : xs = []
  · cases rx
    cases ry
    obtain ⟨its, r1, p1, _⟩ := I.tuple ha
    obtain ⟨its2, r2, p2, _⟩ := I.tuple hb
    have hi : its = [] := r1.nil_iff.mpr hx
    obtain ⟨⟨cls, dd, data, sl⟩, ho, hc, n, hd⟩ := id p1
    obtain ⟨⟨cls2, dd2, data2, sl2⟩, ho2, hc2, n2, hd2⟩ := id p2
    simp only at hc hd hc2 hd2
    subst hc hd hc2 hd2
    exact concat_meets ⟨_, ho, rfl⟩ ⟨_, ho2, rfl⟩ noFill_tuple_add seq_tuple_add PySem.F.slot_tuple_add PySem.F.entry_tuple_add (PySem.F.args_tuple_add_2 _ _)
      (tuple_addW0 a b its.toArray its2.toArray n n2 dd dd2 sl sl2 (by simp [hi])) ⟨ho, ho2, ⟨.ref b, H, I, rfl, q0 hx⟩⟩
  · exact op_catT pins s σ H _ _ v u Q I rx ry ⟨a, b, xs, ys, rfl, rfl, ha, hb, hx, hz, q1, fun _ => q2⟩
end L2

set_option Elab.async false
set_option linter.all false
set_option maxRecDepth 100000
/-! min and max of a tuple of two ints. -/
namespace L2
open PySem PySem.Spec PyProof.Rows
section
variable {X : Cx}
end
end L2

set_option Elab.async false
set_option linter.all false
set_option maxRecDepth 100000
/-! Displays of plain data read at once; all(..) of a list of truths; a tuple times a number. -/
namespace PySem
open Sem (wp)
end PySem
namespace L2
open PySem PySem.Spec PyProof.Rows
section
variable {X : Cx}
theorem QE.weaken {e : Expr} {t t' : TE} (h : QE X e t) (w : ∀ σ H Q, t' σ H Q → t σ H Q) : QE X e t' := ⟨fun pins s σ H Q I q => h.run pins s σ H Q I (w σ H Q q)⟩
theorem QA.weaken {es : List Expr} {t t' : TA} (h : QA X es t) (w : ∀ σ H Q, t' σ H Q → t σ H Q) : QA X es t' := ⟨fun pos pins s σ H Q I q => h.run pos pins s σ H Q I (w σ H Q q), h.ns⟩
end
/-- what a display asks: the data of the names in it (ints in slots ui, any in slots us) -/
def Has (us ui : List Nat) (S : List Addr) (ρ : Nat → PyData) (ι : Nat → Int) (σ : St) (H : Hp) : Prop :=
  (∀ b ∈ S, H b ≠ none) ∧ (∀ i ∈ us, ∃ v, σ[i]? = some (some v) ∧ Rep S H (ρ i) v) ∧ (∀ i ∈ ui, σ[i]? = some (some (.int (ι i))))
theorem Has.ext {us ui : List Nat} {S : List Addr} {ρ : Nat → PyData} {ι : Nat → Int} {σ : St} {H H' : Hp} (h : Has us ui S ρ ι σ H) (x : Ext [] H H') : Has us ui S ρ ι σ H' := by
  refine ⟨fun b hb => ?_, fun i hi => ?_, h.2.2⟩
  · have := h.1 b hb
    cases e : H b with
    | none => exact absurd e this
    | some o => rw [x.keep b o (by simp) e]; simp
  · obtain ⟨v, e, r⟩ := h.2.1 i hi
    exact ⟨v, e, r.ext (x.mono (by simp))⟩
section
variable {X : Cx} {us ui : List Nat} {a b e : Expr} {es : List Expr} {pos : Pos}
theorem Vals.at' {xs : List V} {us : List Value} {i : Nat} {u : Value} (r : Vals xs us) (h : us[i]? = some u) : ∃ x, xs[i]? = some x ∧ RelV x u := by
  have hi : i < us.length := (List.getElem?_eq_some_iff.mp h).1
  have hi' : i < xs.length := by rw [r.length]; exact hi
  have e : xs[i]? = some xs[i] := by simp [hi']
  obtain ⟨w, hw, rw'⟩ := r.get e
  rw [h] at hw
  cases hw
  exact ⟨_, e, rw'⟩
end
end L2

set_option Elab.async false
set_option linter.all false
set_option maxRecDepth 100000
namespace L2
open PySem PySem.Spec PyProof.Rows

/-! ### lists of pairs as tables -/
section
variable {κ : Type} [DecidableEq κ]
def valV (kvs : List (κ × V)) (k : κ) : Option V := (kvs.find? fun kv => decide (kv.1 = k)).map (·.2)
/-- in its place, or at the end -/
def putK (kvs : List (κ × V)) (k : κ) (v : V) : List (κ × V) :=
  if (kvs.any fun kv => decide (kv.1 = k)) = true then kvs.map (fun kv => if kv.1 = k then (kv.1, v) else kv) else kvs ++ [(k, v)]
def dropK (kvs : List (κ × V)) (k : κ) : List (κ × V) := kvs.filter fun kv => decide (kv.1 ≠ k)

theorem valV_pos {p : κ × V} {r : List (κ × V)} {k : κ} (e : p.1 = k) : valV (p :: r) k = some p.2 := by simp [valV, List.find?_cons, e]
theorem valV_neg {p : κ × V} {r : List (κ × V)} {k : κ} (e : ¬ p.1 = k) : valV (p :: r) k = valV r k := by simp [valV, List.find?_cons, e]
theorem valV_any (k : κ) : ∀ kvs : List (κ × V), (kvs.any fun kv => decide (kv.1 = k)) = (valV kvs k).isSome
  | [] => rfl
  | p :: r => by
    rw [List.any_cons]
    by_cases e : p.1 = k
    · simp only [valV_pos e, decide_eq_true e, Bool.true_or, Option.isSome_some]
    · rw [valV_neg e, decide_eq_false e, Bool.false_or]; exact valV_any k r
theorem RelO.isSome_eq {o : Option V} {u : Option Value} (r : RelO o u) : o.isSome = u.isSome := by
  cases o with
  | none => cases u with
    | none => rfl
    | some _ => exact (show False from r).elim
  | some _ => cases u with
    | none => exact (show False from r).elim
    | some _ => rfl
theorem RelO.getD {o : Option V} {u : Option Value} {d : V} {d' : Value} (r : RelO o u) (rd : RelV d d') : RelV (o.getD d) (u.getD d') := by
  cases o with
  | none => cases u with
    | none => exact rd
    | some _ => exact (show False from r).elim
  | some _ => cases u with
    | none => exact (show False from r).elim
    | some _ => exact r

/-- raw tables of the same keys -/
theorem KV.val {kvs : List (κ × V)} {vs : List (κ × Value)} (r : KV kvs vs) (k : κ) : RelO (valV kvs k) (valueAt vs k) := by
  unfold KV at r
  induction r with
  | nil => exact True.intro
  | @cons p q ps qs h t ih =>
    obtain ⟨h1, h2⟩ := h
    by_cases e : p.1 = k
    · have e' : q.1 = k := h1.symm.trans e
      have b : valueAt (q :: qs) k = some q.2 := by simp [valueAt, List.find?_cons, e']
      rw [valV_pos e, b]; exact h2
    · have e' : ¬ q.1 = k := fun z => e (h1.trans z)
      have b : valueAt (q :: qs) k = valueAt qs k := by simp [valueAt, List.find?_cons, e']
      rw [valV_neg e, b]; exact ih
theorem KV.any {kvs : List (κ × V)} {vs : List (κ × Value)} (r : KV kvs vs) (k : κ) : (kvs.any fun kv => decide (kv.1 = k)) = vs.any fun kv => decide (kv.1 = k) := by
  unfold KV at r
  induction r with
  | nil => rfl
  | cons h t ih => rw [List.any_cons, List.any_cons, ih, h.1]
theorem KV.repl {kvs : List (κ × V)} {vs : List (κ × Value)} (r : KV kvs vs) (k : κ) {y : V} {u : Value} (ry : RelV y u) :
    KV (kvs.map fun kv => if kv.1 = k then (kv.1, y) else kv) (vs.map fun kv => if kv.1 = k then (kv.1, u) else kv) := by
  unfold KV at r ⊢
  induction r with
  | nil => exact .nil
  | @cons p q ps qs h t ih =>
    rw [List.map_cons, List.map_cons]
    refine .cons ?_ ih
    obtain ⟨h1, h2⟩ := h
    by_cases e : p.1 = k
    · rw [if_pos e, if_pos (h1.symm.trans e)]; exact ⟨h1, ry⟩
    · rw [if_neg e, if_neg (fun z => e (h1.trans z))]; exact ⟨h1, h2⟩
theorem KV.put {kvs : List (κ × V)} {vs : List (κ × Value)} (r : KV kvs vs) (k : κ) {y : V} {u : Value} (ry : RelV y u) : KV (putK kvs k y) (stored vs k u) := by
  unfold putK stored
  rw [r.any k]
  by_cases e : (vs.any fun kv => decide (kv.1 = k)) = true
  · rw [if_pos e, if_pos e]; exact r.repl k ry
  · rw [if_neg e, if_neg e]; exact Paired.snoc r ⟨rfl, ry⟩
theorem KV.drop {kvs : List (κ × V)} {vs : List (κ × Value)} (r : KV kvs vs) (k : κ) : KV (dropK kvs k) (without vs k) := by
  unfold KV at r ⊢
  unfold dropK without
  induction r with
  | nil => exact .nil
  | @cons p q ps qs h t ih =>
    obtain ⟨h1, h2⟩ := h
    rw [List.filter_cons, List.filter_cons]
    by_cases e : p.1 = k
    · have a : ¬ decide (p.1 ≠ k) = true := by simp [e]
      have b : ¬ decide (q.1 ≠ k) = true := by simp [h1.symm.trans e]
      rw [if_neg a, if_neg b]; exact ih
    · have e' : ¬ q.1 = k := fun z => e (h1.trans z)
      have a : decide (p.1 ≠ k) = true := by simp [e]
      have b : decide (q.1 ≠ k) = true := by simp [e']
      rw [if_pos a, if_pos b]; exact .cons ⟨h1, h2⟩ ih
theorem KV.keys {kvs : List (κ × V)} {vs : List (κ × Value)} (r : KV kvs vs) : kvs.map (·.1) = vs.map (·.1) := by
  unfold KV at r
  induction r with
  | nil => rfl
  | cons h t ih => rw [List.map_cons, List.map_cons, ih, h.1]
theorem KV.length {kvs : List (κ × V)} {vs : List (κ × Value)} (r : KV kvs vs) : kvs.length = vs.length := Paired.length r
end


/-! ### a tracked dict, its keys ints and texts or tuples of these -/
/-- raw entries of a dict with tuple keys -/
abbrev KT (H : Hp) : List (List Key × V) → List (List Key × Addr × Value) → Prop := Paired fun p q => p.1 = q.1 ∧ H q.2.1 = some (.tup (p.1.map kV)) ∧ RelV p.2 q.2.2
theorem KT.val {H : Hp} {kvs : List (List Key × V)} {xs : List (List Key × Addr × Value)} (r : KT H kvs xs) (k : List Key) : RelO (valV kvs k) ((atKey xs k).map (·.2)) := by
  induction r with
  | nil => exact True.intro
  | @cons p q ps qs h t ih =>
    obtain ⟨h1, _, h2⟩ := h
    by_cases e : p.1 = k
    · have e' : q.1 = k := h1.symm.trans e
      have b : atKey (q :: qs) k = some q.2 := by simp [atKey, List.find?_cons, e']
      rw [valV_pos e, b]; exact h2
    · have e' : ¬ q.1 = k := fun z => e (h1.trans z)
      have b : atKey (q :: qs) k = atKey qs k := by simp [atKey, List.find?_cons, e']
      rw [valV_neg e, b]; exact ih
theorem KT.repl {H : Hp} {kvs : List (List Key × V)} {xs : List (List Key × Addr × Value)} (r : KT H kvs xs) (k : List Key) {y : V} {u : Value} (ry : RelV y u) :
    KT H (kvs.map fun kv => if kv.1 = k then (kv.1, y) else kv) (xs.map (putAt k u)) := by
  induction r with
  | nil => exact .nil
  | @cons p q ps qs h t ih =>
    rw [List.map_cons, List.map_cons]
    refine .cons ?_ ih
    obtain ⟨h1, h2, h3⟩ := h
    unfold putAt
    by_cases e : p.1 = k
    · rw [if_pos e, if_pos (h1.symm.trans e)]; exact ⟨h1, h2, ry⟩
    · rw [if_neg e, if_neg (fun z => e (h1.trans z))]; exact ⟨h1, h2, h3⟩
theorem KT.put {H : Hp} {kvs : List (List Key × V)} {xs : List (List Key × Addr × Value)} (r : KT H kvs xs) (k : List Key) {b : Addr} {y : V} {u : Value} (hb : H b = some (.tup (k.map kV))) (ry : RelV y u) :
    KT H (putK kvs k y) (storedH xs k b u) := by
  have e : (kvs.any fun kv => decide (kv.1 = k)) = (atKey xs k).isSome := by
    rw [valV_any, (r.val k).isSome_eq, Option.isSome_map]
  unfold putK storedH
  rw [e]
  by_cases q : (atKey xs k).isSome = true
  · rw [if_pos q, if_pos q]; exact r.repl k ry
  · rw [if_neg q, if_neg q]; exact Paired.snoc r ⟨rfl, hb, ry⟩
theorem KT.keeps {H H' : Hp} {kvs : List (List Key × V)} {xs : List (List Key × Addr × Value)} (r : KT H kvs xs) (ht : ∀ b ys, H b = some (.tup ys) → H' b = some (.tup ys)) : KT H' kvs xs :=
  Paired.mapP r fun _ _ z => ⟨z.1, ht _ _ z.2.1, z.2.2⟩

section
variable {P : Program} {w : World} {H : Hp} {h : Heap} {a : Addr}
end

/-- what the dict at a holds at the key y -/
def DGet (H : Hp) (a : Addr) (y : V) (r : Option V) : Prop :=
  (∃ kvs k, Rd H a (.dK kvs) ∧ y = kV k ∧ r = valV kvs k) ∨ ∃ kvs k b, Rd H a (.dT kvs) ∧ y = .ref b ∧ H b = some (.tup (k.map kV)) ∧ r = valV kvs k
/-- the heap behind a[y] = v -/
def DPut (H : Hp) (a : Addr) (y v : V) (H' : Hp) : Prop :=
  (∃ kvs k, H a = some (.dK kvs) ∧ y = kV k ∧ kvs.length < sizeLine ∧ H' = upd H a (.dK (putK kvs k v))) ∨
  ∃ kvs k b, H a = some (.dT kvs) ∧ y = .ref b ∧ H b = some (.tup (k.map kV)) ∧ kvs.length < sizeLine ∧ H' = upd H a (.dT (putK kvs k v))
theorem DGet.k {H : Hp} {a : Addr} {kvs : List (Key × V)} {k : Key} (e : H a = some (.dK kvs)) : DGet H a (kV k) (valV kvs k) := .inl ⟨kvs, k, .inl e, rfl, rfl⟩
theorem DGet.t {H : Hp} {a b : Addr} {kvs : List (List Key × V)} {k : List Key} (e : H a = some (.dT kvs)) (eb : H b = some (.tup (k.map kV))) : DGet H a (.ref b) (valV kvs k) := .inr ⟨kvs, k, b, .inl e, rfl, eb, rfl⟩
theorem DPut.k {H : Hp} {a : Addr} {kvs : List (Key × V)} {k : Key} {v : V} (e : H a = some (.dK kvs)) (hl : kvs.length < sizeLine) : DPut H a (kV k) v (upd H a (.dK (putK kvs k v))) := .inl ⟨kvs, k, e, rfl, hl, rfl⟩
theorem DPut.t {H : Hp} {a b : Addr} {kvs : List (List Key × V)} {k : List Key} {v : V} (e : H a = some (.dT kvs)) (eb : H b = some (.tup (k.map kV))) (hl : kvs.length < sizeLine) :
    DPut H a (.ref b) v (upd H a (.dT (putK kvs k v))) := .inr ⟨kvs, k, b, e, rfl, eb, hl, rfl⟩


section
variable {X : Cx} {pins : List (Addr × Obj)} {σ : St} {H : Hp} {s : Shared} {a : Addr} {y v : V} {u r : Value} {o : Option V} {A : Around} {E : Value → Shared → Prop}

end

section
variable {X : Cx} {pins : List (Addr × Obj)} {σ : St} {H : Hp} {s : Shared} {a : Addr} {kvs : List (Key × V)} {k : Key} {u : Value} {A : Around} {E : Value → Shared → Prop}
end


/-! ### readings and rules -/
section
variable {X : Cx} {o i e value : Expr} {pos pos' tpos : Pos} {td ty tv : TE}
end


/-! ### displays -/
section
variable {X : Cx} {pos : Pos}
end

/-! ### methods -/
/-- a method call o.m(e) of a built-in, with one argument: what must be seen of the text -/
structure M1 (X : Cx) (o : Expr) (m : Str) (apos : Pos) (e : Expr) (cpos : Pos) : Prop where
  base : attributeBase o m X.env (eval o X.env) = eval o X.env
  few : ((backTo cpos (starEach [e] X.env)).all (fun x => !x.1) && (backToKw cpos (keywordEach [] X.env)).all (fun x => x.1.isSome)
    && decide (([e] : List Expr).length + ([] : List Keyword).length + (if ([] : List Keyword).isEmpty then 0 else 1) < 30)) = true
  line : (apos.endLine == cpos.line) = true
  trees : backTo cpos (starEach [e] X.env) = [(false, eval e X.env)]
structure M2 (X : Cx) (o : Expr) (m : Str) (apos : Pos) (e f : Expr) (cpos : Pos) : Prop where
  base : attributeBase o m X.env (eval o X.env) = eval o X.env
  few : ((backTo cpos (starEach [e, f] X.env)).all (fun x => !x.1) && (backToKw cpos (keywordEach [] X.env)).all (fun x => x.1.isSome)
    && decide (([e, f] : List Expr).length + ([] : List Keyword).length + (if ([] : List Keyword).isEmpty then 0 else 1) < 30)) = true
  line : (apos.endLine == cpos.line) = true
  trees : backTo cpos (starEach [e, f] X.env) = [(false, eval e X.env), (false, eval f X.env)]

section
variable {X : Cx} {pins : List (Addr × Obj)} {σ : St} {H : Hp} {s : Shared} {a : Addr} {y d : V} {u r : Value} {o : Option V} {A : Around} {E : Value → Shared → Prop}
end

section
variable {X : Cx} {o e f : Expr} {apos cpos : Pos} {td ty tx : TE}
end

/-! ### dict(d): a copy -/
section
variable {X : Cx} {pins : List (Addr × Obj)} {σ : St} {H : Hp} {s : Shared} {a : Addr} {kvs : List (Key × V)} {A : Around} {E : Value → Shared → Prop}
end


section
variable {X : Cx} {pins : List (Addr × Obj)} {σ : St} {H : Hp} {s : Shared} {a : Addr} {y : V} {u : Value} {A : Around} {E : Value → Shared → Prop}
end
end L2

namespace L2
open PySem PySem.Spec PyProof.Rows
/-! ### a dict's pairs: keys that differ -/
section
variable {κ : Type} [DecidableEq κ]
end
end L2

set_option Elab.async false
set_option linter.all false
set_option maxRecDepth 100000
/-! Dicts over the quick judgements; sum, sorted; xs[i] += n; extend by a tuple. -/
namespace PySem
open Sem (wp)
open AutoSeq1 (wpAny_loadPart')
theorem list_extend_tup (l b : Addr) (xs ys : Array Value) (n n2 : Nat) (dd : Option Addr) (sl : Array (Option Value)) (h0 : ¬ (!xs.isEmpty && Builtin.List.listTooLong (xs.size + ys.size)) = true) (h1 : xs.size ≤ sizeLine) (h2 : (xs ++ ys).size ≤ sizeLine + 1) :
    Meets (Builtin.«list.extend» ⟨[.ref l, .ref b], []⟩) (fun _ R s => s.heap.get? l = some { cls := .type "list", dict := none, data := .seq xs n, slots := #[] } ∧ s.heap.get? b = some { cls := .type "tuple", dict := dd, data := .seq ys n2, slots := sl } ∧
      R (.ok (.ret Value.none)) { s with heap := s.heap.update l (Obj.mapSeq fun x => x ++ ys), toks := s.toks }) :=
  .of_wp fun prog w A R s h => by
    obtain ⟨hp, g, d, tk, os⟩ := s
    obtain ⟨hl, hb, h⟩ := h
    have f1 := AutoSeq1.idx_int
    wp_walk using (wpAny_updateSeq hl rfl (hz := h1) (_hz' := h2)), wpAny_loadPart' hl, wpAny_loadPart' hb
    exact ⟨_, rfl, h⟩
end PySem
namespace L2
open PySem PySem.Spec PyProof.Rows
section
variable {X : Cx} {o i e f value : Expr} {td ty tv tx to ti te : TE} {pos pos' apos cpos : Pos}
/-- extend by a tuple -/
def rExtendT (K : PySem.W.Frag) : V → List V → Hp → VK → Prop := fun x vs H Q => ∃ l b xs zs, x = .ref l ∧ vs = [.ref b] ∧ H l = some (.lst xs) ∧ SqT K H b zs ∧ xs.length + zs.length ≤ sizeLine ∧ Q .non (upd H l (.lst (xs ++ zs)))
theorem mt_extendT (K : PySem.W.Frag) (h : X.K = K := by rfl) : MtM X "list.extend" (rExtendT K) := by
  subst h
  intro pins s σ H x vs v us Q I rx rv h
  obtain ⟨l, b, xs, zs, rfl, rfl, hH, hB, hz, q⟩ := h
  cases rx
  obtain ⟨u, rfl, ru⟩ := rv.one
  cases ru
  obtain ⟨z, its, n, r, hl, e⟩ := I.lstM hH
  obtain ⟨its2, r2, ht, hl2⟩ := I.tuple hB
  obtain ⟨⟨cls, dd, data, sl⟩, ho, hc, n2, hd⟩ := id ht
  simp only at hc hd
  subst hc hd
  have e1 := r2.length
  have hsz : its.toArray.size + its2.toArray.size ≤ sizeLine := by rw [List.size_toArray, List.size_toArray]; omega
  have hlong : ¬ (!its.toArray.isEmpty && Builtin.List.listTooLong (its.toArray.size + its2.toArray.size)) = true := fun z => by
    rw [notLongL hsz, Bool.and_false] at z
    cases z
  have hs2 : (its.toArray ++ its2.toArray).size ≤ sizeLine + 1 := by rw [Array.size_append]; omega
  refine call_meets F.slot_list_extend ⟨_, e, rfl⟩ F.entry_list_extend (F.args_list_extend_2 _ _) (list_extend_tup l b its.toArray its2.toArray n n2 dd sl hlong (by omega) hs2) ⟨e, ho, ?_⟩
  exact ⟨.non, _, I.lset (its' := its ++ its2) hH e (by simp) (r.append r2) (by rw [List.length_append]; exact hz), rfl, q⟩
theorem IntsAre.of_vals : ∀ {ns : List Int} {us : List Value}, Vals (ns.map V.int) us → IntsAre us ns
  | [], us, h => by cases h; exact .nil
  | n :: ns, us, h => by
    cases h with
    | cons r t =>
      obtain ⟨tk, rfl⟩ := r
      exact .cons n tk (IntsAre.of_vals t)
theorem Vals.of_ints : ∀ {ns : List Int} {us : List Value}, IntsAre us ns → Vals (ns.map V.int) us
  | _, _, .nil => .nil
  | _, _, .cons n t r => .cons ⟨t, rfl⟩ (Vals.of_ints r)
/-- sorted, of a short list of ints -/
theorem call_sortedL (K : PySem.W.Frag) (hk : X.K = K := by rfl) : CallR X (.builtin "sorted") (fun xs H Q => ∃ (p : Addr) (ns : List Int), xs = [.ref p] ∧ SqL K H p (ns.map V.int) ∧ ns.length < 64 ∧ ∀ (l : Addr) (ms : List Int), ms.Perm ns → ms.Pairwise (· ≤ ·) → H l = none → Q (.ref l) (upd H l (.lst (ms.map V.int)))) := by
  subst hk
  intro pins s σ H xs us Q I r h
  obtain ⟨p, ns, rfl, hp, h64, q⟩ := h
  obtain ⟨u, rfl, ru⟩ := vals1 r
  cases ru
  obtain ⟨its, rv, ht, hz⟩ := I.list hp
  have hl := rv.length
  rw [List.length_map] at hl
  refine sorted_ints ht.isList (IntsAre.of_vals rv) (by omega) fun out ms h1 h2 h3 => ?_
  have hm := h2.length_eq
  have hv : Vals (ms.map V.int) out.toList := Vals.of_ints h1
  have hsz : (ms.map V.int).length ≤ sizeLine := by rw [List.length_map, show sizeLine = 16777216 by decide]; omega
  have kp : ∀ b o, s.heap.get? b = some o → (sortedAll s.heap its out).get? b = some o := fun b o e => sortedAll_old e
  have nw := sortedAll_at s.heap its out
  obtain ⟨n, nw⟩ := nw
  refine ⟨.ref (s.heap.objs.size + 1), _, I.laid (t' := s.toks) (o := .lst (ms.map V.int)) kp (Nat.le_succ _) ⟨hsz, out.toList, n, hv, by simpa using nw⟩, rfl, q _ ms h2 h3 (I.hok.fresh (Nat.le_succ _))⟩
end
end L2

set_option Elab.async false
set_option linter.all false
set_option maxRecDepth 100000
/-! A dict that is walked: in a loop, a comprehension; sorted(d). -/
namespace L2
open PySem PySem.Spec PyProof.Rows
section
variable {X : Cx} {tg : Expr}
end
end L2

set_option Elab.async false
set_option linter.all false
set_option maxRecDepth 100000
/-! sorted(d): a dict's keys gathered and sorted. -/
namespace PySem
open Sem (wp)
section
variable {prog : Program} {w : World} {A : Around} {E : Value → Shared → Prop} {s : Shared} {κ : Type} [DecidableEq κ] {knd : KeyKind prog w κ}
end
end PySem
namespace L2
open PySem PySem.Spec PyProof.Rows
section
variable {X : Cx}
end
end L2

set_option Elab.async false
set_option linter.all false
set_option maxRecDepth 100000
/-! enumerate(t) of a tuple, its pairs unpacked. -/
namespace PySem
open Sem (wp)
open AutoSeq1 (wpAny_loadPart')
section
variable {prog : Program} {w : World} {A : Around} {E : Value → Shared → Prop} {s : Shared}
end
end PySem

set_option Elab.async false
set_option linter.all false
set_option maxRecDepth 100000
namespace L2
open PySem PySem.Spec PyProof.Rows
section
variable {X : Cx} {elts : List Expr} {k : Nat} {tpos : Pos}
end
end L2

set_option Elab.async false
set_option linter.all false
set_option maxRecDepth 100000
/-! What a set's table keeps: who leads it, and its places rising while it is plain. -/
namespace PySem
namespace SetTable
theorem below_go (xs : Array Nat) (j : Nat) : ∀ (f lo hi : Nat), hi - lo ≤ f → lo ≤ hi → hi ≤ xs.size → xs.toList.Pairwise (· < ·) → (∀ (k : Nat) (v : Nat), k < lo → xs[k]? = some v → v < j) →
    (∀ (k : Nat) (v : Nat), hi ≤ k → xs[k]? = some v → j ≤ v) → below.go xs j f lo hi ≤ xs.size ∧ (∀ (k : Nat) (v : Nat), k < below.go xs j f lo hi → xs[k]? = some v → v < j) ∧ (∀ (k : Nat) (v : Nat), below.go xs j f lo hi ≤ k → xs[k]? = some v → j ≤ v)
  | 0, lo, hi, hf, h1, h2, _, hl, hh => by
    unfold below.go
    have e : lo = hi := by omega
    subst e
    exact ⟨h2, hl, hh⟩
  | f + 1, lo, hi, hf, h1, h2, hs, hl, hh => by
    unfold below.go
    by_cases c : lo < hi
    · rw [if_pos c]
      dsimp only
      have hm : (lo + hi) / 2 < xs.size := by omega
      have eg : xs.getD ((lo + hi) / 2) j = xs[(lo + hi) / 2] := by simp [Array.getD, hm]
      rw [eg]
      have hr : ∀ (a b : Nat) (va vb : Nat), a < b → xs[a]? = some va → xs[b]? = some vb → va < vb := by
        intro a b va vb hab ea eb
        have la : a < xs.toList.length := by
          rcases Nat.lt_or_ge a xs.toList.length with q | q
          · exact q
          · rw [Array.length_toList] at q; rw [Array.getElem?_eq_none q] at ea; cases ea
        have lb : b < xs.toList.length := by
          rcases Nat.lt_or_ge b xs.toList.length with q | q
          · exact q
          · rw [Array.length_toList] at q; rw [Array.getElem?_eq_none q] at eb; cases eb
        have := List.pairwise_iff_getElem.mp hs a b la lb hab
        rw [← Array.getElem?_toList, List.getElem?_eq_getElem la] at ea
        rw [← Array.getElem?_toList, List.getElem?_eq_getElem lb] at eb
        cases ea
        cases eb
        exact this
      have em : xs[(lo + hi) / 2]? = some xs[(lo + hi) / 2] := by simp [hm]
      by_cases d : xs[(lo + hi) / 2] < j
      · rw [if_pos d]
        refine below_go xs j f _ hi (by omega) (by omega) h2 hs (fun k v hk e => ?_) hh
        by_cases q : k = (lo + hi) / 2
        · subst q; rw [em] at e; cases e; exact d
        · exact Nat.lt_trans (hr k _ v _ (by omega) e em) d
      · rw [if_neg d]
        refine below_go xs j f lo _ (by omega) (by omega) (by omega) hs hl fun k v hk e => ?_
        by_cases q : k = (lo + hi) / 2
        · subst q; rw [em] at e; cases e; omega
        · have := hr _ k _ v (by omega) em e
          omega
    · rw [if_neg c]
      have e : lo = hi := by omega
      subst e
      exact ⟨h2, hl, hh⟩
theorem below_spec {xs : Array Nat} (j : Nat) (hs : xs.toList.Pairwise (· < ·)) : below xs j ≤ xs.size ∧ (∀ (k : Nat) (v : Nat), k < below xs j → xs[k]? = some v → v < j) ∧ (∀ (k : Nat) (v : Nat), below xs j ≤ k → xs[k]? = some v → j ≤ v) :=
  below_go xs j xs.size 0 xs.size (by omega) (by omega) (Nat.le_refl _) hs (fun k v h => absurd h (by omega)) (fun k v h e => by rw [Array.getElem?_eq_none h] at e; cases e)
theorem below_zero {xs : Array Nat} (hs : xs.toList.Pairwise (· < ·)) : below xs 0 = 0 := by
  obtain ⟨a, b, c⟩ := below_spec 0 hs
  rcases Nat.eq_zero_or_pos (below xs 0) with h | h
  · exact h
  · have : 0 < xs.size := by omega
    exact absurd (b 0 xs[0] h (by simp [this])) (by omega)
theorem below_next {xs : Array Nat} (hs : xs.toList.Pairwise (· < ·)) {i j : Nat} (e : xs[i]? = some j) : below xs (j + 1) = i + 1 := by
  obtain ⟨a, b, c⟩ := below_spec (j + 1) hs
  have hi : i < xs.size := by
    rcases Nat.lt_or_ge i xs.size with q | q
    · exact q
    · rw [Array.getElem?_eq_none q] at e; cases e
  have h1 : i < below xs (j + 1) := by
    rcases Nat.lt_or_ge i (below xs (j + 1)) with q | q
    · exact q
    · exact absurd (c i j q e) (by omega)
  rcases Nat.lt_or_ge (i + 1) (below xs (j + 1)) with q | q
  · exfalso
    have l2 : i + 1 < xs.size := by omega
    have e2 : xs[i + 1]? = some xs[i + 1] := by simp [l2]
    have := b (i + 1) _ q e2
    have la : i < xs.toList.length := by simpa using hi
    have lb : i + 1 < xs.toList.length := by simpa using l2
    have hr := List.pairwise_iff_getElem.mp hs i (i + 1) la lb (by omega)
    rw [← Array.getElem?_toList, List.getElem?_eq_getElem la] at e
    cases e
    have : xs.toList[i + 1] = xs[i + 1] := by simp
    omega
  · omega
theorem insert_rising {xs : Array Nat} {j : Nat} (hs : xs.toList.Pairwise (· < ·)) (hn : xs[below xs j]? ≠ some j) : (insertAt xs (below xs j) j).toList.Pairwise (· < ·) := by
  obtain ⟨a, b, c⟩ := below_spec j hs
  rw [toList_insertAt]
  have ht : ∀ v ∈ xs.toList.take (below xs j), v < j := by
    intro v hv
    obtain ⟨k, hk, e⟩ := List.getElem_of_mem hv
    rw [List.length_take] at hk
    rw [List.getElem_take] at e
    exact b k v (by omega) (by rw [← Array.getElem?_toList, List.getElem?_eq_getElem (by omega)]; rw [e])
  have hd : ∀ v ∈ xs.toList.drop (below xs j), j < v := by
    intro v hv
    obtain ⟨k, hk, e⟩ := List.getElem_of_mem hv
    rw [List.length_drop] at hk
    rw [List.getElem_drop] at e
    have e' : xs[below xs j + k]? = some v := by rw [← Array.getElem?_toList, List.getElem?_eq_getElem (by omega)]; rw [e]
    have h1 := c (below xs j + k) v (by omega) e'
    rcases Nat.lt_or_eq_of_le h1 with q | q
    · exact q
    · subst q
      exfalso
      rcases Nat.eq_zero_or_pos k with z | z
      · subst z; exact hn e'
      · have l0 : below xs j < xs.toList.length := by omega
        have := List.pairwise_iff_getElem.mp hs (below xs j) (below xs j + k) l0 (by omega) (by omega)
        rw [e] at this
        have h2 := c (below xs j) _ (Nat.le_refl _) (by rw [← Array.getElem?_toList, List.getElem?_eq_getElem l0])
        omega
  rw [List.pairwise_append]
  refine ⟨hs.sublist (List.take_sublist _ _), List.pairwise_cons.mpr ⟨hd, hs.sublist (List.drop_sublist _ _)⟩, fun x hx y hy => ?_⟩
  rcases List.mem_cons.mp hy with rfl | hy
  · exact ht x hx
  · exact Nat.lt_trans (ht x hx) (hd y hy)
/-- a free slot holds no live one -/
theorem probe_free (t : SetTable) (f : Nat → Int) (h : Int) : ∀ (n : Nat) (p : Probe) (j : Nat) (d : Option Nat), (∀ k, p.dummy = some k → t.place[below t.place k]? ≠ some k) →
    probe.go t f h n p = some (.empty j d) → t.place[below t.place (d.getD j)]? ≠ some (d.getD j)
  | 0, p, j, d, _, e => by unfold probe.go at e; cases e
  | n + 1, p, j, d, hp, e => by
    unfold probe.go at e
    have adv : ∀ p : Probe, (t.advance p).dummy = p.dummy := fun p => by unfold advance; split <;> rfl
    have nl : ∀ k, (∀ i, t.slot k ≠ .live i) → t.place[below t.place k]? ≠ some k := fun k q z => q (below t.place k) (by unfold slot; dsimp only; rw [z]; simp)
    cases hs : t.slot p.j with
    | empty =>
      rw [hs] at e
      cases e
      cases hd : p.dummy with
      | none => exact nl p.j fun i z => by rw [hs] at z; cases z
      | some k => exact hp k hd
    | dummy =>
      rw [hs] at e
      refine probe_free t f h n _ j d (fun k hk => ?_) e
      rw [adv] at hk
      cases hk
      exact nl _ fun i z => by rw [hs] at z; cases z
    | live i =>
      rw [hs] at e
      dsimp only at e
      split at e
      · cases e
      · exact probe_free t f h n _ j d (fun k hk => hp k (by rw [adv] at hk; exact hk)) e
/-- led by whom it was, its places rising while it is plain -/
def Good (b : Bool) (t : SetTable) : Prop := t.led = b ∧ (t.plain = true → t.place.toList.Pairwise (· < ·))
variable {b : Bool} {t : SetTable}
theorem Good.stand (g : Good b t) (n : Nat) : Good b (t.standIn n) := ⟨g.1, fun z => by cases z⟩
theorem Good.or (g : Good b t) (n : Nat) : Good b (t.orStandIn n) := by
  unfold orStandIn
  split
  · exact g
  · exact g.stand n
theorem Good.off (g : Good b t) : Good b { t with plain := false } := ⟨g.1, fun z => by cases z⟩
end SetTable
open SetTable in
theorem layNew_good {b : Bool} {t : SetTable} (g : Good b t) (es : Array (Int × Value)) (h : Int) (x : Value) : Good b (layNew t es h x).2.1 := by
  unfold layNew
  cases e : t.freeSlot h with
  | none => exact g.stand _
  | some q =>
    obtain ⟨slot, was⟩ := q
    dsimp only
    refine Good.or (t := (t.put slot).1) ⟨g.1, fun z => ?_⟩ _
    have hs := g.2 z
    refine insert_rising hs ?_
    unfold freeSlot at e
    unfold probe at e
    split at e
    · rename_i j d hp
      cases e
      exact probe_free t _ h _ _ j d (fun k hk => by cases hk) hp
    · cases e
open SetTable in
theorem relayAll_good {b : Bool} {t : SetTable} (g : Good b t) (es : Array (Int × Value)) (n : Nat) : Good b (relayAll t es n).2.1 := by
  unfold relayAll
  cases e : t.relaid (es.map (·.1)) n with
  | none => exact g.stand _
  | some q =>
    obtain ⟨t', o⟩ := q
    dsimp only
    split
    · unfold relaid laid at e
      cases hl : layClean (sizeAbove n - 1) (es.map (·.1)) with
      | none => rw [hl] at e; cases e
      | some ow =>
        rw [hl] at e
        simp only [Option.bind_eq_bind, Option.bind_some, Option.pure_def, Option.some.injEq, Prod.mk.injEq] at e
        obtain ⟨rfl, _⟩ := e
        refine ⟨g.1, fun _ => ?_⟩
        simp only [List.pairwise_map]
        refine List.Pairwise.filterMap (R := (· < ·)) _ (fun a a' h c hc c' hc' => ?_) List.pairwise_lt_range
        cases h1 : ow.getD a none with
        | none => rw [h1] at hc; cases hc
        | some u =>
          rw [h1] at hc
          cases h2 : ow.getD a' none with
          | none => rw [h2] at hc'; cases hc'
          | some u' => rw [h2] at hc'; cases hc; cases hc'; exact h
    · exact g.stand _
theorem eraseS_perm {α : Type} {l : List α} {i : Nat} (h : i < l.length) : ([l[i]] ++ l.eraseIdx i).Perm l := by
  rw [List.eraseIdx_eq_take_drop_succ]
  have e : l = l.take i ++ l[i] :: l.drop (i + 1) := by simp
  conv => rhs; rw [e]
  rw [List.singleton_append]
  exact List.perm_middle.symm
theorem pickOrder_go_perm {α : Type} (next : Nat → Nat) : ∀ (f k : Nat) (l : List α) (out : Array α), f = l.length → (pickOrder.go next f k l out).toList.Perm (out.toList ++ l)
  | 0, k, l, out, e => by
    have : l = [] := List.length_eq_zero_iff.mp e.symm
    subst this
    unfold pickOrder.go
    simp
  | f + 1, k, l, out, e => by
    unfold pickOrder.go
    have hl : next k % l.length < l.length := Nat.mod_lt _ (by omega)
    rw [List.getElem?_eq_getElem hl]
    dsimp only
    refine (pickOrder_go_perm next f (k + 1) _ _ (by rw [List.length_eraseIdx_of_lt hl]; omega)).trans ?_
    rw [Array.toList_push, List.append_assoc]
    refine List.Perm.append_left _ ?_
    exact eraseS_perm hl
theorem pickOrder_perm {α : Type} (next : Nat → Nat) (xs : Array α) : (pickOrder next xs).toList.Perm xs.toList := by
  unfold pickOrder
  have := pickOrder_go_perm next xs.size 0 xs.toList #[] (by simp)
  simpa using this
end PySem

set_option Elab.async false
set_option linter.all false
set_option maxRecDepth 100000
/-! A set of whole numbers: made of a list or a tuple. -/
namespace PySem
open Sem (wp)
open PyProof.Rows
def byTx (w : World) : Bool := w.params.followText "set-order"
def iOf (e : Int × Value) : Option Int := match e.2 with | .int k _ => some k | _ => none
def IEl (es : List (Int × Value)) : Prop := ∀ e ∈ es, ∃ k t, e = (hashInt k, Value.int k t)
/-- a set of these whole numbers, each once -/
def SetI (w : World) (a : Addr) (ns : List Int) (h : Heap) : Prop :=
  ∃ o es ep t, h.get? a = some o ∧ o.ExactSet ∧ o.data = .set es ep t ∧ IEl es.toList ∧ (es.toList.filterMap iOf).Perm ns ∧ es.size < scanBound ∧ t.fits es.size = true ∧ SetTable.Good (!byTx w) t
section
variable {prog : Program} {w : World} {A : Around} {E : Value → Shared → Prop} {s : Shared}
theorem IEl.elems {es : List (Int × Value)} (h : IEl es) : ElemsOf (intKind prog w) es := fun e he => by
  obtain ⟨k, t, rfl⟩ := h e he
  exact ⟨⟨k, intKind_is _ _ _ _, rfl⟩, rfl⟩
theorem IEl.perm {l l' : List (Int × Value)} (h : IEl l) (p : l'.Perm l) : IEl l' := fun e he => h e (p.mem_iff.mp he)
theorem IEl.len {l : List (Int × Value)} : IEl l → (l.filterMap iOf).length = l.length := by
  induction l with
  | nil => intro _; rfl
  | cons e l ih =>
    intro h
    obtain ⟨k, t, rfl⟩ := h e (by simp)
    have := ih fun e he => h e (by simp [he])
    simp [iOf] at this ⊢
    exact this
theorem IEl.has {l : List (Int × Value)} (h : IEl l) {k : Int} : k ∈ l.filterMap iOf ↔ ∃ e ∈ l, (intKind prog w).is k e.2 = true := by
  rw [List.mem_filterMap]
  constructor
  · rintro ⟨e, he, q⟩
    obtain ⟨j, t, rfl⟩ := h e he
    cases q
    exact ⟨_, he, intKind_is _ _ _ _⟩
  · rintro ⟨e, he, q⟩
    obtain ⟨j, t, rfl⟩ := h e he
    have : k = j := (intKind prog w).inj _ _ _ q (intKind_is _ _ j t)
    subst this
    exact ⟨_, he, rfl⟩
theorem SetI.keep {a : Addr} {ns : List Int} {h h' : Heap} (x : SetI w a ns h) (k : ∀ o, h.get? a = some o → h'.get? a = some o) : SetI w a ns h' := by
  obtain ⟨o, es, ep, t, e, r⟩ := x
  exact ⟨o, es, ep, t, k o e, r⟩
theorem SetI.type {a : Addr} {ns : List Int} (x : SetI w a ns s.heap) : s.TypeIs (.ref a) "set" := by
  obtain ⟨o, es, ep, t, e, c, _⟩ := x
  exact ⟨o, e, c.1⟩
theorem SetI.put {h : Heap} {a : Addr} {o : Obj} {es es' : Array (Int × Value)} {ep : Nat} {t t' : SetTable} {ns : List Int} (ho : h.get? a = some o) (x : o.ExactSet) (hd : o.data = .set es ep t) (h1 : IEl es'.toList)
    (h2 : (es'.toList.filterMap iOf).Perm ns) (h3 : es'.size < scanBound) (h4 : t'.fits es'.size = true) (h5 : SetTable.Good (!byTx w) t') :
    (h.update a (Obj.putSet es' t')).get? a = some { o with data := .set es' (ep + 1) t' } ∧ SetI w a ns (h.update a (Obj.putSet es' t')) := by
  have g := Heap.get?_update_self (Obj.putSet es' t') ho (by rw [putSet_of es' t' hd]; rfl)
  rw [putSet_of es' t' hd] at g
  exact ⟨g, _, es', ep + 1, t', g, x, rfl, h1, h2, h3, h4, h5⟩
theorem seti_tail {g : Bool → Sem Unit} (hg : ∀ (b : Bool) (z : Shared) (R : Unit → Shared → Prop), R () z → wpAny (model prog w) A (g b) R E z) {a : Addr} {o : Obj} {es : Array (Int × Value)} {ep : Nat} {t : SetTable} (ho : s.heap.get? a = some o)
    (x : o.ExactSet) (hd : o.data = .set es ep t) {es' : Array (Int × Value)} {t' : SetTable} {ns : List Int} (h1 : IEl es'.toList) (h2 : (es'.toList.filterMap iOf).Perm ns) (h3 : es'.size < scanBound) (h4 : t'.fits es'.size = true) (h5 : SetTable.Good (!byTx w) t')
    {was : Bool} {R : Option Bool → Shared → Prop} (h : ∀ h', Heap.SameBut a s.heap h' → SetI w a ns h' → R (some true) { s with heap := h' }) :
    wpAny (model prog w) A (storeSet a es' t' >>= fun _ => if (!was && t'.tooFull) = true then (g (relayAll t' es' (SetTable.grown es'.size)).2.2 >>= fun _ => storeSet a (relayAll t' es' (SetTable.grown es'.size)).1 (relayAll t' es' (SetTable.grown es'.size)).2.1 >>= fun _ => pure (some true)) else pure (some true)) R E s := by
  refine wpAny_bind (wpAny_storeSet_of ho hd ?_ (fits_of_scanBound h3))
  obtain ⟨p1, p2⟩ := SetI.put (w := w) ho x hd h1 h2 h3 h4 h5
  have b1 := Heap.SameBut.update s.heap a (Obj.putSet es' t')
  split
  · have q1 := relayAll_perm t' es' (SetTable.grown es'.size)
    have q2 := relayAll_fits t' es' (SetTable.grown es'.size)
    have q3 := relayAll_good h5 es' (SetTable.grown es'.size)
    generalize relayAll t' es' (SetTable.grown es'.size) = z at q1 q2 q3 ⊢
    obtain ⟨ez, tz, bz⟩ := z
    dsimp only at q1 q2 q3 ⊢
    have q4 : ez.size = es'.size := by have := q1.length_eq; simpa using this
    refine wpAny_bind (hg _ _ _ ?_)
    refine wpAny_bind (wpAny_storeSet_of p1 rfl ?_ (fits_of_scanBound (by rw [q4]; exact h3)))
    obtain ⟨_, p4⟩ := SetI.put (w := w) p1 x rfl (h1.perm q1) ((q1.filterMap iOf).trans h2) (by rw [q4]; exact h3) q2 q3
    exact wpAny_pure (h _ (b1.trans (Heap.SameBut.update _ a _)) p4)
  · exact wpAny_pure (h _ b1 p2)
def addN (ns : List Int) (k : Int) : List Int := if k ∈ ns then ns else ns ++ [k]
theorem seti_add {a : Addr} {ns : List Int} {k : Int} {tk : Tok} {Q : Bool → Shared → Prop} (hS : SetI w a ns s.heap) (hr : ns.length + 1 < scanBound)
    (h : ∀ r h', Heap.SameBut a s.heap h' → SetI w a (addN ns k) h' → Q r { s with heap := h' }) : wpAny (model prog w) A (setAddHashed a (.int k tk) (hashInt k)) Q E s := by
  obtain ⟨o, es, ep, t, ho, x, hd, h1, h2, h3, h4, h5⟩ := hS
  have e1 : ElemsOf (intKind prog w) es.toList := h1.elems
  have hki : (intKind prog w).is k (.int k tk) = true := intKind_is _ _ _ _
  unfold setAddHashed setAddHashedIn
  refine wpAny_holding (wpAny_bind (wpAny_setState_of ho hd h4 ?_))
  dsimp only
  rw [byScan_of (knd := intKind prog w) (x := .int k tk) rfl h3 e1]
  simp only [↓reduceIte]
  unfold setAddByScan
  refine wpAny_bind (wpAny_bind (wpAny_rule (wpAny_bind (wpAny_setScan_of (knd := intKind prog w) hki ho hd h4 e1 ?_))))
  have hlen : es.size = ns.length := by
    have a1 := h2.length_eq
    rw [h1.len, Array.length_toList] at a1
    exact a1
  cases hf : List.findIdx? (fun e => (intKind prog w).is k e.2) es.toList with
  | some j =>
    dsimp only
    obtain ⟨hj, hpj, _⟩ := List.findIdx?_eq_some_iff_getElem.mp hf
    have hk : k ∈ ns := h2.mem_iff.mp (h1.has.mpr ⟨_, List.getElem_mem hj, hpj⟩)
    refine wpAny_pure (wpAny_pure ?_)
    have := h false s.heap (Heap.SameBut.refl a s.heap) (by unfold addN; rw [if_pos hk]; exact ⟨o, es, ep, t, ho, x, hd, h1, h2, h3, h4, h5⟩)
    exact this
  | none =>
    dsimp only
    have hk : ¬ k ∈ ns := fun z => by
      obtain ⟨e, he, q⟩ := (h1.has (prog := prog) (w := w)).mp (h2.mem_iff.mpr z)
      have := List.findIdx?_eq_none_iff.mp hf e he
      rw [q] at this
      cases this
    have q1 := layNew_perm t es (hashInt k) (.int k tk)
    have q2 := layNew_fits t es (hashInt k) (.int k tk)
    have q3 := layNew_good h5 es (hashInt k) (.int k tk)
    have hgw : ∀ (b : Bool) (z : Shared) (R : Unit → Shared → Prop), R () z → wpAny (model prog w) A (match b with | true => rule "set.scan.the-table-gave-way" | false => pure ()) R E z :=
      fun b z R hq => by cases b <;> first | exact wpAny_pure hq | exact wpAny_rule hq
    show wpAny _ _ ((match (layNew t es (hashInt k) (.int k tk)).2.2.2 with | true => rule "set.scan.the-table-gave-way" | false => pure ()) >>= _) _ _ _
    generalize hz : layNew t es (hashInt k) (.int k tk) = z at q1 q2 q3 ⊢
    obtain ⟨ez, tz, was, gave⟩ := z
    dsimp only at q1 q2 q3 ⊢
    have p0 : ez.toList.Perm (es.toList ++ [(hashInt k, Value.int k tk)]) := by rw [Array.toList_push] at q1; exact q1
    have p1 : IEl ez.toList := IEl.perm (fun e he => by
      rcases List.mem_append.mp he with he | he
      · exact h1 e he
      · have : e = (hashInt k, Value.int k tk) := by simpa using he
        exact ⟨k, tk, this⟩) p0
    have p2 : (ez.toList.filterMap iOf).Perm (addN ns k) := by
      refine (p0.filterMap iOf).trans ?_
      unfold addN
      rw [if_neg hk, List.filterMap_append]
      exact List.Perm.append_right _ h2
    have p3 : ez.size < scanBound := by
      have := p0.length_eq
      rw [Array.length_toList, List.length_append, Array.length_toList] at this
      simp at this
      omega
    refine wpAny_bind (hgw _ _ _ ?_)
    have fin : ∀ h', Heap.SameBut a s.heap h' → SetI w a (addN ns k) h' → Q true { s with heap := h' } := fun h' => h true h'
    split
    · refine wpAny_bind ?_
      rw [hashByValue_scannable 8 (x := .int k tk) rfl]
      refine wpAny_pure ?_
      refine seti_tail (g := fun b => match b with | true => rule "set.scan.the-table-gave-way" | false => pure ()) hgw ho x hd p1 p2 p3 ?_ ?_ ?_
      · split
        · exact q2
        · exact SetTable.fits_plain_off q2
      · split
        · exact q3
        · exact q3.off
      · intro h' a1 a2; dsimp only; exact wpAny_pure (fin h' a1 a2)
    · refine wpAny_bind (wpAny_pure ?_)
      simp only [↓reduceIte]
      refine seti_tail (g := fun b => match b with | true => rule "set.scan.the-table-gave-way" | false => pure ()) hgw ho x hd p1 p2 p3 q2 q3 ?_
      intro h' a1 a2; dsimp only; exact wpAny_pure (fin h' a1 a2)
end
end PySem

set_option Elab.async false
set_option linter.all false
set_option maxRecDepth 100000
namespace PySem
open Sem (wp)
open PyProof.Rows
section
variable {prog : Program} {w : World} {A : Around} {E : Value → Shared → Prop} {s : Shared} {R : Result → Shared → Prop}
/-- the numbers at hand, each once -/
def onceN (val : Nat → Int) : Nat → List Int
  | 0 => []
  | i + 1 => addN (onceN val i) (val i)
theorem onceN_len (val : Nat → Int) : ∀ i, (onceN val i).length ≤ i
  | 0 => Nat.le_refl _
  | i + 1 => by
    have := onceN_len val i
    unfold onceN addN
    split
    · omega
    · simp; omega
theorem onceN_nd (val : Nat → Int) : ∀ i, (onceN val i).Nodup
  | 0 => List.nodup_nil
  | i + 1 => by
    have ih := onceN_nd val i
    unfold onceN addN
    split
    · exact ih
    · rename_i h
      rw [List.nodup_append]
      refine ⟨ih, by simp, fun a ha b hb => ?_⟩
      have e : b = val i := by simpa using hb
      subst e
      exact fun z => h (z ▸ ha)
theorem onceN_mem (val : Nat → Int) (k : Int) : ∀ i, k ∈ onceN val i ↔ ∃ j, j < i ∧ val j = k
  | 0 => ⟨fun h => absurd h (by simp [onceN]), fun ⟨j, h, _⟩ => absurd h (by omega)⟩
  | i + 1 => by
    have ih := onceN_mem val k i
    have key : k ∈ onceN val (i + 1) ↔ k ∈ onceN val i ∨ k = val i := by
      show k ∈ addN (onceN val i) (val i) ↔ _
      unfold addN
      split
      · rename_i h
        exact ⟨.inl, fun z => z.elim id fun e => e ▸ h⟩
      · simp
    rw [key, ih]
    constructor
    · rintro (⟨j, h, e⟩ | rfl)
      · exact ⟨j, by omega, e⟩
      · exact ⟨i, by omega, rfl⟩
    · rintro ⟨j, h, e⟩
      by_cases q : j = i
      · subst q; exact .inr e.symm
      · exact .inl ⟨j, by omega, e⟩
theorem seti_loop {I : Addr} {fp wr : List Addr} {G : Array GenState → Array GenState → Prop} {n : Nat} {P : Nat → Value → Prop} {St : Nat → Shared → Prop} (W : WalksS prog w A.in1 I fp wr G n P St) (S : Addr) (hSf : S ∉ fp)
    (val : Nat → Int) (hval : ∀ i v, P i v → ∃ t, v = .int (val i) t) (hb : n + 1 < scanBound) : ∀ (m i : Nat) (z : Shared), n - i = m → i ≤ n → St i z → SetI w S (onceN val i) z.heap →
      (∀ z', Moved (S :: wr) G z z' → SetI w S (onceN val n) z'.heap → R (.ok (.ret .none)) z') → codeAny (model prog w) A (.builtin "set.update.loop" ⟨[.ref S, .ref I], []⟩) R z := by
  have sw : S ∉ wr := fun q => hSf (W.sub _ q)
  have sb : ∀ b ∈ wr, b ∈ S :: wr := fun b q => List.mem_cons_of_mem _ q
  intro m
  induction m with
  | zero =>
    intro i z e1 e2 st x q
    have : i = n := by omega
    subst this
    refine codeAny_builtin PyProof.Rows.F.entry_set_update_loop ?_
    rw [Around.under_plainId PyProof.Rows.F.plain_set_update_loop _]
    show wpAny _ A.in1 (pyNext (.ref I) >>= _) _ _ z
    refine wpAny_bind (W.done z _ _ st fun z' mv => ?_)
    exact wpAny_pure (q z' (mv.mono sb) (x.keep fun o e => mv.heap S _ sw e))
  | succ m ih =>
    intro i z e1 e2 st x q
    refine codeAny_builtin PyProof.Rows.F.entry_set_update_loop ?_
    rw [Around.under_plainId PyProof.Rows.F.plain_set_update_loop _]
    show wpAny _ A.in1 (pyNext (.ref I) >>= _) _ _ z
    refine wpAny_bind (W.item i z _ _ (by omega) st fun v z' hv st' mv => ?_)
    obtain ⟨t, rfl⟩ := hval i v hv
    have x' := x.keep (h' := z'.heap) fun o e => mv.heap S _ sw e
    show wpAny _ A.in1 (holding [Value.int (val i) t] (setAdd S (.int (val i) t)) >>= _) _ _ z'
    refine wpAny_bind (wpAny_holding ?_)
    unfold setAdd
    refine wpAny_holding (wpAny_bind ((intKind prog w).pyHash (k := val i) (intKind_is _ _ _ _) ?_))
    refine seti_add (s := { z' with toks := z'.toks + 1 }) x' (by have := onceN_len val i; omega) fun r h' a1 a2 => ?_
    refine wpAny_pure ⟨plainId_quiet PyProof.Rows.F.plain_set_update_loop _, ih (i + 1) _ (by omega) (by omega) (W.frame _ z' _ _ st' (Nat.le_succ _) fun b hb o e => ?_) a2 fun z'' mv' x'' => ?_⟩
    · rw [a1.2 b fun h : b = S => hSf (h ▸ hb)]; exact e
    · refine q z'' (Moved.trans W.gtrans ((mv.mono sb).then_heap (Nat.le_succ _) fun b o hb e => ?_) mv') x''
      rw [a1.2 b fun h : b = S => hb (by rw [h]; exact List.mem_cons_self)]; exact e
theorem set_new_1 (a : Value) {Q : Value → Shared → Prop} (h : Q (.ref s.heap.objs.size) { s with heap := s.heap.push { cls := .type "set", dict := none, data := .set #[] 0 (.fresh 0 0 (!byTx w)) } }) :
    codeAny (model prog w) A (.call (.builtin "set.__new__") ⟨[.type "set", a], []⟩) (wants Q E) s := by
  refine codeAny_of_tree ?_
  show wpAny _ A.in1 (checkBuiltinCall "set.__new__" ⟨[.type "set", a], []⟩ >>= fun _ => again (.builtin "set.__new__" ⟨[.type "set", a], []⟩)) _ _ s
  refine wpAny_bind (wpAny_of_eq (F.newCall_set_1 a) (wpAny_pure ⟨plainId_quiet F.plain_set_new _, codeAny_builtin F.entry_set_new ?_⟩))
  rw [Around.under_plainId F.plain_set_new _]
  unfold Builtin.«set.__new__» Builtin.Frozenset.newClass
  have q := sub_set_self
  obtain ⟨hp, g, d, tk, os⟩ := s
  dsimp only
  wp_walk
  refine wpAny_askSetting (wpAny_pure ?_)
  dsimp only
  simp only [newObj]
  exact wpAny_bind (wpAny_alloc (wpAny_pure (wpAny_pure h)))
set_option maxHeartbeats 3200000 in
theorem call_setI {l : Addr} {T : String} {items : Array Value} {od : Option Addr} {nl : Nat} {os : Array (Option Value)} {ns : List Int} {ob : Obj} {Q : Value → Shared → Prop} (hol : s.heap.get? l = some { cls := .type T, dict := od, data := .seq items nl, slots := os })
    (hsls : isSubtype (.type T) (.type "set") = pure false) (hslf : isSubtype (.type T) (.type "frozenset") = pure false) (hne : (Value.type T == Value.type "dict") = false) (hi : IntsAre items.toList ns) (hb : items.size + 1 < scanBound) {St : Nat → Heap → Prop}
    (iter : ∀ {A' : Around} {E' : Value → Shared → Prop} {Q' : Value → Shared → Prop} {z : Shared}, z.heap.get? l = some { cls := .type T, dict := od, data := .seq items nl, slots := os } → Q' (.ref z.heap.objs.size) { z with heap := z.heap.push ob } → wpAny (model prog w) A' (pyIter (.ref l)) Q' E' z)
    (W : Walks prog w A.in1.in1.in1 (s.heap.objs.size + 1) [s.heap.objs.size + 1, l] [s.heap.objs.size + 1] items.size (fun i v => items[i]? = some v) St)
    (hst : ∀ z : Heap, z.objs.size = s.heap.objs.size + 1 → z.get? l = some { cls := .type T, dict := od, data := .seq items nl, slots := os } → St 0 (z.push ob))
    (h : ∀ (h' : Heap) (tk : Nat), SetI w s.heap.objs.size (onceN (fun i => ns.getD i 0) items.size) h' → (∀ b o, s.heap.get? b = some o → h'.get? b = some o) → Q (.ref s.heap.objs.size) { s with heap := h', toks := tk }) :
    wpAny (model prog w) A (call (.type "set") [.ref l]) Q E s := by
  obtain ⟨c, tl, hmro⟩ := F.called_set.mro
  have hmade := F.called_set.made
  have hsub := F.called_set.sub
  refine wpAny_call (codeAny_of_tree ?_)
  show wpAny _ _ (callAny (.type "set") _) _ _ _
  refine wpAny_pure ⟨Code.quiet_builtin _ (by decide +kernel), codeAny_builtin F.entry_type_call ?_⟩
  rw [Around.under_plain (weight_type_call_type "set" [.ref l] []) rfl]
  have g1 := F.called_set.notType
  have g2 := F.called_set.canCreate
  have g3 := F.typeCall_set_1 (.ref l)
  repeat (any_goals (first | assumption | wp_step))
  refine codeAny_mono (set_new_1 (.ref l) (E := E) (Q := fun x z => x = .ref s.heap.objs.size ∧ z = { s with heap := s.heap.push { cls := .type "set", dict := none, data := .set #[] 0 (.fresh 0 0 (!byTx w)) } }) ⟨rfl, rfl⟩) fun r z hr => ?_
  cases r with
  | error e => exact hr
  | ok fl =>
    cases fl with
    | ret x =>
      obtain ⟨rfl, rfl⟩ := hr
      have kp : ∀ b o, s.heap.get? b = some o → (s.heap.push { cls := .type "set", dict := none, data := .set #[] 0 (.fresh 0 0 (!byTx w)) }).get? b = some o := fun b o e => Heap.get?_push_of_some _ e
      have hS : (s.heap.push { cls := .type "set", dict := none, data := .set #[] 0 (.fresh 0 0 (!byTx w)) }).get? s.heap.objs.size = some { cls := .type "set", dict := none, data := .set #[] 0 (.fresh 0 0 (!byTx w)) } := Heap.get?_push_size _ rfl
      have hz : (s.heap.push { cls := .type "set", dict := none, data := .set #[] 0 (.fresh 0 0 (!byTx w)) }).objs.size = s.heap.objs.size + 1 := by rw [Heap.size_push]
      have hol' := kp l _ hol
      have hlS : l < s.heap.objs.size := Heap.lt_size hol
      generalize s.heap.push { cls := .type "set", dict := none, data := .set #[] 0 (.fresh 0 0 (!byTx w)) } = h1 at hS kp hz hol' ⊢
      have hT : Shared.TypeIs { s with heap := h1 } (.ref s.heap.objs.size) "set" := ⟨_, hS, rfl⟩
      have hli := F.called_set.init.lookup
      have hbi := F.called_set.init.bind (.ref s.heap.objs.size)
      repeat (any_goals (first | assumption | wp_step))
      refine codeAny_mono (codeAny_call_builtin (R := wants (fun r z => r = .none ∧ ∃ h' tk, z = { s with heap := h', toks := tk } ∧ SetI w s.heap.objs.size (onceN (fun i => ns.getD i 0) items.size) h' ∧ (∀ b o, s.heap.get? b = some o → h'.get? b = some o)) E)
        F.called_set.init.plain F.entry_set_init (check_set_init_1 hT ?_)) fun r₂ s₂ hr₂ => ?_
      · unfold Builtin.«set.__init__» noKeywords Builtin.Frozenset.updateFrom
        generalize hPI : pyIter = PI
        wp_walk
        subst hPI
        refine iter hol' ?_
        refine wpAny_bind (wpAny_runValue ?_)
        have hval : ∀ (i : Nat) (v : Value), items[i]? = some v → ∃ t, v = .int ((fun i => ns.getD i 0) i) t := fun i v hv => IntsAre.int_at hi i v (by rw [Array.getElem?_toList]; exact hv)
        have hS1 : s.heap.objs.size ∉ [s.heap.objs.size + 1, l] := fun q => by
          rcases List.mem_cons.mp q with q | q
          · exact absurd q (Nat.ne_of_lt (Nat.lt_succ_self _))
          · exact absurd (List.mem_singleton.mp q) (Nat.ne_of_gt hlS)
        show codeAny _ _ (.builtin "set.update.loop" ⟨[.ref s.heap.objs.size, .ref h1.objs.size], []⟩) _ _
        rw [hz]
        refine seti_loop (A := A.in1.in1) W.toS s.heap.objs.size hS1 (fun i => ns.getD i 0) hval hb (items.size - 0) 0 _ (by omega) (Nat.zero_le _) (hst h1 hz hol') ?hS0 ?hR
        case hS0 => exact ⟨_, #[], 0, _, Heap.get?_push_of_some _ hS, ⟨rfl, rfl, rfl⟩, rfl, fun e he => by simp at he, by simp [onceN], by decide, by rfl, rfl, fun _ => by simp [SetTable.fresh]⟩
        case hR =>
          intro z' mv x
          obtain ⟨h', g', d', tk', os'⟩ := z'
          have eg : g' = s.gens := mv.gens
          have ed : d' = s.drawn := mv.drawn
          have eo : os' = s.os := mv.os
          subst eg ed eo
          show wpAny _ _ _ _ _ _
          refine wpAny_pure ?_
          show wpAny _ _ (ret Value.none) _ _ _
          refine wpAny_pure ⟨rfl, h', tk', rfl, x, fun b o e => ?_⟩
          have hb0 := Heap.lt_size e
          have hb1 : b ∉ s.heap.objs.size :: [s.heap.objs.size + 1] := fun q => by
            rcases List.mem_cons.mp q with q | q
            · exact absurd q (Nat.ne_of_lt hb0)
            · exact absurd (List.mem_singleton.mp q) (Nat.ne_of_lt (Nat.lt_succ_of_lt hb0))
          exact mv.heap b o hb1 (Heap.get?_push_of_some _ (kp b o e))
      · cases r₂ with
        | error e => exact hr₂
        | ok fl₂ =>
          cases fl₂ with
          | ret r =>
            obtain ⟨rfl, h', tk, rfl, x, kq⟩ := hr₂
            repeat (any_goals (first | assumption | wp_step))
            exact h _ _ x kq
          | _ => exact hr₂.elim
    | _ => exact hr.elim
end
end PySem

set_option Elab.async false
set_option linter.all false
set_option maxRecDepth 100000
/-! A set of whole numbers walked: in some order, whichever it is. -/
namespace PySem
open Sem (wp)
open PyProof.Rows
theorem slot_sit : Slot "set_iterator" "__next__" "set_iterator.__next__" :=
  Slot.of (owner := "set_iterator") (n := "__next__") (by rw [typeLookup_type, builtinLookup_eq_fast]; kernel_rfl) (by decide +kernel) (by decide +kernel)
    (by decide +kernel) (by first | exact .inl (by decide +kernel) | exact .inr (by decide +kernel)) (by rw [isSubtype_type]; kernel_rfl)
theorem entry_sit : entryFor table "set_iterator.__next__" = some Builtin.«set_iterator.__next__» := entryFor_of_tree (by kernel_rfl)
theorem args_sit (a : Value) : argsOk "set_iterator.__next__" ⟨[a], []⟩ := by unfold argsOk; kernel_rfl
theorem entry_siter : entryFor table "set.__iter__" = some Builtin.«frozenset.__iter__» := entryFor_alias (id' := "frozenset.__iter__") (by kernel_rfl) rfl (by decide +kernel) (by kernel_rfl)
section
variable {prog : Program} {w : World} {A : Around} {E : Value → Shared → Prop} {s : Shared}
theorem wpAny_chooseN {M : Model} {src : Source} {n : Nat} {Q : Nat → Shared → Prop} (hn : 0 < n) (h : ∀ i d, i < n → Q i { s with drawn := d }) : wpAny M A (choose src n) Q E s := fun Γ p hΓ => by
  unfold choose
  rw [Sem.wp_choose]
  refine ⟨Nat.ne_of_gt hn, ?_⟩
  rw [Sem.wp_pure]
  exact h _ _ (Nat.mod_lt _ hn)
theorem wpAny_drawOrder {M : Model} {α : Type} : ∀ (n : Nat) (xs : List α) {s : Shared} {Q : List α → Shared → Prop}, n = xs.length → (∀ ys d, ys.Perm xs → Q ys { s with drawn := d }) → wpAny M A (drawOrder n xs) Q E s
  | 0, [], s, Q, _, h => by unfold drawOrder; exact wpAny_pure (h [] s.drawn .nil)
  | 0, _ :: _, s, Q, e, _ => by cases e
  | n + 1, [], s, Q, e, _ => by cases e
  | n + 1, x :: xs, s, Q, e, h => by
    unfold drawOrder
    refine wpAny_bind (wpAny_chooseN (by simp) fun i d hi => ?_)
    rw [List.getElem?_eq_getElem hi]
    dsimp only
    refine wpAny_bind (wpAny_drawOrder n ((x :: xs).eraseIdx i) (by rw [List.length_eraseIdx_of_lt hi]; omega) fun ys d' p => wpAny_pure ?_)
    exact h _ _ ((List.Perm.cons _ p).trans (by have := eraseS_perm hi; rwa [List.singleton_append] at this))
/-- where a walk stands in the table -/
def stSl (t : SetTable) : Nat → Nat
  | 0 => 0
  | i + 1 => t.place.getD i 0 + 1
/-- the three ways in which a set is walked -/
def SMode (w : World) (a it pl : Addr) (es : Array (Int × Value)) (ep : Nat) (t : SetTable) (out : List Value) (i : Nat) (first : Value) (h : Heap) : Prop :=
  (byTx w = true ∧ first = .int 0 0 ∧ out = (pickOrder (w.params.setOrder a ep) es).toList.map (·.2)) ∨
  (byTx w = false ∧ (!t.plain && decide (es.size > 1)) = false ∧ t.place.toList.Pairwise (· < ·) ∧ first = .int (stSl t i : Nat) 0 ∧ out = es.toList.map (·.2)) ∨
  (byTx w = false ∧ first = .ref pl ∧ pl ≠ it ∧ ∃ ord : List Nat, h.IsTuple pl (ord.map fun i : Nat => rawInt i).toArray ∧ ord.Perm (List.range es.size) ∧ out = ord.map fun i => ((es[i]?).map (·.2)).getD .none)
def SSt (w : World) (a it pl : Addr) (o : Obj) (es : Array (Int × Value)) (ep : Nat) (t : SetTable) (out : List Value) (i : Nat) (h : Heap) : Prop :=
  h.get? a = some o ∧ out.length = es.size ∧ ∃ first, h.get? it = some { cls := .type "set_iterator", data := .fields #[first, .int i 0, .ref a, .int es.size 0, .int ep 0] } ∧ SMode w a it pl es ep t out i first h
structure SFix (w : World) (o : Obj) (es : Array (Int × Value)) (ep : Nat) (t : SetTable) : Prop where
  ex : o.ExactSet
  dat : o.data = .set es ep t
  fit : t.fits es.size = true
  led : t.led = !byTx w
theorem SSt.frame {a it pl : Addr} {o : Obj} {es : Array (Int × Value)} {ep : Nat} {t : SetTable} {out : List Value} {i : Nat} {h h' : Heap} (x : SSt w a it pl o es ep t out i h) (k : ∀ b ∈ [it, a, pl], ∀ o, h.get? b = some o → h'.get? b = some o) : SSt w a it pl o es ep t out i h' := by
  obtain ⟨x1, x2, f, x3, m⟩ := x
  refine ⟨k a (by simp) _ x1, x2, f, k it (by simp) _ x3, ?_⟩
  rcases m with m | m | ⟨m1, m2, m3, ord, m4, m5⟩
  · exact .inl m
  · exact .inr (.inl m)
  · exact .inr (.inr ⟨m1, m2, m3, ord, m4.at fun o e => k pl (by simp) o e, m5⟩)
theorem SSt.type {a it pl : Addr} {o : Obj} {es : Array (Int × Value)} {ep : Nat} {t : SetTable} {out : List Value} {i : Nat} (x : SSt w a it pl o es ep t out i s.heap) : s.TypeIs (.ref it) "set_iterator" := by
  obtain ⟨_, _, f, e, _⟩ := x
  exact ⟨_, e, rfl⟩
theorem fits_size {t : SetTable} {n : Nat} (h : t.fits n = true) : t.place.size = n := by
  simp only [SetTable.fits, Bool.and_eq_true, beq_iff_eq] at h
  exact h.1
theorem setNext_m1 {a : Addr} {o : Obj} {es : Array (Int × Value)} {ep i sl : Nat} {t : SetTable} {Q : Option (Value × Nat) → Shared → Prop} (F : SFix w o es ep t) (x : s.heap.get? a = some o) (m : byTx w = true)
    (q : Q ((((pickOrder (w.params.setOrder a ep) es).toList.map (·.2))[i]?).map fun v => (v, sl)) s) : wpAny (model prog w) A (setNext a sl i ep) Q E s := by
  unfold setNext
  refine wpAny_bind (wpAny_setState_of x F.dat F.fit ?_)
  dsimp only
  unfold setsByText
  refine wpAny_bind (wpAny_bind (wpAny_askSetting (wpAny_pure ?_)))
  refine wpAny_ite_split (fun _ => ?_) (fun z => absurd m z)
  rw [if_neg (by simp)]
  unfold setWalk
  refine wpAny_bind (wpAny_bind (wpAny_setState_of x F.dat F.fit ?_))
  dsimp only
  unfold setsByText
  refine wpAny_bind (wpAny_bind (wpAny_askSetting (wpAny_pure ?_)))
  refine wpAny_ite_split (fun _ => ?_) (fun z => absurd m z)
  refine wpAny_bind (wpAny_askSetting (wpAny_pure ?_))
  refine wpAny_pure ?_
  have e : ((pickOrder (w.params.setOrder a ep) es)[i]?).map (fun e : Int × Value => (e.2, sl)) = (((pickOrder (w.params.setOrder a ep) es).toList.map (·.2))[i]?).map fun v => (v, sl) := by
    rw [List.getElem?_map, Array.getElem?_toList, Option.map_map]
    rfl
  rw [← e] at q
  exact q
theorem setNext_m2 {a : Addr} {o : Obj} {es : Array (Int × Value)} {ep i : Nat} {t : SetTable} {Q : Option (Value × Nat) → Shared → Prop} (F : SFix w o es ep t) (x : s.heap.get? a = some o) (m : byTx w = false) (m2 : (!t.plain && decide (es.size > 1)) = false)
    (m3 : t.place.toList.Pairwise (· < ·)) (hi : i ≤ es.size) (q : Q (((es.toList.map (·.2))[i]?).map fun v => (v, stSl t (i + 1))) s) : wpAny (model prog w) A (setNext a (stSl t i) i ep) Q E s := by
  have hz := fits_size F.fit
  unfold setNext
  refine wpAny_bind (wpAny_setState_of x F.dat F.fit ?_)
  dsimp only
  unfold setsByText
  refine wpAny_bind (wpAny_bind (wpAny_askSetting (wpAny_pure ?_)))
  refine wpAny_ite_split (fun z => absurd ((show byTx w = true from z).symm.trans m) (by decide)) (fun _ => ?_)
  refine wpAny_ite_split (fun z => absurd ((show (!t.plain && decide (es.size > 1)) = true from z).symm.trans m2) (by decide)) (fun _ => ?_)
  show wpAny _ _ ((if (!t.led && !es.isEmpty) = true then unsupported "set:maker-not-led" else pure ()) >>= _) _ _ _
  rw [F.led, m]
  rw [if_neg (by simp)]
  refine wpAny_bind (wpAny_pure (wpAny_pure ?_))
  have e : SetTable.below t.place (stSl t i) = i := by
    cases i with
    | zero => exact SetTable.below_zero m3
    | succ j =>
      have hj : j < t.place.size := by omega
      have : stSl t (j + 1) = t.place[j] + 1 := by unfold stSl; simp [hj]
      rw [this]
      exact SetTable.below_next m3 (by simp [hj])
  rw [e]
  rcases Nat.lt_or_ge i es.size with hl | hl
  · have e1 : es[i]? = some (es[i].1, es[i].2) := by simp [hl]
    have e2 : t.place[i]? = some t.place[i] := by simp [hz, hl]
    rw [e1, e2]
    have e3 : (es.toList.map (·.2))[i]? = some es[i].2 := by rw [List.getElem?_map, Array.getElem?_toList, e1]; rfl
    rw [e3] at q
    have e4 : stSl t (i + 1) = t.place[i] + 1 := by unfold stSl; simp [hz, hl]
    rw [e4] at q
    exact q
  · have e1 : es[i]? = none := by simp [hl]
    have e3 : (es.toList.map (·.2))[i]? = none := by rw [List.getElem?_map, Array.getElem?_toList, e1]; rfl
    rw [e3] at q
    rw [e1]
    exact q
theorem upd_it {h : Heap} {it : Addr} {vs : Array Value} (f : Array Value → Array Value) (ho : h.get? it = some { cls := .type "set_iterator", data := .fields vs }) : (h.update it (Obj.mapFields f)).get? it = some { cls := .type "set_iterator", data := .fields (f vs) } := by
  have := Heap.get?_update_self (Obj.mapFields f) ho (Obj.isFreed_of_fields (Obj.data_mapFields rfl _))
  exact this
theorem pyNext_sit {a it pl : Addr} {o : Obj} {es : Array (Int × Value)} {ep : Nat} {t : SetTable} {out : List Value} {i : Nat} {v : Value} {Q : Option Value → Shared → Prop} (F : SFix w o es ep t) (x : SSt w a it pl o es ep t out i s.heap) (hne : a ≠ it)
    (hv : out[i]? = some v) (q : ∀ h', SSt w a it pl o es ep t out (i + 1) h' → Heap.SameBut it s.heap h' → Q (some v) { s with heap := h' }) : wpAny (model prog w) A (pyNext (.ref it)) Q E s := by
  have ty := x.type
  obtain ⟨x1, x2, first, x3, m⟩ := x
  have hi : i < out.length := by
    rcases Nat.lt_or_ge i out.length with z | z
    · exact z
    · rw [List.getElem?_eq_none z] at hv; cases hv
  unfold pyNext
  refine wpAny_bind (wpAny_attempt (wpAny_callSpecial?_slot (name := Str.ofString "__next__") ty slot_sit (wpAny_call_entry slot_sit ty entry_sit ?_ (args_sit _))))
  show wpAny _ _ (fieldsOf (.ref it) >>= _) _ _ s
  refine wpAny_bind (wpAny_fieldsOf x3 rfl ?_)
  show wpAny _ _ (setEntries a >>= _) _ _ s
  refine wpAny_bind (wpAny_setEntries_of x1 F.dat F.fit ?_)
  rw [if_neg (by simp)]
  have ot : ∀ (f : Obj → Obj) (h : Heap) (b : Addr) (ob : Obj), b ≠ it → h.get? b = some ob → (h.update it f).get? b = some ob := fun f h b ob hb e => (Heap.get?_update_other _ _ (Ne.symm hb)).trans e
  have go : ∀ (sl nx : Nat), s.heap.get? it = some { cls := .type "set_iterator", data := .fields #[.int sl 0, .int i 0, .ref a, .int es.size 0, .int ep 0] } → (∀ h', SMode w a it pl es ep t out (i + 1) (.int nx 0) h') →
      (∀ Q' : Option (Value × Nat) → Shared → Prop, ∀ E', Q' ((out[i]?).map fun v => (v, nx)) s → wpAny (model prog w) A.in1 (setNext a sl i ep) Q' E' s) →
      ∀ {E' : Value → Shared → Prop}, wpAny (model prog w) A.in1 (setNext a ((sl : Int).toNat) ((i : Int).toNat) ((ep : Int).toNat) >>= fun r => match r with
        | some (y, next) => setField (.ref it) 0 (rawInt next) >>= fun _ => setField (.ref it) 1 (rawInt ((i : Int) + 1)) >>= fun _ => ret y
        | none => setField (.ref it) 2 Value.none >>= fun _ => newExc (Value.type "StopIteration") [] >>= fun e => raiseNew e) (fun fin s' => ∃ v, fin = .done (.ret v) ∧ Q (some v) s') E' s := by
    intro sl nx x3 md nxt E'
    simp only [Int.toNat_natCast]
    refine wpAny_bind (nxt _ _ ?_)
    rw [hv]
    dsimp only [Option.map]
    refine wpAny_bind (wpAny_setField x3 rfl (by simp) (wpAny_bind ?_))
    have y1 := upd_it (·.setIfInBounds 0 (rawInt nx)) x3
    refine wpAny_setField (s := { s with heap := s.heap.update it (Obj.mapFields (·.setIfInBounds 0 (rawInt nx))) }) y1 rfl (by simp) (wpAny_pure ⟨v, rfl, ?_⟩)
    have y2 := upd_it (·.setIfInBounds 1 (rawInt ((i : Int) + 1))) y1
    exact q _ ⟨ot _ _ a o hne (ot _ _ a o hne x1), x2, .int nx 0, by rw [y2]; simp [rawInt], md _⟩ ((Heap.SameBut.update ..).trans (Heap.SameBut.update ..))
  rcases m with ⟨m1, rfl, m2⟩ | ⟨m1, m2, m3, rfl, m4⟩ | ⟨m1, rfl, m2, ord, ⟨ot', t1, t2, nt, t3⟩, m4, m5⟩
  · exact wpAny_mono (go 0 0 x3 (fun h' => .inl ⟨m1, rfl, m2⟩) fun Q' E' q' => setNext_m1 F x1 m1 (by rw [← m2]; exact q')) (fun fin s' ⟨v, e, h⟩ => ⟨v, e, wpAny_pure h⟩) fun e s' h => h
  · exact wpAny_mono (go (stSl t i) (stSl t (i + 1)) x3 (fun h' => .inr (.inl ⟨m1, m2, m3, rfl, m4⟩)) fun Q' E' q' => setNext_m2 F x1 m1 m2 m3 (by omega) (by rw [← m4]; exact q')) (fun fin s' ⟨v, e, h⟩ => ⟨v, e, wpAny_pure h⟩) fun e s' h => h
  · show wpAny _ _ (seqItems? (.ref pl) >>= _) _ _ s
    refine wpAny_bind (wpAny_seqItems t1 t3 ?_)
    rw [m5, List.getElem?_map] at hv
    cases ho : ord[i]? with
    | none => rw [ho] at hv; cases hv
    | some j =>
      rw [ho] at hv
      have hj : j < es.size := by
        have : j ∈ List.range es.size := m4.mem_iff.mp (List.mem_of_getElem? ho)
        exact List.mem_range.mp this
      have ej : es[j]? = some (es[j].1, es[j].2) := by simp [hj]
      have ev : v = es[j].2 := by simp only [Option.map_some, ej] at hv; cases hv; rfl
      have ep1 : ((ord.map fun i : Nat => rawInt i).toArray)[(i : Int).toNat]? = some (.int j 0) := by
        rw [List.getElem?_toArray, Int.toNat_natCast, List.getElem?_map, ho]
        rfl
      dsimp only
      rw [ep1]
      dsimp only
      refine wpAny_bind ?_
      unfold setNextDrawn
      refine wpAny_bind (wpAny_setState_of x1 F.dat F.fit ?_)
      dsimp only
      rw [if_neg (by simp), Int.toNat_natCast, ej]
      dsimp only
      refine wpAny_pure ?_
      refine wpAny_bind (wpAny_setField x3 rfl (by simp) (wpAny_pure ⟨_, rfl, wpAny_pure ?_⟩))
      have y2 := upd_it (·.setIfInBounds 1 (rawInt ((i : Int) + 1))) x3
      rw [← ev]
      exact q _ ⟨ot _ _ a o hne x1, x2, .ref pl, by rw [y2]; simp [rawInt], .inr (.inr ⟨m1, rfl, m2, ord, ⟨ot', ot _ _ pl ot' m2 t1, t2, nt, t3⟩, m4, m5⟩)⟩ (Heap.SameBut.update ..)
theorem pyNext_sit_end {a it pl : Addr} {o : Obj} {es : Array (Int × Value)} {ep : Nat} {t : SetTable} {out : List Value} {Q : Option Value → Shared → Prop} (hh : A.handled = none) (F : SFix w o es ep t) (x : SSt w a it pl o es ep t out out.length s.heap)
    (q : ∀ h', Heap.ExtBut it s.heap h' → Q none { s with heap := h' }) : wpAny (model prog w) A (pyNext (.ref it)) Q E s := by
  have ty := x.type
  obtain ⟨x1, x2, first, x3, m⟩ := x
  unfold pyNext
  refine wpAny_bind (wpAny_attempt (wpAny_callSpecial?_slot (name := Str.ofString "__next__") ty slot_sit (wpAny_call_entry slot_sit ty entry_sit ?_ (args_sit _))))
  show wpAny _ _ (fieldsOf (.ref it) >>= _) _ _ s
  refine wpAny_bind (wpAny_fieldsOf x3 rfl ?_)
  show wpAny _ _ (setEntries a >>= _) _ _ s
  refine wpAny_bind (wpAny_setEntries_of x1 F.dat F.fit ?_)
  rw [if_neg (by simp)]
  have fin : ∀ {α : Type} (h1 : Heap) (B : Around) (Q' : α → Shared → Prop), B.handled = none → Heap.ExtBut it s.heap h1 → wpAny (model prog w) B (newExc (Value.type "StopIteration") [] >>= fun e => raiseNew e)
      Q' (fun e s' => wpAny (model prog w) A (isInstance e (Value.type "StopIteration") >>= fun b => if b = true then pure none else throw e) Q E s') { s with heap := h1 } := by
    intro α h1 B Q' hB k1
    refine wpAny_bind ?_
    simp only [newExc, newTuple]
    refine wpAny_bind (wpAny_newObj_type (wpAny_bind (m := firstArgMember _ _) (wpAny_of_eq (a := Value.none) (by first | rfl | (simp only [firstArgMember]; rfl)) (wpAny_newObj_type ?_ (by size_fits)))) (by size_fits))
    simp only [raiseNew]
    refine wpAny_bind (wpAny_handled ?_)
    rw [hB]
    refine wpAny_bind (wpAny_pure (wpAny_throw ?_))
    refine wpAny_bind (wpAny_isInstance (T := "StopIteration") (b := true) ⟨_, Heap.get?_push_size _ rfl, rfl⟩ isSubtype_stop (wpAny_pure ?_))
    exact q _ ((k1.push _).push _)
  have no : out[out.length]? = none := by simp
  rcases m with ⟨m1, rfl, m2⟩ | ⟨m1, m2, m3, rfl, m4⟩ | ⟨m1, rfl, m2, ord, ⟨ot', t1, t2, nt, t3⟩, m4, m5⟩
  · show wpAny _ _ (setNext a _ _ _ >>= _) _ _ s
    simp only [Int.toNat_natCast]
    refine wpAny_bind (setNext_m1 F x1 m1 ?_)
    rw [← m2, no]
    dsimp only [Option.map]
    exact wpAny_bind (wpAny_setField x3 rfl (by simp) (fin _ _ _ hh (Heap.SameBut.update ..).extBut))
  · show wpAny _ _ (setNext a _ _ _ >>= _) _ _ s
    simp only [Int.toNat_natCast]
    refine wpAny_bind (setNext_m2 F x1 m1 m2 m3 (by omega) ?_)
    rw [← m4, no]
    dsimp only [Option.map]
    exact wpAny_bind (wpAny_setField x3 rfl (by simp) (fin _ _ _ hh (Heap.SameBut.update ..).extBut))
  · show wpAny _ _ (seqItems? (.ref pl) >>= _) _ _ s
    refine wpAny_bind (wpAny_seqItems t1 t3 ?_)
    have ol : ord.length = out.length := by rw [m5, List.length_map]
    have ep1 : ((ord.map fun i : Nat => rawInt i).toArray)[((out.length : Nat) : Int).toNat]? = none := by
      rw [List.getElem?_toArray, Int.toNat_natCast, List.getElem?_map, List.getElem?_eq_none (by omega)]
      rfl
    dsimp only
    rw [ep1]
    dsimp only
    refine wpAny_bind (wpAny_setField x3 rfl (by simp) (wpAny_bind ?_))
    have y1 := upd_it (·.setIfInBounds 0 (rawInt 0)) x3
    exact wpAny_setField (s := { s with heap := s.heap.update it (Obj.mapFields (·.setIfInBounds 0 (rawInt 0))) }) y1 rfl (by simp) (fin _ _ _ hh ((Heap.SameBut.update ..).trans (Heap.SameBut.update ..)).extBut)
end
end PySem

set_option Elab.async false
set_option linter.all false
set_option maxRecDepth 100000
/-! sorted(set(..)) of whole numbers. -/
namespace PySem
open Sem (wp)
open PyProof.Rows
theorem slot_sitI : Slot "set_iterator" "__iter__" "set_iterator.__iter__" :=
  Slot.of (owner := "set_iterator") (n := "__iter__") (by rw [typeLookup_type, builtinLookup_eq_fast]; kernel_rfl) (by decide +kernel) (by decide +kernel)
    (by decide +kernel) (by first | exact .inl (by decide +kernel) | exact .inr (by decide +kernel)) (by rw [isSubtype_type]; kernel_rfl)
theorem entry_sitI : entryFor table "set_iterator.__iter__" = some Builtin.«dict_keyiterator.__iter__» := entryFor_alias (id' := "dict_keyiterator.__iter__") (by kernel_rfl) rfl (by decide +kernel) (by kernel_rfl)
theorem args_sitI (a : Value) : argsOk "set_iterator.__iter__" ⟨[a], []⟩ := by unfold argsOk; kernel_rfl
section
variable {prog : Program} {w : World} {A : Around} {E : Value → Shared → Prop} {s : Shared}
theorem IEl.ints {l : List (Int × Value)} : IEl l → IntsAre (l.map (·.2)) (l.filterMap iOf) := by
  induction l with
  | nil => intro _; exact .nil
  | cons e l ih =>
    intro h
    obtain ⟨k, t, rfl⟩ := h e (by simp)
    exact .cons k t (ih fun e he => h e (by simp [he]))
theorem map_pick (es : Array (Int × Value)) : ∀ (l : List Nat), (∀ j ∈ l, j < es.size) → (l.map fun i => ((es[i]?).map (·.2)).getD Value.none) = (l.filterMap fun i => es[i]?).map (·.2)
  | [], _ => rfl
  | j :: l, h => by
    have hj := h j (by simp)
    have e : es[j]? = some es[j] := by simp [hj]
    rw [List.map_cons, List.filterMap_cons, e, map_pick es l fun i hi => h i (by simp [hi])]
    rfl
theorem pyIter_seti {a : Addr} {ns : List Int} {Q : Value → Shared → Prop} (x : SetI w a ns s.heap) (q : ∀ h' d' it pl o es ep t out ms, SFix w o es ep t → SSt w a it pl o es ep t out 0 h' → (∀ b ob, s.heap.get? b = some ob → h'.get? b = some ob) →
      s.heap.objs.size ≤ it → s.heap.objs.size ≤ pl → IntsAre out ms → ms.Perm ns → Q (.ref it) { s with heap := h', drawn := d' }) : wpAny (model prog w) A (pyIter (.ref a)) Q E s := by
  have ty := x.type
  obtain ⟨o, es, ep, t, ho, ex, hd, h1, h2, h3, h4, h5, h6⟩ := x
  have F : SFix w o es ep t := ⟨ex, hd, h4, h5⟩
  have hz := fits_size h4
  refine wpAny_pyIter_slot ty PySem.F.slot_set_iter (wpAny_call_entry PySem.F.slot_set_iter ty entry_siter ?_ (PySem.F.args_set_iter_1 _))
  unfold Builtin.«frozenset.__iter__» Builtin.Frozenset.slot0 slotArgs
  simp only [List.isEmpty_nil, Bool.not_true, Bool.false_eq_true, ↓reduceIte, bind_assoc, List.length_nil, bne_self_eq_false]
  unfold Builtin.Frozenset.addrOf Builtin.Frozenset.sizeOf
  refine wpAny_bind (wpAny_pure ?_)
  try dsimp only
  refine wpAny_bind (wpAny_pure ?_)
  refine wpAny_bind (wpAny_bind (wpAny_setEntries_of ho hd h4 (wpAny_pure ?_)))
  unfold setDrawn
  refine wpAny_bind (wpAny_bind (wpAny_setState_of ho hd h4 ?_))
  dsimp only
  unfold setsByText
  refine wpAny_bind (wpAny_bind (wpAny_askSetting (wpAny_pure (wpAny_pure ?_))))
  have fin : ∀ (h' : Heap) (d' : _) (pl : Addr) (first : Value) (out : List Value) (ms : List Int), (∀ b ob, s.heap.get? b = some ob → h'.get? b = some ob) → s.heap.objs.size ≤ h'.objs.size → s.heap.objs.size ≤ pl →
      SMode w a h'.objs.size pl es ep t out 0 first (h'.push { cls := .type "set_iterator", data := .fields #[first, .int 0 0, .ref a, .int es.size 0, .int ep 0] }) → out.length = es.size → IntsAre out ms → ms.Perm ns →
      wpAny (model prog w) A.in1 (setEpoch a >>= fun e => newFields "set_iterator" [first, rawInt 0, .ref a, rawInt es.size, rawInt e] >>= fun v => ret v)
        (fun fin s' => ∃ v, fin = .done (.ret v) ∧ ∃ T' r, s'.TypeIs v T' ∧ typeLookup (.type T') "__next__" = pure (some r) ∧ Q v s') E { s with heap := h', drawn := d' } := by
    intro h' d' pl first out ms kp z1 z2 md ol ia pm
    refine wpAny_bind (wpAny_setEpoch_of (s := { s with heap := h', drawn := d' }) (kp a o ho) hd h4 ?_)
    unfold newFields
    refine wpAny_bind (wpAny_newObj_type (wpAny_pure ⟨_, rfl, "set_iterator", _, ⟨_, Heap.get?_push_size _ rfl, rfl⟩, slot_sit.lookup, ?_⟩))
    have g : (h'.push { cls := .type "set_iterator", data := .fields #[first, .int 0 0, .ref a, .int es.size 0, .int ep 0] }).get? h'.objs.size = some { cls := .type "set_iterator", data := .fields #[first, .int 0 0, .ref a, .int es.size 0, .int ep 0] } := Heap.get?_push_size _ rfl
    exact q _ d' h'.objs.size pl o es ep t out ms F ⟨Heap.get?_push_of_some _ (kp a o ho), ol, first, g, md⟩ (fun b ob e => Heap.get?_push_of_some _ (kp b ob e)) z1 z2 ia pm
  cases hb : byTx w with
  | true =>
    refine wpAny_ite_split (fun z => ?_) (fun _ => ?_)
    · exfalso
      have : (!byTx w && (!t.plain && decide (es.size > 1))) = true := z
      rw [hb] at this
      cases this
    · refine wpAny_bind (wpAny_pure ?_)
      have p1 := pickOrder_perm (w.params.setOrder a ep) es
      refine fin s.heap s.drawn s.heap.objs.size (.int 0 0) _ _ (fun _ _ e => e) (Nat.le_refl _) (Nat.le_refl _) (.inl ⟨hb, rfl, rfl⟩) ?_ (IEl.ints (h1.perm p1)) ((p1.filterMap iOf).trans h2)
      rw [List.length_map, p1.length_eq, Array.length_toList]
  | false =>
    refine wpAny_ite_split (fun z => ?_) (fun z => ?_)
    · refine wpAny_bind (wpAny_drawOrder es.size (List.range es.size) (by simp) fun ord d' p => ?_)
      refine wpAny_bind (wpAny_newTuple ?_ ?_)
      · have lt : ∀ j ∈ ord, j < es.size := fun j hj => List.mem_range.mp (p.mem_iff.mp hj)
        have p1 : (ord.filterMap fun i => es[i]?).Perm es.toList := (p.filterMap _).trans (by rw [filterMap_getElem?_range])
        have g : (s.heap.push { cls := .type "tuple", data := .seq (ord.map fun i : Nat => rawInt i).toArray }).get? s.heap.objs.size = some { cls := .type "tuple", data := .seq (ord.map fun i : Nat => rawInt i).toArray } := Heap.get?_push_size _ rfl
        refine fin _ d' s.heap.objs.size (.ref s.heap.objs.size) (ord.map fun i => ((es[i]?).map (·.2)).getD .none) ((ord.filterMap fun i => es[i]?).filterMap iOf) (fun b ob e => Heap.get?_push_of_some _ e) (by rw [Heap.size_push]; exact Nat.le_succ _) (Nat.le_refl _) ?_ ?_ ?_ ((p1.filterMap iOf).trans h2)
        · refine .inr (.inr ⟨hb, rfl, by rw [Heap.size_push]; exact Nat.ne_of_lt (Nat.lt_succ_self _), ord, ⟨_, Heap.get?_push_of_some _ g, rfl, 0, rfl⟩, p, rfl⟩)
        · rw [List.length_map, p.length_eq, List.length_range]
        · rw [map_pick es ord lt]
          exact IEl.ints (h1.perm p1)
      · have : ord.length = es.size := by rw [p.length_eq, List.length_range]
        have hb : scanBound = 4096 := rfl
        simp only [List.length_map, this]
        rw [sizeLine_eq]
        omega
    · refine wpAny_bind (wpAny_pure ?_)
      have z' : (!t.plain && decide (es.size > 1)) = false := by
        have : ¬ (!byTx w && (!t.plain && decide (es.size > 1))) = true := z
        rw [hb] at this
        simpa using this
      refine fin s.heap s.drawn s.heap.objs.size (.int 0 0) _ _ (fun _ _ e => e) (Nat.le_refl _) (Nat.le_refl _) (.inr (.inl ⟨hb, z', ?_, rfl, rfl⟩)) ?_ (IEl.ints h1) h2
      · cases hp : t.plain with
        | true => exact h6 hp
        | false =>
          rw [hp] at z'
          have : t.place.toList.length ≤ 1 := by rw [Array.length_toList, hz]; simpa using z'
          match t.place.toList, this with
          | [], _ => exact .nil
          | [a], _ => exact List.pairwise_singleton _ _
          | _ :: _ :: _, h => exact absurd h (by simp)
      · rw [List.length_map, Array.length_toList]
theorem pyIter_sit {a it pl : Addr} {o : Obj} {es : Array (Int × Value)} {ep : Nat} {t : SetTable} {out : List Value} {i : Nat} {Q : Value → Shared → Prop} (x : SSt w a it pl o es ep t out i s.heap) (q : Q (.ref it) s) : wpAny (model prog w) A (pyIter (.ref it)) Q E s := by
  have ty := x.type
  refine wpAny_pyIter_slot ty slot_sitI (wpAny_call_entry slot_sitI ty entry_sitI ?_ (args_sitI _))
  show wpAny _ _ (ret (.ref it)) _ _ s
  exact wpAny_pure ⟨_, rfl, "set_iterator", _, ty, slot_sit.lookup, q⟩
theorem walks_set {a it pl : Addr} {o : Obj} {es : Array (Int × Value)} {ep : Nat} {t : SetTable} (out : List Value) (hh : A.handled = none) (F : SFix w o es ep t) (hne : a ≠ it) :
    Walks prog w A it [it, a, pl] [it] out.length (fun i v => out[i]? = some v) (SSt w a it pl o es ep t out) where
  sub := fun b hb => by simp at hb; simp [hb]
  frame := fun _ _ _ st k => st.frame k
  item := fun i s Q E hi st hQ => by
    have e : out[i]? = some out[i] := by simp [hi]
    exact pyNext_sit F st hne e fun h' st' sb => hQ _ h' s.toks e st' fun b ob hb e => sb.extBut b ob (fun h => hb (by simp [h])) e
  done := fun s Q E st hQ => pyNext_sit_end hh F st fun h' ex => hQ h' s.toks fun b ob hb e => ex b ob (fun h => hb (by simp [h])) e
  self := fun _ _ _ _ st hQ => pyIter_sit st hQ
end
end PySem

set_option Elab.async false
set_option linter.all false
set_option maxRecDepth 100000
namespace PySem
open Sem (wp)
open PyProof.Rows
section
variable {prog : Program} {w : World} {A : Around} {E : Value → Shared → Prop} {s : Shared}
theorem hint_set {d : Addr} {ns : List Int} {Q : Bool → Shared → Prop} (x : SetI w d ns s.heap) (h : ∀ b, Q b s) : wpAny (model prog w) A (Builtin.List.listLengthHint (.ref d)) Q E s := by
  have ty := x.type
  unfold Builtin.List.listLengthHint
  refine wpAny_bind (wpAny_specialOf ty F.slot_set_len.lookup ?_)
  generalize hj : ("set.__len__" : String) = j0
  wp_delta
  rw [show splitId j0 = some ("set", "__len__") from by subst hj; decide +kernel]
  subst hj
  refine wpAny_bind (wpAny_isInstance (T := "set") (b := true) ty (by rw [isSubtype_type]; kernel_rfl) ?_)
  refine wpAny_ite_split (fun z => absurd z (by decide)) (fun _ => ?_)
  refine wpAny_ite_split (fun _ => ?_) (fun z => absurd (by decide +kernel) z)
  exact wpAny_bind (wpAny_typeOf ty (wpAny_pure (h _)))
theorem extend_set {R : Result → Shared → Prop} {d : Addr} {ns : List Int} (hh : A.handled = none) (x : SetI w d ns s.heap) (hlen : ns.length ≤ sizeLine) (S : Addr) (res : Value) (c₀ : Nat) (hS : s.heap.get? S = some { cls := .type "list", data := .seq #[] c₀ })
    (hR : ∀ h' tk d' acc' c' ms, (∀ b o, b ≠ S → s.heap.get? b = some o → h'.get? b = some o) → h'.get? S = some { cls := .type "list", dict := none, data := .seq acc' c', slots := #[] } → IntsAre acc'.toList ms → ms.Perm ns →
      R (.ok (.ret res)) { s with heap := h', toks := tk, drawn := d' }) :
    wpAny (model prog w) A.in1 (Builtin.List.listExtendWith (.ref S) (.ref d) res)
      (fun fin s' => match fin with | .done f => R (.ok f) s' | .again c' => c'.quiet = true ∧ codeAny (model prog w) A c' R s') (fun e s' => R (.error e) s') s := by
  have ty := x.type
  have hdl : d < s.heap.objs.size := by obtain ⟨o, es, ep, t, e, _⟩ := id x; exact Heap.lt_size e
  have hSl : S < s.heap.objs.size := Heap.lt_size hS
  have hSd : S ≠ d := fun z => by
    obtain ⟨o, e, c⟩ := ty
    rw [← z, hS] at e
    cases e
    exact absurd (show Value.type "list" = Value.type "set" from c) (by decide)
  unfold Builtin.List.listExtendWith
  refine wpAny_bind (wpAny_typeOf ty ?_)
  have n1 : Builtin.List.listSameRef (.ref S) (.ref d) = false := by simp [Builtin.List.listSameRef, hSd]
  have n2 : (Value.type "set" == Value.type "list") = false := by decide
  have n3 : (Value.type "set" == Value.type "tuple") = false := by decide
  simp only [n1, n2, n3, Bool.or_false, Bool.false_eq_true, if_false]
  refine wpAny_bind (pyIter_seti x fun h1 d1 it pl o es ep t out ms Fx st kp₁ hit hpl ia pm => ?_)
  have hne : d ≠ it := Nat.ne_of_lt (Nat.lt_of_lt_of_le hdl hit)
  have hSI : S ≠ it := Nat.ne_of_lt (Nat.lt_of_lt_of_le hSl hit)
  have hSp : S ≠ pl := Nat.ne_of_lt (Nat.lt_of_lt_of_le hSl hpl)
  have hSf : S ∉ [it, d, pl] := fun z => by
    rcases List.mem_cons.mp z with z | z
    · exact hSI z
    · rcases List.mem_cons.mp z with z | z
      · exact hSd z
      · exact hSp (List.mem_singleton.mp z)
  have W := (walks_set (prog := prog) (w := w) (A := A.in1) (a := d) (it := it) (pl := pl) out hh Fx hne).toS
  have ol : out.length = ns.length := by rw [← pm.length_eq]; exact IntsAre.length ia
  have run : ∀ (h : Heap) (c₁ tk : Nat), SSt w d it pl o es ep t out 0 h → (∀ b o, b ≠ S → s.heap.get? b = some o → h.get? b = some o) →
      h.get? S = some { cls := .type "list", data := .seq #[] c₁ } → codeAny (model prog w) A (.builtin "list.extend.loop" ⟨[.ref S, .ref it, res], []⟩) R { s with heap := h, toks := tk, drawn := d1 } := by
    intro h c₁ tk st1 hk hS₁
    refine codeAny_extend_loopS W (by omega) S hSf res out.length 0 _ #[] c₁ rfl (Nat.zero_le _) st1 hS₁ (ItemsOf.nil _) fun s' acc' c' mv hS' hacc => ?_
    have es' := Moved.eq_with mv
    have hal : acc'.toList = out := by
      refine List.ext_getElem? fun j => ?_
      rw [Array.getElem?_toList]
      rcases Nat.lt_or_ge j acc'.size with hj | hj
      · have e : acc'[j]? = some acc'[j] := by simp [hj]
        rw [e, hacc.2 j _ e]
      · rw [Array.getElem?_eq_none hj, List.getElem?_eq_none (by have := hacc.1; omega)]
    rw [es']
    refine hR s'.heap s'.toks d1 acc' c' ms (fun b o hb e => mv.heap b o (fun z => ?_) (hk b o hb e)) hS' (by rw [hal]; exact ia) pm
    rcases List.mem_cons.mp z with z | z
    · exact hb z
    · have : b = it := by simpa using z
      exact absurd (Nat.lt_of_lt_of_le (Heap.lt_size e) hit) (by rw [this]; exact Nat.lt_irrefl _)
  have hS₁ := kp₁ S _ hS
  refine wpAny_bind (wpAny_holding (hint_set (s := { s with heap := h1, drawn := d1 }) (x.keep fun o e => kp₁ _ o e) fun b => ?_))
  refine wpAny_ite_split (fun _ => ?_) (fun _ => wpAny_pure ⟨plainId_quiet F.plain_extend_loop _, run h1 c₀ s.toks st (fun b o _ e => kp₁ b o e) hS₁⟩)
  refine wpAny_bind (wpAny_rule (wpAny_bind ?_))
  show wpAny _ _ (updateSeq S (·.push .none) >>= fun _ => updateSeq S (·.pop)) _ _ { s with heap := h1, drawn := d1 }
  refine wpAny_bind (wpAny_updateSeq hS₁ rfl ?_)
  have hS₂ := Heap.get?_update_self (Obj.mapSeq (·.push Value.none)) hS₁ rfl
  refine wpAny_updateSeq (hz := by seq_fits) hS₂ rfl ?_
  have hS₃ := Heap.get?_update_self (Obj.mapSeq (·.pop)) hS₂ rfl
  have kp₃ : ∀ b o, b ≠ S → h1.get? b = some o → ((h1.update S (Obj.mapSeq (·.push Value.none))).update S (Obj.mapSeq (·.pop))).get? b = some o := fun b o hb e =>
    (Heap.get?_update_other _ _ (Ne.symm hb)).trans ((Heap.get?_update_other _ _ (Ne.symm hb)).trans e)
  refine wpAny_pure ⟨plainId_quiet F.plain_extend_loop _, run _ _ s.toks (st.frame fun b hb o e => kp₃ _ o (fun z => hSf (z ▸ hb)) e) (fun b o hb e => kp₃ b o hb (kp₁ b o e)) hS₃⟩
theorem collect_set {Q : List Value → Shared → Prop} {d : Addr} {ns : List Int} (hh : A.handled = none) (x : SetI w d ns s.heap) (hlen : ns.length ≤ sizeLine)
    (hQ : ∀ h' tk d' acc ms, (∀ b o, s.heap.get? b = some o → h'.get? b = some o) → IntsAre acc ms → ms.Perm ns → Q acc { s with heap := h', toks := tk, drawn := d' }) : wpAny (model prog w) A (collect (.ref d)) Q E s := by
  unfold collect
  refine wpAny_bind (wpAny_runValue (codeAny_builtin F.entry_proto_collect ?_))
  rw [Around.under_plainId F.plain_proto_collect _]
  show wpAny _ A.in1 (newList [] >>= fun l => again (.builtin "list.__iadd__" ⟨[l, .ref d], []⟩)) _ _ s
  refine wpAny_bind (wpAny_newObj_type (wpAny_pure ⟨plainId_quiet F.plain_list_iadd _, codeAny_builtin F.entry_list_iadd ?_⟩))
  rw [Around.under_plainId F.plain_list_iadd _]
  show wpAny _ A.in1 (Builtin.List.listExtendWith (.ref s.heap.objs.size) (.ref d) (.ref s.heap.objs.size)) _ _ _
  have hS : (s.heap.push { cls := .type "list", data := .seq ([] : List Value).toArray }).get? s.heap.objs.size = some { cls := .type "list", data := .seq #[] 0 } := Heap.get?_push_size _ rfl
  have k0 : ∀ b o, s.heap.get? b = some o → (s.heap.push { cls := .type "list", data := .seq ([] : List Value).toArray }).get? b = some o := fun b o e => Heap.get?_push_of_some _ e
  generalize s.heap.push { cls := .type "list", data := .seq ([] : List Value).toArray } = h0 at hS k0 ⊢
  have fin' : ∀ (h' : Heap) (tk : Nat) (d' : Drawn) (acc : Array Value) (c' : Nat) (ms : List Int), (∀ b o, b ≠ s.heap.objs.size → h0.get? b = some o → h'.get? b = some o) →
      h'.get? s.heap.objs.size = some { cls := .type "list", dict := none, data := .seq acc c', slots := #[] } → IntsAre acc.toList ms → ms.Perm ns →
      wpAny (model prog w) A (match Value.ref s.heap.objs.size with
      | Value.ref a => do
        match (← load a).data with
          | Data.seq xs _ => pure xs.toList
          | _ => unsupported "internal:collect"
      | _ => unsupported "internal:collect") Q E { s with heap := h', toks := tk, drawn := d' } := fun h' tk d' acc c' ms kp e hi pm => by
    show wpAny _ A (load s.heap.objs.size >>= _) _ _ _
    refine wpAny_bind (wpAny_load e ?_)
    exact wpAny_pure (hQ h' tk d' acc.toList ms (fun b o hb => kp b o (Nat.ne_of_lt (Heap.lt_size hb)) (k0 b o hb)) hi pm)
  refine wpAny_mono (extend_set (A := A) (R := fun r' s' => r' = .ok (.ret (.ref s.heap.objs.size)) ∧ ∃ h' tk d' acc c' ms, s' = { s with heap := h', toks := tk, drawn := d' } ∧ (∀ b o, b ≠ s.heap.objs.size → h0.get? b = some o → h'.get? b = some o) ∧
      h'.get? s.heap.objs.size = some { cls := .type "list", dict := none, data := .seq acc c', slots := #[] } ∧ IntsAre acc.toList ms ∧ ms.Perm ns)
    (s := { s with heap := h0 }) hh (x.keep fun o e => k0 _ o e) hlen s.heap.objs.size (.ref s.heap.objs.size) 0 hS fun h' tk d' acc c' ms kp e hi pm => ⟨rfl, h', tk, d', acc, c', ms, rfl, kp, e, hi, pm⟩) (fun fin s' h => ?_) (fun e s' h => ?_)
  · cases fin with
    | done f =>
      obtain ⟨e, h', tk, d', acc, c', ms, rfl, kp, q, hi, pm⟩ := h
      cases e
      exact fin' h' tk d' acc c' ms kp q hi pm
    | again c' => exact ⟨h.1, codeAny_mono h.2 fun r s'' hr => by obtain ⟨rfl, h', tk, d', acc, c', ms, rfl, kp, q, hi, pm⟩ := hr; exact fin' h' tk d' acc c' ms kp q hi pm⟩
  · exact absurd h.1 (by simp)
end
end PySem
namespace L2
open PySem PySem.Spec PyProof.Rows
section
variable {X : Cx}
theorem push_at {z : Heap} {n : Nat} {ob : Obj} (h : z.objs.size = n) (hf : ob.isFreed = false) : (z.push ob).get? n = some ob := h ▸ Heap.get?_push_size _ hf
theorem Inv.drawn {pins : List (Addr × Obj)} {s : Shared} {σ : St} {H : Hp} (I : Inv X pins σ H s) (d : Drawn) : Inv X pins σ H { s with drawn := d } :=
  { ok := I.ok, os := I.os, bare := I.bare, base := I.base, loc := I.loc, cell := I.cell, free := I.free, freeC := I.freeC, pin := I.pin, hok := I.hok, len := I.len }
theorem call_sortedS (w : World) (hc : X.calm = true) (hw : X.w = w := by rfl) : CallR X (.builtin "sorted") (fun xs H Q => ∃ (p : Addr) (ns : List Int), xs = [.ref p] ∧ H p = some (.ext (SetI w p ns)) ∧ ns.length < 64 ∧
    ∀ (l : Addr) (ms : List Int), ms.Perm ns → ms.Pairwise (· ≤ ·) → H l = none → Q (.ref l) (upd H l (.lst (ms.map V.int)))) := by
  subst hw
  intro pins s σ H xs us Q I r h
  obtain ⟨p, ns, rfl, hp, h64, q⟩ := h
  obtain ⟨u, rfl, ru⟩ := vals1 r
  cases ru
  obtain ⟨x, _, _⟩ := I.hok p _ hp
  refine Calls.call_function_entry kind_sorted plain_sorted entry_sorted (args_sorted1 _) ?_
  unfold Builtin.«sorted»
  refine wpAny_bind (m := checkCount "sorted" 1 1 _) (wpAny_pure ?_)
  refine wpAny_bind (collect_set (A := X.A.in1) (I.ok.hd hc) x (by rw [show sizeLine = 16777216 by decide]; omega) fun h1 tk d1 acc ms hkp hI hpm => ?_)
  have hal : acc.length < 64 := by
    rw [IntsAre.length hI, hpm.length_eq]
    exact h64
  refine wpAny_bind (wpAny_newList ?_)
  have hoL : (h1.push (seqObj "list" acc.toArray 0)).get? h1.objs.size = some (seqObj "list" acc.toArray 0) := Heap.get?_push_size _ rfl
  show wpAny _ _ _ _ _ { s with heap := h1.push (seqObj "list" acc.toArray 0), toks := tk, drawn := d1 }
  refine wpAny_bind (wpAny_holding (wpAny_call_entry slot_list_sort ⟨_, hoL, rfl⟩ entry_list_sort (list_sort_tree hoL hI hal fun out ns' a1 a2 a3 => ⟨_, rfl, ?_⟩) (args_list_sort _)))
  refine wpAny_pure ⟨_, rfl, ?_⟩
  have hm := a2.length_eq
  have hm2 := hpm.length_eq
  have hv : Vals (ns'.map V.int) out.toList := Vals.of_ints a1
  have hsz : (ns'.map V.int).length ≤ sizeLine := by rw [List.length_map, show sizeLine = 16777216 by decide]; omega
  have I1 : Inv X pins σ H { s with heap := h1, toks := tk, drawn := d1 } := (I.kept (t' := tk) hkp).drawn d1
  have kp2 : ∀ b ob, h1.get? b = some ob → (sortedHeap (h1.push (seqObj "list" acc.toArray 0)) h1.objs.size acc out).get? b = some ob := by
    intro b ob e
    have hb : h1.objs.size ≠ b := Nat.ne_of_gt (Heap.lt_size e)
    unfold sortedHeap
    rw [Heap.get?_update_other _ _ hb]
    refine Heap.get?_push_of_some _ (Heap.get?_push_of_some _ ?_)
    rw [Heap.get?_update_other _ _ hb]
    exact Heap.get?_push_of_some _ e
  have nw : ∃ n, (sortedHeap (h1.push (seqObj "list" acc.toArray 0)) h1.objs.size acc out).get? h1.objs.size = some { cls := .type "list", data := .seq out n } := by
    have g2 := Heap.get?_update_self (Obj.mapSeq fun _ => (#[] : Array Value)) hoL rfl
    have g3 := Heap.get?_push_of_some (seqObj "list" #[] 0) (Heap.get?_push_of_some (seqObj "tuple" acc.toArray 0) g2)
    have g4 := Heap.get?_update_self (Obj.mapSeq fun _ => out) g3 rfl
    exact ⟨_, g4⟩
  obtain ⟨n, nw⟩ := nw
  exact ⟨.ref h1.objs.size, _, I1.laid (t' := tk) (o := .lst (ns'.map V.int)) kp2 (Nat.le_refl _) ⟨hsz, out.toList, n, hv, by simpa using nw⟩, rfl, q _ ns' (a2.trans hpm) a3 (I1.hok.fresh (Nat.le_refl _))⟩
theorem call_setS (K : PySem.W.Frag) (w : World) (hc : X.calm = true) (hk : X.K = K := by rfl) (hw : X.w = w := by rfl) : CallR X (.type "set") (fun xs H Q => ∃ (p : Addr) (ns : List Int), xs = [.ref p] ∧ (SqL K H p (ns.map V.int) ∨ SqT K H p (ns.map V.int)) ∧ ns.length < 4000 ∧
    ∀ (l : Addr) (ms : List Int), ms.Nodup → (∀ k, k ∈ ms ↔ k ∈ ns) → ms.length ≤ ns.length → H l = none → Q (.ref l) (upd H l (.ext (SetI w l ms)))) := by
  subst hk hw
  intro pins s σ H xs us Q I r h
  obtain ⟨p, ns, rfl, hp, hlt, q⟩ := h
  obtain ⟨u, rfl, ru⟩ := vals1 r
  cases ru
  have mem : ∀ (n : Nat) (k : Int), n = ns.length → (k ∈ onceN (fun i => ns.getD i 0) n ↔ k ∈ ns) := by
    intro n k e
    subst e
    rw [onceN_mem, List.mem_iff_getElem]
    constructor
    · rintro ⟨j, hj, e⟩
      exact ⟨j, hj, by rw [← e]; simp [hj]⟩
    · rintro ⟨j, hj, e⟩
      exact ⟨j, hj, by rw [← e]; simp [hj]⟩
  have fin : ∀ (n : Nat) (h' : Heap) (tk : Nat), n = ns.length → SetI X.w s.heap.objs.size (onceN (fun i => ns.getD i 0) n) h' → (∀ b o, s.heap.get? b = some o → h'.get? b = some o) → EP X pins σ Q (.ref s.heap.objs.size) { s with heap := h', toks := tk } := by
    intro n h' tk e x kp
    have ol := onceN_len (fun i => ns.getD i 0) n
    refine ⟨.ref s.heap.objs.size, _, I.laid (t' := tk) (o := .ext (SetI X.w s.heap.objs.size (onceN (fun i => ns.getD i 0) n))) kp (Nat.le_refl _) ⟨x, ?_, fun h1 h2 x k => x.keep k⟩, rfl, q _ _ (onceN_nd _ _) (fun k => mem n k e) (by omega) (I.hok.fresh (Nat.le_refl _))⟩
    obtain ⟨o, _, _, _, e, _⟩ := x
    exact ⟨o, e⟩
  have hd3 : ∀ B : Around, B.handled = none → B.in1.in1.in1.handled = none := fun B h => by simp [h]
  rcases hp with hp | hp
  · obtain ⟨its, rv, pl, hz⟩ := I.list hp
    obtain ⟨o, ho, hcl, n, hd⟩ := pl.isList
    obtain ⟨oc, odi, oda, osl⟩ := o
    simp only at hcl hd
    subst hcl hd
    have hl := rv.length
    rw [List.length_map] at hl
    have hpl : p < s.heap.objs.size := Heap.lt_size ho
    exact call_setI (s := s) (ns := ns) ho PySem.F.sub_list_set PySem.F.sub_list_frozenset (by decide) (by simpa using IntsAre.of_vals rv) (by rw [show scanBound = 4096 from rfl, List.size_toArray]; omega)
      (fun {A' E' Q' z} e h => wpAny_pyIter_list ⟨_, e, rfl, _, rfl⟩ h) (Walks.list (hd3 _ (I.ok.hd hc)) _ p (Nat.ne_of_lt (Nat.lt_succ_of_lt hpl)) its.toArray)
      (fun z hz e => ⟨⟨_, push_at hz rfl, rfl, rfl⟩, ⟨_, Heap.get?_push_of_some _ e, rfl, _, rfl⟩⟩) fun h' tk x kp => fin _ h' tk (by rw [List.size_toArray]; omega) x kp
  · obtain ⟨its, rv, pl, hz⟩ := I.tuple hp
    obtain ⟨o, ho, hcl, n, hd⟩ := pl
    obtain ⟨oc, odi, oda, osl⟩ := o
    simp only at hcl hd
    subst hcl hd
    have hl := rv.length
    rw [List.length_map] at hl
    have hpl : p < s.heap.objs.size := Heap.lt_size ho
    exact call_setI (s := s) (ns := ns) ho PySem.F.sub_tuple_set PySem.F.sub_tuple_frozenset (by decide) (by simpa using IntsAre.of_vals rv) (by rw [show scanBound = 4096 from rfl, List.size_toArray]; omega)
      (fun {A' E' Q' z} e h => wpAny_pyIter_tuple ⟨_, e, rfl, _, rfl⟩ h) (Walks.tuple (hd3 _ (I.ok.hd hc)) _ p (Nat.ne_of_lt (Nat.lt_succ_of_lt hpl)) its.toArray)
      (fun z hz e => ⟨⟨_, push_at hz rfl, rfl, rfl⟩, ⟨_, Heap.get?_push_of_some _ e, rfl, _, rfl⟩⟩) fun h' tk x kp => fin _ h' tk (by rw [List.size_toArray]; omega) x kp
end
end L2

set_option Elab.async false
set_option linter.all false
set_option maxRecDepth 100000
namespace L2
open PySem PySem.Spec PyProof.Rows
section
variable {X : Cx} {elts : List Expr} {k : Nat} {tpos : Pos}
/-- sorted(set(e)) -/
def tSortSet (K : PySem.W.Frag) (te : TE) : TE := fun σ H Q => te σ H fun x H1 => ∃ (p : Addr) (ns : List Int), x = .ref p ∧ (SqL K H1 p (ns.map V.int) ∨ SqT K H1 p (ns.map V.int)) ∧ ns.length < 64 ∧
  ∀ (l : Addr) (ms : List Int) (H2 : Hp), Ext [] H1 H2 → H1 l = none → H2 l = some (.lst (ms.map V.int)) → ms.Pairwise (· < ·) → (∀ k, k ∈ ms ↔ k ∈ ns) → ms.length ≤ ns.length → Q (.ref l) H2
def tMono (te : TE) : TE := fun σ H Q => ∃ D : VK, te σ H D ∧ ∀ x H1, D x H1 → Q x H1
theorem QE.mono {e : Expr} {te : TE} (he : QE X e te) : QE X e (tMono te) := ⟨fun pins s σ H Q I ⟨D, h, k⟩ => thn (he.run pins s σ H D I h) fun v s1 ⟨x, H1, I1, r1, q1⟩ => ⟨x, H1, I1, r1, k x H1 q1⟩⟩
theorem lt_of_nodup {l : List Int} (h : l.Pairwise (· ≤ ·)) (d : l.Nodup) : l.Pairwise (· < ·) := by
  have := h.and d
  exact this.imp fun {a b} ⟨h1, h2⟩ => by omega
theorem qe_sortedSet (K : PySem.W.Frag) {e : Expr} {te : TE} {p1 p2 q1 q2 : Pos} (hc : X.calm = true) (g1 : Gl X "sorted") (m1 : X.mg "sorted" = none) (g2 : Gl X "set") (m2 : X.mg "set" = none) (he : QE X e te) (hk : X.K = K := by rfl) (hs : notStar e = true := by rfl) :
    QE X (.Call (.Name "sorted" p1) [.Call (.Name "set" p2) [e] [] q2] [] q1) (tSortSet K te) := by
  have inner := qe_callTy (p := p2) (pos := q2) (call_setS K X.w hc hk rfl) g2 m2 (by decide +kernel) (qa_c he.mono qa_nil hs)
  have outer := qe_callB (p := p1) (pos := q1) (call_sortedS X.w hc rfl) g1 m1 (by decide +kernel) (qa_c inner qa_nil)
  refine outer.weaken fun σ H Q h => ?_
  refine ⟨_, h, fun x H1 ⟨p, ns, e1, e2, e3, q⟩ => ⟨p, ns, by rw [e1], e2, by omega, fun l ms nd mm ml hl => ⟨l, ms, rfl, upd_same, by omega, fun l2 ms2 pm ps h2 => ?_⟩⟩⟩
  refine q l2 ms2 _ (Ext.trans (.new hl) (.new h2)) ?_ upd_same (lt_of_nodup ps (pm.nodup_iff.mpr nd)) (fun k => (pm.mem_iff).trans (mm k)) (by rw [pm.length_eq]; exact ml)
  cases z : H1 l2 with
  | none => rfl
  | some o => exact absurd h2 (by rw [(Ext.new (S := []) hl).keep l2 o (by simp) z]; simp)
end
end L2

set_option Elab.async false
set_option linter.all false
set_option maxRecDepth 100000
/-! len(set(xs)) of whole numbers. -/
namespace L2
open PySem PySem.Spec PyProof.Rows
section
variable {X : Cx}
end
end L2

set_option Elab.async false
set_option linter.all false
set_option maxRecDepth 100000
/-! min(xs) and xs.index(n) of whole numbers. -/
namespace L2
open PySem PySem.Spec PyProof.Rows
section
variable {X : Cx}
def rIndexL : V → List V → Hp → VK → Prop := fun x vs H Q => ∃ (l : Addr) (ns : List Int) (k : Int) (j : Nat), x = .ref l ∧ vs = [.int k] ∧ H l = some (.lst (ns.map V.int)) ∧ ns[j]? = some k ∧ (∀ i, i < j → ns[i]? ≠ some k) ∧ Q (.int j) H
theorem mt_indexL : MtM X "list.index" rIndexL := by
  intro pins s σ H x vs v us Q I rx rv h
  obtain ⟨l, ns, k, j, rfl, rfl, hH, hj, hno, q⟩ := h
  cases rx
  obtain ⟨u, rfl, ru⟩ := rv.one
  obtain ⟨t, rfl⟩ := ru
  obtain ⟨z, its, n, r', hl, e⟩ := I.lstM hH
  have hI : IntsAre its ns := IntsAre.of_vals r'
  have len := IntsAre.length hI
  have hjl : j < ns.length := (List.getElem?_eq_some_iff.mp hj).1
  have at' : ∀ (m : Nat) (hm : m < its.toArray.size), ∃ t, its.toArray[m] = Value.int (ns.getD m 0) t := by
    intro m hm
    rw [List.size_toArray] at hm
    have h2 : its[m]? = some its[m] := by simp [hm]
    obtain ⟨t, ht⟩ := IntsAre.int_at hI m _ h2
    exact ⟨t, by simpa using ht⟩
  have at2 : ∀ m, m < ns.length → ns[m]? = some (ns.getD m 0) := fun m hm => by simp [List.getD, hm]
  have hz2 : its.length ≤ sizeLine := by rw [← hl]; exact z
  rw [show sizeLine = 16777216 by decide] at hz2
  refine call_meets F.slot_list_index ⟨_, e, rfl⟩ F.entry_list_index (F.args_list_index_2 _ _)
    (PySem.MeetsSeq.list_index l its.toArray n (.int k t) (fun y => match y with | .int a _ => a == k | _ => false) (fun y hy => ?_) j (by rw [List.size_toArray]; omega) (by omega) ?_ fun m hm hmj => ?_) ⟨e, ?_⟩
  · obtain ⟨m, hm, rfl⟩ := Array.getElem_of_mem hy
    obtain ⟨t2, ht2⟩ := at' m hm
    rw [ht2]
    exact PySem.MeetsSeq.EqGives.int _ _ _ _
  · obtain ⟨t2, ht2⟩ := at' j (by rw [List.size_toArray]; omega)
    rw [ht2]
    have := at2 j hjl
    rw [hj] at this
    have e3 := Option.some.inj this
    show (ns.getD j 0 == k) = true
    rw [← e3]
    simp
  · obtain ⟨t2, ht2⟩ := at' m hm
    rw [ht2]
    have h3 := hno m hmj
    rw [List.size_toArray] at hm
    rw [at2 m (by omega)] at h3
    have : ns.getD m 0 ≠ k := fun z => h3 (by rw [z])
    simpa using this
  · exact ⟨.int j, H, I.tok _, ⟨_, rfl⟩, q⟩
end
end L2

set_option Elab.async false
set_option linter.all false
set_option maxRecDepth 100000
namespace L2
open PySem
/-! a new address is no part of data -/
mutual
theorem Rep.more {S : List Addr} {H : Hp} {p : Addr} (hp : H p = none) : ∀ {d : PyData} {v : V}, Rep S H d v → Rep (p :: S) H d v
  | .none, _, h => h
  | .bool _, _, h => h
  | .int _, _, h => h
  | .str _, _, h => h
  | .tuple ds, _, h => by
    unfold Rep at h ⊢
    obtain ⟨a, xs, e, ha, hr⟩ := h
    exact ⟨a, xs, e, ha, Reps.more hp hr⟩
  | .list ds, _, h => by
    unfold Rep at h ⊢
    obtain ⟨a, xs, e, ha, hs, hr⟩ := h
    refine ⟨a, xs, e, ha, fun z => ?_, Reps.more hp hr⟩
    rcases List.mem_cons.mp z with z | z
    · rw [z, hp] at ha; cases ha
    · exact hs z
  | .dict _, _, h => h
theorem Reps.more {S : List Addr} {H : Hp} {p : Addr} (hp : H p = none) : ∀ {ds : List PyData} {vs : List V}, Reps S H ds vs → Reps (p :: S) H ds vs
  | [], _, h => h
  | d :: ds, _, h => by
    unfold Reps at h ⊢
    obtain ⟨y, r, e, h1, h2⟩ := h
    exact ⟨y, r, e, Rep.more hp h1, Reps.more hp h2⟩
end
end L2

set_option Elab.async false
set_option linter.all false
set_option maxRecDepth 100000
/-! while, whatever the test. -/
namespace L2
open PySem PySem.Spec PyProof.Rows
section
variable {X : Cx}
def tMonoT (t : TT) : TT := fun σ H Q => ∃ D : Bool → Hp → Prop, t σ H D ∧ ∀ b H1, D b H1 → Q b H1
theorem QT.mono {e : Expr} {t : TT} (he : QT X e t) : QT X e (tMonoT t) := ⟨fun pins s σ H Q I ⟨D, h, k⟩ => thn (he.run pins s σ H D I h) fun b s1 ⟨H1, I1, q1⟩ => ⟨H1, I1, k b H1 q1⟩⟩
theorem qs_whileM {c : Expr} {tA : TT} {body : List Stmt} {ts : TS} {pos : Pos} (hp : PassesOwn (model X.prog X.w) X.A X.env X.xe) (hc : QT X c tA) (hb : QSs X body ts) : QS X (.While c body [] pos) (tWhile (tMonoT tA) ts) := qs_while hp hc.mono hb
end
theorem while_m {c : TT} {tb : TS} {D : Ends} {σ : St} {H : Hp} (Pv : St → Hp → Prop) (μ : St → Hp → Nat) (h0 : Pv σ H)
    (hs : ∀ σ H, Pv σ H → c σ H fun b H1 => if b = true then tb { D with nx := fun σ' H' => Pv σ' H' ∧ μ σ' H' < μ σ H, ct := fun σ' H' => Pv σ' H' ∧ μ σ' H' < μ σ H, bk := D.nx } σ H1 else D.nx σ H1) : tWhile (tMonoT c) tb D σ H :=
  while_by Pv μ h0 (fun σ H p => ⟨_, hs σ H p, fun _ _ h => h⟩) (fun _ _ _ _ h ⟨D, a, b⟩ => ⟨D, a, fun x H1 z => h _ _ (b _ _ z)⟩)
end L2

set_option Elab.async false
set_option linter.all false
set_option maxRecDepth 100000
/-! An exception in flight: what is noted of the frames that it leaves. -/
namespace L2
open PySem PySem.Spec PyProof.Rows
/-- an exception at x: its class, its dict, the head of its trace -/
structure ExcAt (h : Heap) (x : Addr) (cls : Value) (od tb : Option Addr) : Prop where
  obj : ∃ oe vs, h.get? x = some oe ∧ oe.cls = cls ∧ oe.dict = od ∧ oe.data = .fields vs ∧ vs[1]? = some (tb.elim Value.none Value.ref)
  hd : ∀ T, tb = some T → T ≠ x ∧ ∃ oT ts, h.get? T = some oT ∧ oT.data = .fields ts ∧ ts[3]? = some .none
/-- what stays while it is noted: all but it, its trace, the frames' slots -/
structure Noted (fs : List Addr) (x : Addr) (tb : Option Addr) (h h' : Heap) : Prop where
  keep : ∀ b o, h.get? b = some o → b ≠ x → tb ≠ some b → b ∉ fs → h'.get? b = some o
  slot : ∀ b o, h.get? b = some o → b ∈ fs → ∃ sl, h'.get? b = some { o with slots := sl }
  there : ∀ b o, h.get? b = some o → ∃ o', h'.get? b = some o'
section
variable {M : Model} {A : Around} {E : Value → Shared → Prop} {s : Shared}
end
end L2

set_option Elab.async false
set_option linter.all false
set_option maxRecDepth 100000
/-! Exceptions that leave a def: how they lie, and how they pass. -/
namespace L2
open PySem PySem.Spec PyProof.Rows
/-- an exception, flying or caught -/
def xfly (x : Addr) (cls : Value) (od : Option Addr) : Heap → Prop := fun h => ∃ oe vs, h.get? x = some oe ∧ oe.cls = cls ∧ oe.dict = od ∧ oe.data = .fields vs
theorem xfly_ok {P : Program} {w : World} {H : Hp} {h : Heap} {x : Addr} {cls : Value} {od : Option Addr} (r : xfly x cls od h) : ObjOk P w H h x (.ext (xfly x cls od)) := by
  refine ⟨r, let ⟨oe, _, e, _⟩ := r; ⟨oe, e⟩, fun h1 h2 ⟨oe, vs, e, r⟩ k => ⟨oe, vs, k _ e, r⟩⟩
/-- behind a call that raised -/
def CX1 (P : Program) (w : World) : CXT := fun outer H s E e s' => ∃ (x : Addr) (cls : Value) (od : Option Addr) (T : Addr) (H' : Hp), e = .ref x ∧ s'.os = s.os ∧ AllBare s'.gens ∧ Un (frs outer) [] H H' s.heap s'.heap ∧ HOk P w H' s'.heap ∧
  H' x = some (.ext (xfly x cls od)) ∧ H' T = none ∧ s.heap.objs.size ≤ x ∧ s.heap.objs.size ≤ T ∧ ExcAt s'.heap x cls od (some T) ∧ E cls od H'
/-- within a body: an exception lies there -/
def XP (X : Cx) (pins : List (Addr × Obj)) (σ : St) (E : XK) (e : Value) (s' : Shared) : Prop := ∃ (x : Addr) (cls : Value) (od tb : Option Addr) (H' : Hp), e = .ref x ∧ Inv X pins σ H' s' ∧ H' x = some (.ext (xfly x cls od)) ∧ X.s₀.heap.objs.size ≤ x ∧ (∀ p ∈ X.pn ++ pins, p.1 ≠ x) ∧
  (∀ T, tb = some T → H' T = none ∧ X.s₀.heap.objs.size ≤ T ∧ ∀ p ∈ X.pn ++ pins, p.1 ≠ T) ∧ ExcAt s'.heap x cls od tb ∧ E cls od H'
section
variable {X : Cx} {pins : List (Addr × Obj)} {σ : St} {H : Hp} {s s' : Shared} {E : XK} {e : Value}
/-- what is tracked stays -/
theorem HOk.noted {P : Program} {w : World} {h h' : Heap} {fs : List Addr} {x : Addr} {cls : Value} {od tb : Option Addr} (ok : HOk P w H h) (nt : Noted fs x tb h h') (nx : H x = some (.ext (xfly x cls od))) (fl : xfly x cls od h') (nT : ∀ T, tb = some T → H T = none) (nf : ∀ b ∈ fs, H b = none) : HOk P w H h' := fun a o e => by
  have key : ∀ b (u : HO), b ≠ x → H b = some u → ∀ v, h.get? b = some v → h'.get? b = some v := fun b u hbx hb v hv =>
    nt.keep b v hv hbx (fun z => by rw [nT b z] at hb; cases hb) fun z => by rw [nf b z] at hb; cases hb
  by_cases hax : a = x
  · subst hax
    rw [nx] at e
    cases e
    exact xfly_ok fl
  · refine (ok a o e).stay (fun b v hb q => ?_) (fun b q => q) fun b xs q => q
    rcases hb with rfl | hb
    · exact key b o hax e v q
    · exact key b _ (fun z => by rw [z, nx] at hb; cases hb) hb v q
end
section
variable {P : Program} {w : World} {K : PySem.W.Frag} {mg : Str → Option Value} {base : Heap}
/-- a def by its name, one that may raise -/
structure DefX (P : Program) (w : World) (K : PySem.W.Frag) (mg : Str → Option Value) (base : Heap) (k : Nat) (x : Str) (ps : List Str) (sp : Sp) : Prop where
  ex : ∃ (f : Addr) (fd : FuncData), FnOk P w K mg base (CX1 P w) k f fd ps sp ∧ mg x = some (.ref f) ∧ PySem.W.keepIn K (.ref f) = true ∧ Binds K fd ps []
end
section
variable {X : Cx} {k : Nat} {x : Str} {ps : List Str} {sp : Sp} {E : XK} {e : Expr} {es : List Expr} {t : TA} {p pos : Pos}
end
end L2

set_option Elab.async false
set_option linter.all false
set_option maxRecDepth 100000
/-! An exception's attributes: read and written. -/
namespace L2
open PySem PySem.Spec PyProof.Rows
/-- what of the text an own exception's class must have -/
structure ClsX (K : PySem.W.Frag) (C : Addr) : Prop where
  ga : PySem.W.findIn K (.ref C) "__getattribute__" = some (some (.builtin "BaseException.__getattribute__"))
  gh : PySem.W.findIn K (.ref C) "__getattr__" = some none
  sa : PySem.W.findIn K (.ref C) "__setattr__" = some (some (.builtin "object.__setattr__"))
  hd : PySem.W.hasDictIn K C = true
  isx : PySem.W.mroIn K C (.type "BaseException") = some true
  iso : PySem.W.mroIn K C (.type "object") = some true
section
variable {prog : Program} {w : World} {A : Around} {E : Value → Shared → Prop} {K : PySem.W.Frag} {x C dx : Addr} {o : Obj} {mA : Str → Option Value} {name : Str} {v : Value}
/-! writing -/
def veTail : List Value → Bool
  | [.type a, .type b, .type c, .type d] => a == "ValueError" && b == "Exception" && c == "BaseException" && d == "object"
  | .ref _ :: r => veTail r
  | _ => false
end
end L2

set_option Elab.async false
set_option linter.all false
set_option maxRecDepth 100000
set_option maxHeartbeats 4000000
/-! An own exception is made: its __new__, then its own __init__. -/
namespace L2
open PySem PySem.Spec PyProof.Rows
abbrev veMro : List Value := [.type "ValueError", .type "Exception", .type "BaseException", .type "object"]
section
variable {prog : Program} {w : World} {A : Around} {E : Value → Shared → Prop} {u : Heap} {gs : Array GenState} {dr : Drawn} {tk : Nat} {ost : OsState}
variable {nm qn : Str} {C N fI : Addr} {bs bm : List Value} {hdct : Bool} {sn : List Str} {sub : List Value} {ab : Bool} {col : Option Bool} {dd : Option Addr} {k0 k1 k2 k3 k5 : Option Value} {us : List Value}
end
end L2

set_option Elab.async false
set_option linter.all false
set_option maxRecDepth 100000
set_option maxHeartbeats 4000000
/-! An own exception's __init__: self.f = value. -/
namespace L2
open PySem PySem.Spec PyProof.Rows
theorem ext_of {P : Program} {w : World} {H : Hp} {h : Heap} {a : Addr} {φ : Heap → Prop} (ok : HOk P w H h) (e : H a = some (.ext φ)) : φ h := (show ObjOk P w H h a (.ext φ) from ok a _ e).1
/-- an own exception's class, with its object -/
structure ExcCls (K : PySem.W.Frag) (C : Addr) : Prop where
  cls : ClsX K C
  ve : ∃ cd, PySem.W.clsIn K C = some cd ∧ veTail cd.mro = true
  ty : ∃ o, K.lookup C = some o ∧ o.cls = .type "type"
section
variable {X : Cx} {pins : List (Addr × Obj)} {σ : St} {H : Hp} {s : Shared} {x C dx : Addr} {f : Str} {y : V} {v : Value} {fs : List (Str × V)}
end
end L2

set_option Elab.async false
set_option linter.all false
set_option maxRecDepth 100000
set_option maxHeartbeats 4000000
/-! raise C(..), C an own exception with an __init__ of its own. -/
namespace L2
open PySem PySem.Spec PyProof.Rows
/-- the base of the own exceptions -/
structure JOk (K : PySem.W.Frag) (J : Addr) : Prop where
  ex : ∃ c0 dd cd sl c1 d1 es n sl1, K.lookup J = some ⟨c0, dd, .cls cd, sl⟩ ∧ K.lookup cd.ns = some ⟨c1, d1, .dict es n, sl1⟩ ∧ StrKeys es ∧ nsFind es "__init__" = none
theorem JOk.tail {K : PySem.W.Frag} {J : Addr} {h : Heap} (j : JOk K J) (X : K.In h) : OwnTail h veMro (.ref J :: veMro) := by
  obtain ⟨c0, dd, cd, sl, c1, d1, es, n, sl1, e1, e2, e3, e4⟩ := j.ex
  exact .own (X _ _ e1) ⟨_, es, n, X _ _ e2, rfl, e3, fun _ => rfl⟩ e4 .base
/-- an own exception that can be made -/
structure XMk (K : PySem.W.Frag) (C fI : Addr) : Prop where
  obj : ∃ J nm qn N bs hdct sn sub ab col dd k0 k1 k2 k3 k5, K.lookup C = some (excClassObj nm qn C N bs (.ref J :: veMro) hdct sn sub ab col dd k0 k1 k2 k3 k5 "ValueError.__new__") ∧ JOk K J
  init : PySem.W.findIn K (.ref C) "__init__" = some (some (.ref fI))
  fn : PySem.W.isFn K (.ref fI) = true
  kp : PySem.W.keepIn K (.ref C) = true
  cls : ClsX K C
theorem XMk.ec {K : PySem.W.Frag} {C fI : Addr} (m : XMk K C fI) : ExcCls K C := by
  obtain ⟨J, nm, qn, N, bs, hdct, sn, sub, ab, col, dd, k0, k1, k2, k3, k5, e, _⟩ := m.obj
  refine ⟨m.cls, ⟨{ name := nm, bases := bs, mro := .ref C :: .ref J :: veMro, ns := N, qualname := qn, hasDict := hdct, slotNames := sn, subclasses := sub, abstract := ab, collection := col, hasDel := false }, ?_, by simp [veTail]⟩, _, e, rfl⟩
  unfold PySem.W.clsIn
  rw [e]
section
variable {X : Cx} {pins : List (Addr × Obj)} {σ : St} {H : Hp} {s : Shared} {C fI : Addr} {k : Nat} {fd : FuncData} {ps : List Str} {sp : Sp} {E : XK}
end
end L2

set_option Elab.async false
set_option linter.all false
set_option maxRecDepth 100000
set_option maxHeartbeats 4000000
/-! isinstance of an exception. -/
namespace L2
open PySem PySem.Spec PyProof.Rows
/-- what isinstance asks of an exception's class -/
structure ClsI (K : PySem.W.Frag) (C : Addr) : Prop where
  cx : ClsX K C
  ha : PySem.W.findIn K (.ref C) "__class__" = some (some (.builtin "object.__class__"))
  hn : PySem.W.specialIn K (.builtin "object.__class__") "__get__" = some (some (.builtin "getset_descriptor.__get__"))
  tk : PySem.W.takesIn K (.builtin "object.__class__") = some true
section
variable {prog : Program} {w : World} {A : Around} {E : Value → Shared → Prop} {K : PySem.W.Frag} {x C : Addr} {o od : Obj} {s : Shared}
end
/-- the classes that isinstance is asked for -/
inductive Asked (K : PySem.W.Frag) (H : Hp) (C : Addr) : V → Bool → Prop where
  | own {D : Addr} {b : Bool} (e : PySem.W.kitOne K (.ref C) (.ref D) = some b) : Asked K H C (.ref D) b
  | ty {T : String} {b : Bool} (e : PySem.W.kitOne K (.ref C) (.type T) = some b) : Asked K H C (.ty T) b
  | tup {t : Addr} {ds : List Addr} {b : Bool} (h : H t = some (.tup (ds.map V.ref))) (e : PySem.W.kitAny K (.ref C) (ds.map Value.ref) = some b) : Asked K H C (.ref t) b
section
variable {X : Cx}
end
end L2

set_option Elab.async false
set_option linter.all false
set_option maxRecDepth 100000
set_option maxHeartbeats 4000000
/-! try: one statement; except C as e: a suite that raises nothing. -/
namespace L2
open PySem PySem.Spec PyProof.Rows
/-- an expression that may raise: what is wanted of the exception is its own -/
structure QEx (X : Cx) (e : Expr) (t : XK → TE) : Prop where
  run : ∀ (E : XK) (pins : List (Addr × Obj)) (s : Shared) (σ : St) (H : Hp) (Q : VK), Inv X pins σ H s → t E σ H Q → wpAny (model X.prog X.w) X.A (eval e X.env) (EP X pins σ Q) (XP X pins σ E) s
section
variable {X : Cx} {pins : List (Addr × Obj)} {σ : St} {H : Hp} {s : Shared} {E : XK}
theorem EP.unwish {Ex : Value → Shared → Prop} {Q : VK} {u : Value} {s' : Shared} (h : EP (X.wish Ex) pins σ Q u s') : EP X pins σ Q u s' := let ⟨v, H', I, r, q⟩ := h; ⟨v, H', I.unwish, r, q⟩
/-- what an exception is not -/
theorem fly_not {x : Addr} {cls : Value} {od : Option Addr} (I : Inv X pins σ H s) (f : xfly x cls od s.heap) : x ≠ X.env.locals ∧ ∀ y c, X.env.cells.lookup y = some c → c ≠ x := by
  obtain ⟨oe, vs, hx, _, _, hd⟩ := f
  refine ⟨fun z => ?_, fun y c hc z => ?_⟩
  · obtain ⟨m, ⟨o, es, ep, ho, hd', _⟩, _⟩ := I.loc
    rw [← z, hx] at ho
    cases ho
    rw [hd] at hd'
    cases hd'
  · obtain ⟨v, o, ho, hd'⟩ := I.cell y c hc
    rw [z, hx] at ho
    cases ho
    rw [hd] at hd'
    cases hd'
theorem Inv.noted {h' : Heap} {x : Addr} {cls : Value} {od tb : Option Addr} (I : Inv X pins σ H s) (nt : Noted (frs X.stack) x tb s.heap h') (ex : H x = some (.ext (xfly x cls od))) (fl : xfly x cls od h') (sx : X.s₀.heap.objs.size ≤ x) (px : ∀ p ∈ X.pn ++ pins, p.1 ≠ x)
    (hT : ∀ T, tb = some T → H T = none ∧ X.s₀.heap.objs.size ≤ T ∧ ∀ p ∈ X.pn ++ pins, p.1 ≠ T) (tT : ∀ T, tb = some T → ∃ oT ts, s.heap.get? T = some oT ∧ oT.data = .fields ts) : Inv X pins σ H { s with heap := h' } := by
  have fx := fly_not I (ext_of I.hok ex)
  refine I.call (g' := s.gens) (t' := s.toks) (d' := s.drawn) (ch := x :: tb.toList) ⟨fun b o hb n hf hc => ?_, fun b o hb n hf hc => nt.slot b o hb hf, fun b o hb n _ => n, fun b o hb _ => nt.there b o hb, fun _ _ e => e, fun _ _ _ e => e, fun b ps e => ⟨#[], by rw [e]; simp⟩⟩ (I.hok.noted nt ex fl (fun T e => (hT T e).1) I.stkFree) I.bare fun b hb => ?_
  · refine nt.keep b o hb (fun z => hc (by rw [z]; exact List.mem_cons_self ..)) (fun z => hc (List.mem_cons_of_mem _ (by rw [z]; simp))) hf
  · rcases List.mem_cons.mp hb with rfl | hb
    · exact ⟨.inr sx, fx.1, fx.2, px⟩
    · have e : tb = some b := by
        cases tb with
        | none => cases hb
        | some T => simp at hb; rw [hb]
      obtain ⟨oT, ts, h1, h2⟩ := tT b e
      have fT := fly_not (x := b) (cls := oT.cls) (od := oT.dict) I ⟨oT, ts, h1, rfl, rfl, h2⟩
      exact ⟨.inr (hT b e).2.1, fT.1, fT.2, (hT b e).2.2⟩
/-- a name is gone -/
theorem Inv.gone {h' : Heap} {tk : Nat} {j : Nat} {n : Str} {m : Str → Option Value} {v : Option Value} (I : Inv X pins σ H s) (hN : X.N.Nodup) (hj : X.N[j]? = some n) (hl : ∀ (i : Nat) (x : Str) (w : V), X.N[i]? = some x → σ[i]? = some (some w) → Vis X.env.scope x → ∃ u, RelV w u ∧ Look X.env s.heap m x u)
    (hn' : h'.Ns X.env.locals (fun y => if y = n then v else m y)) (hs : Heap.SameBut X.env.locals s.heap h') : Inv X pins (σ.set j none) H { s with heap := h', toks := tk } := by
  have cne := I.cne
  have up := I.ok.above
  have old : ∀ b (o : Obj), X.s₀.heap.get? b = some o → b ≠ X.env.locals := fun b o e => Nat.ne_of_lt (Nat.lt_of_lt_of_le (Heap.lt_size e) up)
  refine ⟨I.ok, I.os, I.bare, ⟨fun b o e n' hb hx => ?_, fun b o e n' hb hx => ?_, I.base.free, fun b o e hx => ?_, I.base.tups, I.base.frzs, I.base.tbls⟩, ⟨_, hn', fun i y w e1 e2 e3 => ?_⟩, fun y c e => ?_, I.free, I.freeC, fun p hp => ?_, fun b ob e => ?_, by simpa using I.len⟩
  · exact (hs.2 b (old b o e)).trans (I.base.keep b o e n' hb hx)
  · obtain ⟨sl, e1⟩ := I.base.slot b o e n' hb hx
    exact ⟨sl, (hs.2 b (old b o e)).trans e1⟩
  · obtain ⟨o', e1⟩ := I.base.there b o e hx
    exact ⟨o', (hs.2 b (old b o e)).trans e1⟩
  · have hij : i ≠ j := fun z => by
      subst z
      by_cases hlt : i < σ.length
      · rw [List.getElem?_set_self hlt] at e2
        cases e2
      · rw [List.getElem?_eq_none (by rw [List.length_set]; omega)] at e2
        cases e2
    rw [List.getElem?_set_ne (Ne.symm hij)] at e2
    obtain ⟨u, r, q⟩ := hl i y w e1 e2 e3
    refine ⟨u, r, ?_⟩
    rcases q with ⟨k, e⟩ | ⟨k, c, e, ob, hob, hdc⟩
    · have hyn : y ≠ n := fun z => hij (nodup_ix hN e1 (z ▸ hj))
      exact .inl ⟨k, by simp [hyn, e]⟩
    · exact .inr ⟨k, c, e, ob, (hs.2 c (cne y c e)).trans hob, hdc⟩
  · obtain ⟨w, ob, hob, hdc⟩ := I.cell y c e
    exact ⟨w, ob, (hs.2 c (cne y c e)).trans hob, hdc⟩
  · obtain ⟨p1, p2, p3, p4, p5⟩ := I.pin p hp
    exact ⟨(hs.2 p.1 p3).trans p1, p2, p3, p4, p5⟩
  · have free := I.free
    refine (I.hok b ob e).stay (fun c w' hc q => (hs.2 c fun z => ?_).trans q) (fun _ q => q) fun _ _ q => q
    rcases hc with rfl | hc
    · rw [z, free] at e; cases e
    · rw [z, free] at hc; cases hc
end
end L2

set_option Elab.async false
set_option linter.all false
set_option maxRecDepth 100000
set_option maxHeartbeats 4000000
namespace L2
open PySem PySem.Spec PyProof.Rows
/-- behind a suite the name is gone -/
def Ends.after (D : Ends) (j : Nat) : Ends := { nx := fun σ H => D.nx (σ.set j none) H, rt := D.rt, bk := fun σ H => D.bk (σ.set j none) H, ct := fun σ H => D.ct (σ.set j none) H }
section
variable {X : Cx} {pins : List (Addr × Obj)} {σ : St} {H : Hp} {s : Shared} {D : Ends} {th : TS} {cn n : Str} {C0 : Addr} {np hpos : Pos} {b0 : Stmt} {suite : List Stmt} {j : Nat} {e : Value}
variable {i : Nat} {x : Str} {ex : Expr} {te : XK → TE} {px apos pos : Pos}
end
end L2

set_option Elab.async false
set_option linter.all false
set_option maxRecDepth 100000
set_option maxHeartbeats 4000000
/-! In short: an own exception by its name. -/
namespace L2
open PySem PySem.Spec PyProof.Rows
/-- an own exception that may be raised: its name, its class, its __init__ -/
structure RaiseOk (P : Program) (w : World) (K : PySem.W.Frag) (mg : Str → Option Value) (base : Heap) (x : Str) (C : Addr) (sp : Sp) : Prop where
  ex : ∃ (fI : Addr) (fd : FuncData) (ps : List Str), XMk K C fI ∧ FnOk P w K mg base CX0 1 fI fd ps sp ∧ mg x = some (.ref C) ∧ Binds K fd ps []
end L2

set_option Elab.async false
set_option linter.all false
set_option maxRecDepth 100000
set_option maxHeartbeats 4000000
/-! What a text's own exception classes are, in the words that a text's part answers. -/
namespace L2
open PySem PySem.Spec PyProof.Rows
structure OwnC (K : PySem.W.Frag) (mg : Str → Option Value) (x : Str) (D : Addr) : Prop where
  nm : mg x = some (.ref D)
  ty : PySem.W.typeIn K (.ref D) = some (.type "type")
  cl : (PySem.W.clsIn K D).isSome = true
structure ExcI (K : PySem.W.Frag) (C J : Addr) : Prop where
  ci : ClsI K C
  own : PySem.W.mroIn K C (.ref C) = some true
  val : PySem.W.mroIn K C (.type "ValueError") = some true
  up : PySem.W.mroIn K C (.ref J) = some true
  jx : PySem.W.mroIn K J (.type "BaseException") = some true
section
variable {K : PySem.W.Frag} {mg : Str → Option Value} {x : Str} {C D J : Addr} {b : Bool}
theorem OwnC.kit (o : OwnC K mg x D) : PySem.W.kitCls K (.ref C) (.ref D) = PySem.W.mroIn K C (.ref D) := by
  show (if ((PySem.W.clsIn K D).isSome && PySem.W.typeIn K (.ref D) == some (.type "type")) = true then PySem.W.subIn K (.ref C) (.ref D) else none) = _
  rw [o.cl, o.ty]
  rw [if_pos (by simp)]
  rfl
theorem ExcI.one (e : ExcI K C J) (o : OwnC K mg x D) (h : PySem.W.mroIn K C (.ref D) = some b) : PySem.W.kitOne K (.ref C) (.ref D) = some b := by
  unfold PySem.W.kitOne
  by_cases q : C = D
  · subst q
    have := e.own
    rw [h] at this
    rw [if_pos (by simp), ← this]
  · rw [if_neg (by simpa using q), o.kit]
    exact h
end
/-- the facts of a class that is raised -/
structure RF (K : PySem.W.Frag) (C J fI : Addr) : Prop where
  obj : ∃ nm qn N bs hdct sn sub ab col dd k0 k1 k2 k3 k5, K.lookup C = some (excClassObj nm qn C N bs (.ref J :: veMro) hdct sn sub ab col dd k0 k1 k2 k3 k5 "ValueError.__new__")
  init : PySem.W.findIn K (.ref C) "__init__" = some (some (.ref fI))
  fn : PySem.W.isFn K (.ref fI) = true
  kp : PySem.W.keepIn K (.ref C) = true
  ei : ExcI K C J
section
variable {P : Program} {w : World} {K : PySem.W.Frag} {mg : Str → Option Value} {base : Heap} {C J fI : Addr} {fd : FuncData} {x q f g : Str} {st : Stmt} {sp : Sp} {ps : List Str}
end
end L2

open PySem
namespace Odj
def isIntD : PyData → Bool | .int _ => true | _ => false
def risingFrom : Int → List PyData → Bool
  | _, [] => true
  | a, .int i :: ds => !decide (i ≤ a) && risingFrom i ds
  | _, _ :: _ => false
def lastBelow (bound : Int) : List PyData → Bool
  | [] => true
  | [.int i] => decide (i < bound)
  | [_] => false
  | _ :: d :: ds => lastBelow bound (d :: ds)
def belowD (bound : Int) : PyData → Bool
  | .tuple ds => risingFrom (-1) ds && lastBelow bound ds
  | _ => false
def wholeD (lo hi : Int) : PyData → Bool
  | .int i => decide (lo ≤ i) && decide (i ≤ hi)
  | _ => false
def intOf : PyData → Int | .int i => i | _ => 0
end Odj

set_option linter.all false
open PySem
namespace Odj
/-- two rising lists of the same numbers are one -/
theorem sorted_unique : ∀ {l1 l2 : List Int}, l1.Perm l2 → l1.Pairwise (· ≤ ·) → l2.Pairwise (· ≤ ·) → l1 = l2
  | [], l2, p, _, _ => (List.nil_perm.mp p).symm
  | a :: l1, [], p, _, _ => absurd p.length_eq (by simp)
  | a :: l1, b :: l2, p, h1, h2 => by
    have ha : a ∈ b :: l2 := p.mem_iff.mp (List.mem_cons_self ..)
    have hb : b ∈ a :: l1 := p.mem_iff.mpr (List.mem_cons_self ..)
    obtain ⟨q1, r1⟩ := List.pairwise_cons.mp h1
    obtain ⟨q2, r2⟩ := List.pairwise_cons.mp h2
    have e : a = b := by
      rcases List.mem_cons.mp ha with z | z
      · exact z
      · rcases List.mem_cons.mp hb with y | y
        · exact y.symm
        · have := q2 a z
          have := q1 b y
          omega
    subst e
    rw [sorted_unique (List.Perm.cons_inv p) r1 r2]
/-- numbers, each with whether it stood there an odd number of times so far -/
abbrev Odd := List (Int × Bool)
def isOdd (o : Odd) (k : Int) : Bool := ((o.find? fun p => decide (p.1 = k)).map (·.2)).getD false
def turnOdd (o : Odd) (k : Int) : Odd := if o.any (fun p => decide (p.1 = k)) then o.map (fun p => if p.1 = k then (p.1, !(isOdd o k)) else p) else o ++ [(k, !(isOdd o k))]
def oddsOf (row : List Int) : Odd := row.foldl turnOdd []
def trues (o : Odd) : List Int := (o.filter (·.2)).map (·.1)
def keysOf (o : Odd) : List Int := o.map (·.1)
/-- what is asked of the pair's second, of a key -/
theorem odd_at {o : Odd} (h : (keysOf o).Nodup) {i : Nat} {p : Int × Bool} (hp : o[i]? = some p) : isOdd o p.1 = p.2 := by
  induction o generalizing i with
  | nil => cases hp
  | cons q o ih =>
    unfold keysOf at h
    rw [List.map_cons, List.nodup_cons] at h
    cases i with
    | zero =>
      have : q = p := by simpa using hp
      subst this
      simp [isOdd]
    | succ i =>
      have hp' : o[i]? = some p := by simpa using hp
      have hm : p.1 ∈ o.map (·.1) := List.mem_map.mpr ⟨p, List.mem_of_getElem? hp', rfl⟩
      have hne : ¬ q.1 = p.1 := fun z => h.1 (z ▸ hm)
      have := ih h.2 hp'
      unfold isOdd at this ⊢
      rw [List.find?_cons]
      simp only [hne, decide_false]
      exact this
/-- numbers below m, each once: at most m -/
theorem nodup_le : ∀ {m : Nat} {l : List Int}, l.Nodup → (∀ k ∈ l, 0 ≤ k ∧ k < (m : Int)) → l.length ≤ m
  | 0, l, _, h => by
    cases l with
    | nil => simp
    | cons k l =>
      have := h k (List.mem_cons_self ..)
      omega
  | m + 1, l, hn, h => by
    by_cases hm : (m : Int) ∈ l
    · have h1 := nodup_le (m := m) (l := l.erase (m : Int)) (hn.erase _) fun k hk => by
        have hk' := (hn.mem_erase_iff).mp hk
        have := h k hk'.2
        have := hk'.1
        omega
      have := List.length_erase_of_mem hm
      have hp : 0 < l.length := List.length_pos_of_mem hm
      omega
    · have h1 := nodup_le (m := m) (l := l) hn fun k hk => by
        have := h k hk
        have hne : k ≠ (m : Int) := fun z => hm (z ▸ hk)
        omega
      omega
/-- ends of the ties of a set -/
def endsOf (ts : List (Int × Int × Int)) (some : List Int) : List Int := some.flatMap fun n => match ts[n.toNat]? with | .some t => [t.1, t.2.1] | .none => []
end Odj

set_option linter.all false
open PySem
namespace Odj
end Odj

set_option linter.all false
open PySem
namespace Odj
/-- of strictly rising lists with the same numbers: one -/
theorem rising_one : ∀ {l1 l2 : List Int}, l1.Pairwise (· < ·) → l2.Pairwise (· < ·) → (∀ k, k ∈ l1 ↔ k ∈ l2) → l1 = l2
  | [], [], _, _, _ => rfl
  | [], b :: l2, _, _, h => absurd ((h b).mpr (List.mem_cons_self ..)) (by simp)
  | a :: l1, [], _, _, h => absurd ((h a).mp (List.mem_cons_self ..)) (by simp)
  | a :: l1, b :: l2, h1, h2, h => by
    obtain ⟨q1, r1⟩ := List.pairwise_cons.mp h1
    obtain ⟨q2, r2⟩ := List.pairwise_cons.mp h2
    have e : a = b := by
      rcases List.mem_cons.mp ((h a).mp (List.mem_cons_self ..)) with z | z
      · exact z
      · rcases List.mem_cons.mp ((h b).mpr (List.mem_cons_self ..)) with y | y
        · exact y.symm
        · have := q2 a z
          have := q1 b y
          omega
    subst e
    rw [rising_one r1 r2 fun k => ?_]
    constructor
    · intro hk
      rcases List.mem_cons.mp ((h k).mp (List.mem_cons_of_mem _ hk)) with z | z
      · have := q1 k hk
        omega
      · exact z
    · intro hk
      rcases List.mem_cons.mp ((h k).mpr (List.mem_cons_of_mem _ hk)) with z | z
      · have := q2 k hk
        omega
      · exact z
/-- ns: the numbers that stand in row an odd number of times, rising -/
def OddSet (row ns : List Int) : Prop := ns.Pairwise (· < ·) ∧ ∀ k, k ∈ ns ↔ row.count k % 2 = 1
theorem OddSet.one {r1 r2 n1 n2 : List Int} (h1 : OddSet r1 n1) (h2 : OddSet r2 n2) (h : ∀ k, r1.count k % 2 = r2.count k % 2) : n1 = n2 :=
  rising_one h1.1 h2.1 fun k => by rw [h1.2, h2.2, h k]
theorem OddSet.same {r1 r2 n1 : List Int} (h1 : OddSet r1 n1) (h : ∀ k, r1.count k % 2 = r2.count k % 2) : OddSet r2 n1 := ⟨h1.1, fun k => by rw [h1.2, h k]⟩
theorem nodup_lt {l : List Int} (h : l.Pairwise (· < ·)) : l.Nodup := h.imp fun hab z => by omega
/-- a rising list: each once -/
theorem OddSet.self {l : List Int} (h : l.Pairwise (· < ·)) : OddSet l l := ⟨h, fun k => by
  have hn := nodup_lt h
  by_cases hk : k ∈ l
  · have := List.count_pos_iff.mpr hk
    have h1 := List.nodup_iff_count.mp hn k
    constructor
    · intro _; omega
    · intro _; exact hk
  · have := List.count_eq_zero.mpr hk
    constructor
    · intro z; exact absurd z hk
    · intro z; omega⟩
theorem OddSet.count {r n : List Int} (h : OddSet r n) (k : Int) : n.count k % 2 = r.count k % 2 := by
  have h1 := (OddSet.self h.1).2 k
  have h2 := h.2 k
  have a1 := Nat.mod_two_eq_zero_or_one (n.count k)
  have a2 := Nat.mod_two_eq_zero_or_one (r.count k)
  by_cases hk : k ∈ n
  · rw [h1.mp hk, h2.mp hk]
  · have b1 : ¬ n.count k % 2 = 1 := fun z => hk (h1.mpr z)
    have b2 : ¬ r.count k % 2 = 1 := fun z => hk (h2.mpr z)
    omega
/-- sums over rows in which all stand an even number of times -/
theorem even_sum (f : Int → Nat) : ∀ (n : Nat) (l : List Int), l.length ≤ n → (∀ k, l.count k % 2 = 0) → (l.map f).sum % 2 = 0
  | _, [], _, _ => rfl
  | 0, x :: l, hl, _ => by simp at hl
  | n + 1, x :: l, hl, h => by
    have hx := h x
    rw [List.count_cons_self] at hx
    have hm : x ∈ l := List.count_pos_iff.mp (by omega)
    have hp : l.Perm (x :: l.erase x) := List.perm_cons_erase hm
    have hlen := hp.length_eq
    rw [List.length_cons] at hlen hl
    have ih := even_sum f n (l.erase x) (by omega) fun k => by
      have hk := h k
      rw [List.count_cons, hp.count_eq k, List.count_cons] at hk
      split at hk <;> omega
    have hs : (l.map f).sum = f x + ((l.erase x).map f).sum := by
      have := (hp.map f).sum_nat
      rw [this, List.map_cons, List.sum_cons]
    rw [List.map_cons, List.sum_cons, hs]
    omega
theorem sum_same (f : Int → Nat) {a b : List Int} (h : ∀ k, a.count k % 2 = b.count k % 2) : (a.map f).sum % 2 = (b.map f).sum % 2 := by
  have := even_sum f _ (a ++ b) (Nat.le_refl _) fun k => by
    rw [List.count_append]
    have := h k
    omega
  rw [List.map_append, List.sum_append] at this
  omega
theorem ends_count (ts : List (Int × Int × Int)) (p : Int) (ns : List Int) : (endsOf ts ns).count p = (ns.map fun n => match ts[n.toNat]? with | .some t => [t.1, t.2.1].count p | .none => 0).sum := by
  induction ns with
  | nil => rfl
  | cons n ns ih =>
    have e : endsOf ts (n :: ns) = (match ts[n.toNat]? with | .some t => [t.1, t.2.1] | .none => []) ++ endsOf ts ns := rfl
    rw [e, List.count_append, List.map_cons, List.sum_cons, ih]
    cases ts[n.toNat]? <;> rfl
theorem ends_same (ts : List (Int × Int × Int)) {a b : List Int} (h : ∀ k, a.count k % 2 = b.count k % 2) (p : Int) : (endsOf ts a).count p % 2 = (endsOf ts b).count p % 2 := by
  rw [ends_count, ends_count]
  exact sum_same _ h
/-- a walk along ties -/
def otherEnd (t : Int × Int × Int) (x : Int) : Int := if t.1 = x then t.2.1 else t.1
def Walk (ts : List (Int × Int × Int)) : Int → List Int → Int → Prop
  | x, [], y => x = y
  | x, n :: row, y => ∃ t, 0 ≤ n ∧ ts[n.toNat]? = .some t ∧ (t.1 = x ∨ t.2.1 = x) ∧ Walk ts (otherEnd t x) row y
theorem walk_ends (ts : List (Int × Int × Int)) (p : Int) : ∀ (row : List Int) (x y : Int), Walk ts x row y → (endsOf ts row).count p % 2 = [x, y].count p % 2
  | [], x, y, h => by
    have e : x = y := h
    subst e
    have e2 : endsOf ts [] = [] := rfl
    rw [e2, List.count_nil, List.count_cons, List.count_cons, List.count_nil]
    split <;> rfl
  | n :: row, x, y, h => by
    obtain ⟨t, h0, ht, hx, hw⟩ := h
    have ih := walk_ends ts p row _ y hw
    have e : endsOf ts (n :: row) = [t.1, t.2.1] ++ endsOf ts row := by
      have : endsOf ts (n :: row) = (match ts[n.toNat]? with | .some t => [t.1, t.2.1] | .none => []) ++ endsOf ts row := rfl
      rw [this, ht]
    have hc : [t.1, t.2.1].count p = [x, otherEnd t x].count p := by
      unfold otherEnd
      rcases hx with z | z
      · rw [if_pos z, z]
      · by_cases z1 : t.1 = x
        · rw [if_pos z1, z1]
        · rw [if_neg z1, z, List.count_cons, List.count_cons, List.count_cons, List.count_cons]
          omega
    rw [e, List.count_append, hc]
    simp only [List.count_cons, List.count_nil] at ih ⊢
    omega
theorem Walk.append {ts : List (Int × Int × Int)} : ∀ {a b : List Int} {x y z : Int}, Walk ts x a y → Walk ts y b z → Walk ts x (a ++ b) z
  | [], b, x, y, z, h1, h2 => by
    have e : x = y := h1
    subst e
    exact h2
  | n :: a, b, x, y, z, h1, h2 => by
    obtain ⟨t, h0, ht, hx, hw⟩ := h1
    exact ⟨t, h0, ht, hx, hw.append h2⟩
theorem Walk.bounds {ts : List (Int × Int × Int)} : ∀ {a : List Int} {x y : Int}, Walk ts x a y → ∀ n ∈ a, 0 ≤ n ∧ n < (ts.length : Int)
  | [], _, _, _, n, hn => by cases hn
  | m :: a, x, y, h, n, hn => by
    obtain ⟨t, h0, ht, hx, hw⟩ := h
    rcases List.mem_cons.mp hn with e | e
    · subst e
      have := (List.getElem?_eq_some_iff.mp ht).1
      omega
    · exact hw.bounds n e
end Odj

namespace Odj
/-! the parts of a web, by calling places alike -/
def nameAt (ns : List Int) (i : Int) : Int := ns.getD i.toNat 0
/-- each is called by one that is called by itself -/
structure Called (m : Nat) (ns : List Int) : Prop where
  len : ns.length = m
  own : ∀ n ∈ ns, 0 ≤ n ∧ n < (m : Int) ∧ nameAt ns n = n
end Odj

set_option linter.all false
namespace Odj
/-! rings within an even set -/
abbrev T3 := Int × Int × Int
def stepTo (ts : List T3) (x n : Int) : Int := match ts[n.toNat]? with | .some t => otherEnd t x | .none => x
def pathOf (ts : List T3) : Int → List Int → List Int
  | x, [] => [x]
  | x, n :: r => x :: pathOf ts (stepTo ts x n) r
theorem path_len (ts : List T3) : ∀ (r : List Int) (x : Int), (pathOf ts x r).length = r.length + 1
  | [], _ => rfl
  | n :: r, x => by simp [pathOf, path_len ts r]
theorem path_snoc (ts : List T3) (n : Int) : ∀ (r : List Int) (x y : Int), Walk ts x r y → pathOf ts x (r ++ [n]) = pathOf ts x r ++ [stepTo ts y n]
  | [], x, y, h => by
    have e : x = y := h
    subst e
    rfl
  | m :: r, x, y, h => by
    obtain ⟨t, h0, ht, hx, hw⟩ := h
    have e : stepTo ts x m = otherEnd t x := by unfold stepTo; rw [ht]
    have ih := path_snoc ts n r (stepTo ts x m) y (by rw [e]; exact hw)
    show x :: pathOf ts (stepTo ts x m) (r ++ [n]) = x :: pathOf ts (stepTo ts x m) r ++ [stepTo ts y n]
    rw [ih]
    rfl
theorem walk_snoc {ts : List T3} {n : Int} {t : T3} {r : List Int} {x y : Int} (h : Walk ts x r y) (h0 : 0 ≤ n) (ht : ts[n.toNat]? = some t) (hy : t.1 = y ∨ t.2.1 = y) : Walk ts x (r ++ [n]) (otherEnd t y) := h.append ⟨t, h0, ht, hy, rfl⟩
theorem path_drop (ts : List T3) : ∀ (r : List Int) (x y : Int), Walk ts x r y → ∀ j, j ≤ r.length → ∃ z, (pathOf ts x r)[j]? = some z ∧ Walk ts z (r.drop j) y ∧ pathOf ts z (r.drop j) = (pathOf ts x r).drop j
  | [], x, y, h, j, hj => by
    have e : j = 0 := by simpa using hj
    subst e
    exact ⟨x, rfl, h, rfl⟩
  | n :: r, x, y, h, j, hj => by
    cases j with
    | zero => exact ⟨x, rfl, h, rfl⟩
    | succ j =>
      obtain ⟨t, h0, ht, hx, hw⟩ := h
      have e : stepTo ts x n = otherEnd t x := by unfold stepTo; rw [ht]
      obtain ⟨z, a, b, c⟩ := path_drop ts r (stepTo ts x n) y (by rw [e]; exact hw) j (by simpa using hj)
      exact ⟨z, by simpa [pathOf] using a, by simpa using b, by simpa [pathOf] using c⟩
structure RingOk (ts : List T3) (x : Int) (r : List Int) : Prop where
  walk : Walk ts x r x
  nd : r.Nodup
  pl : (pathOf ts x r).tail.Nodup
  two : 2 ≤ r.length
def EvenSet (ts : List T3) (l : List Int) : Prop := ∀ p, (endsOf ts l).count p % 2 = 0
theorem walk_even {ts : List T3} {x : Int} {r : List Int} (h : Walk ts x r x) : EvenSet ts r := fun p => by
  rw [walk_ends ts p r x x h]
  by_cases e : x = p <;> simp [e]
theorem count_nodup : ∀ {l : List Int}, l.Nodup → ∀ k, l.count k = if k ∈ l then 1 else 0
  | [], _, k => by simp
  | a :: l, h, k => by
    obtain ⟨h1, h2⟩ := List.nodup_cons.mp h
    have ih := count_nodup h2 k
    rw [List.count_cons, ih]
    by_cases e : a = k
    · subst e
      simp [h1]
    · have e' : ¬ k = a := fun z => e z.symm
      by_cases m : k ∈ l <;> simp [e, e', m]
/-- what is left, and what is taken -/
theorem left_perm {l r : List Int} (hl : l.Nodup) (hr : r.Nodup) (hs : ∀ k ∈ r, k ∈ l) : (r ++ l.filter fun k => decide (k ∉ r)).Perm l := by
  rw [List.perm_iff_count]
  intro k
  rw [List.count_append, count_nodup hr, count_nodup hl, count_nodup (hl.filter _)]
  by_cases h1 : k ∈ r
  · have h2 := hs k h1
    simp [h1, h2]
  · by_cases h2 : k ∈ l <;> simp [h1, h2]
theorem ends_perm (ts : List T3) {a b : List Int} (p : a.Perm b) : (endsOf ts a).Perm (endsOf ts b) := by
  unfold endsOf
  exact p.flatMap_right _
theorem ends_cat (ts : List T3) (a b : List Int) : endsOf ts (a ++ b) = endsOf ts a ++ endsOf ts b := by
  unfold endsOf
  rw [List.flatMap_append]
theorem left_even {ts : List T3} {l r : List Int} (hl : l.Nodup) (hr : r.Nodup) (hs : ∀ k ∈ r, k ∈ l) (e : EvenSet ts l) (er : EvenSet ts r) : EvenSet ts (l.filter fun k => decide (k ∉ r)) := fun p => by
  have h := (ends_perm ts (left_perm hl hr hs)).count_eq p
  rw [ends_cat, List.count_append] at h
  have a := e p
  have b := er p
  omega
theorem end_mem {ts : List T3} {l : List Int} {p : Int} (h : p ∈ endsOf ts l) : ∃ n t, n ∈ l ∧ ts[n.toNat]? = some t ∧ (t.1 = p ∨ t.2.1 = p) := by
  unfold endsOf at h
  obtain ⟨n, hn, hp⟩ := List.mem_flatMap.mp h
  cases e : ts[n.toNat]? with
  | none => rw [e] at hp; cases hp
  | some t =>
    rw [e] at hp
    simp only [List.mem_cons, List.not_mem_nil, or_false] at hp
    exact ⟨n, t, hn, e, hp.imp Eq.symm Eq.symm⟩
/-- one can go on -/
theorem go_on {ts : List T3} {l r ps : List Int} {x y : Int} (hl : l.Nodup) (hr : r.Nodup) (hs : ∀ k ∈ r, k ∈ l) (e : EvenSet ts l) (h : Walk ts x r y) (hp : pathOf ts x r = ps ++ [y]) (hy : y ∉ ps) (h0 : r = [] → ∃ n t, n ∈ l ∧ ts[n.toNat]? = some t ∧ (t.1 = y ∨ t.2.1 = y)) :
    ∃ n t, n ∈ l ∧ n ∉ r ∧ ts[n.toNat]? = some t ∧ (t.1 = y ∨ t.2.1 = y) := by
  cases r with
  | nil =>
    obtain ⟨n, t, a, b, c⟩ := h0 rfl
    exact ⟨n, t, a, by simp, b, c⟩
  | cons m r' =>
    have hx : x ∈ ps := by
      cases ps with
      | nil =>
        have := congrArg List.length hp
        rw [path_len] at this
        simp at this
      | cons a ps' =>
        have : x = a := by
          have := congrArg List.head? hp
          simpa [pathOf] using this
        rw [this]
        exact List.mem_cons_self ..
    have hne : ¬ x = y := fun z => hy (by rw [← z]; exact hx)
    have c1 := walk_ends ts y _ x y h
    have c1' : [x, y].count y = 1 := by simp [List.count_cons, hne]
    rw [c1'] at c1
    have h2 := (ends_perm ts (left_perm hl hr hs)).count_eq y
    rw [ends_cat, List.count_append] at h2
    have h3 := e y
    have h4 : 0 < (endsOf ts (l.filter fun k => decide (k ∉ m :: r'))).count y := by omega
    obtain ⟨n, t, a, b, c⟩ := end_mem (List.count_pos_iff.mp h4)
    obtain ⟨a1, a2⟩ := List.mem_filter.mp a
    exact ⟨n, t, a1, of_decide_eq_true a2, b, c⟩
theorem nodup_get {l : List Int} (h : l.Nodup) {j : Nat} {z : Int} (hj : l[j]? = some z) : z ∉ l.drop (j + 1) := by
  have hlt : j < l.length := (List.getElem?_eq_some_iff.mp hj).1
  have e : l.drop j = z :: l.drop (j + 1) := by
    rw [List.drop_eq_getElem_cons hlt]
    congr
    exact (List.getElem?_eq_some_iff.mp hj).2
  have := h.sublist (List.drop_sublist j l)
  rw [e] at this
  exact (List.nodup_cons.mp this).1
/-- the ring at the row's end -/
theorem ring_end {ts : List T3} {r ps : List Int} {x y : Int} {j : Nat} (hu : ∀ t ∈ ts, t.1 ≠ t.2.1) (hr : r.Nodup) (h : Walk ts x r y) (hp : pathOf ts x r = ps ++ [y]) (hn : ps.Nodup) (hj : ps[j]? = some y) : RingOk ts y (r.drop j) := by
  have hlen : ps.length = r.length := by
    have := congrArg List.length hp
    rw [path_len] at this
    simpa using this.symm
  have hlt : j < ps.length := (List.getElem?_eq_some_iff.mp hj).1
  obtain ⟨z, a, b, c⟩ := path_drop ts r x y h j (by omega)
  have ez : z = y := by
    rw [hp, List.getElem?_append_left hlt, hj] at a
    exact (Option.some.inj a).symm
  subst ez
  have hd : (pathOf ts x r).drop j = z :: (ps.drop (j + 1) ++ [z]) := by
    rw [hp, List.drop_append_of_le_length (by omega), List.drop_eq_getElem_cons hlt]
    have : ps[j] = z := (List.getElem?_eq_some_iff.mp hj).2
    rw [this]
    rfl
  refine ⟨b, hr.sublist (List.drop_sublist _ _), ?_, ?_⟩
  · rw [c, hd]
    show (ps.drop (j + 1) ++ [z]).Nodup
    rw [List.nodup_append]
    refine ⟨hn.sublist (List.drop_sublist _ _), by simp, fun u hu v hv e => ?_⟩
    have : v = z := by simpa using hv
    subst this
    subst e
    exact nodup_get hn hj hu
  · have l1 : (r.drop j).length = r.length - j := List.length_drop
    by_cases h2 : 2 ≤ (r.drop j).length
    · exact h2
    · exfalso
      have l2 : (r.drop j).length = 1 := by omega
      cases er : r.drop j with
      | nil => rw [er] at l2; simp at l2
      | cons n r' =>
        rw [er] at l2 b
        have er' : r' = [] := by
          cases r' with
          | nil => rfl
          | cons _ _ => simp at l2
        subst er'
        obtain ⟨t, h0, ht, hx, hw⟩ := b
        have ew : otherEnd t z = z := hw
        have hne := hu t (List.mem_of_getElem? ht)
        unfold otherEnd at ew
        split at ew
        · rename_i e1
          exact hne (by rw [e1, ew])
        · rename_i e1
          exact e1 ew
theorem walk_in {ts : List T3} : ∀ {r : List Int} {x y : Int}, Walk ts x r y → ∀ n ∈ r, 0 ≤ n ∧ n < (ts.length : Int) := fun h => Walk.bounds h
/-- where a ring begins is an end of a tie -/
theorem ring_at {ts : List T3} {x : Int} {r : List Int} (h : RingOk ts x r) : ∃ t ∈ ts, t.1 = x ∨ t.2.1 = x := by
  have h1 := h.walk
  have h2 := h.two
  cases r with
  | nil => simp at h2
  | cons n r =>
    obtain ⟨t, h0, ht, hx, _⟩ := h1
    exact ⟨t, List.mem_of_getElem? ht, hx⟩
theorem ahead_other {t : T3} {x : Int} (h : t.1 = x ∨ t.2.1 = x) : t.1 + t.2.1 - x = otherEnd t x := by
  unfold otherEnd
  split
  · omega
  · rcases h with h | h <;> omega
end Odj

set_option Elab.async false
set_option linter.all false
set_option maxRecDepth 100000
namespace Odj
open PySem L2
def top (i : Nat) : Stmt := PySem.Challenge.pw_oddjoins_k09_even_sets_as_rings.main.body.getD i (.Pass ⟨0, 0, 0, 0⟩)
/-- the built-ins are not called otherwise -/
structure Bt (mg : Str → Option Value) : Prop where
  isinstance : mg "isinstance" = none
  int : mg "int" = none
  bool : mg "bool" = none
  tuple : mg "tuple" = none
  len : mg "len" = none
section
variable {P : Program} {w : World} {K : PySem.W.Frag} {mg : Str → Option Value} {base : Heap}
theorem kit1 (d : PyData) : PySem.W.kitOne K (.type (tyD d)) (.type "int") = some (match d with | .int _ => true | .bool _ => true | _ => false) := by
  cases d <;> rfl
theorem kit2 (d : PyData) : PySem.W.kitOne K (.type (tyD d)) (.type "bool") = some (match d with | .bool _ => true | _ => false) := by
  cases d <;> rfl
theorem kit3 (d : PyData) : PySem.W.kitOne K (.type (tyD d)) (.type "tuple") = some (match d with | .tuple _ => true | _ => false) := by
  cases d <;> rfl
end
end Odj

set_option Elab.async false
set_option linter.all false
set_option maxRecDepth 100000
namespace Odj
open PySem L2
def spIsWhole : Sp := fun vs H Q _ => ∃ S d v, vs = [v] ∧ Rep S H d v ∧ Q (.bl (isIntD d)) H
def risingD : PyData → Bool
  | .tuple ds => risingFrom (-1) ds
  | _ => false
def spIsRising : Sp := fun vs H Q _ => ∃ S d v, vs = [v] ∧ Rep S H d v ∧ Q (.bl (risingD d)) H
section
variable {P : Program} {w : World} {K : PySem.W.Frag} {mg : Str → Option Value} {base : Heap} {f : Addr} {fd : FuncData}
theorem d_is_whole (F : Fun K "is_whole" "is_whole" (top 1) f fd) (hm : mg "is_whole" = some (.ref f)) (B : Bt mg) : DefOk P w K mg base 1 "is_whole" ["thing"] spIsWhole := by
  refine ⟨f, fd, ?_, hm, F.kp, F.binds fun _ _ _ _ _ _ us hl => match us, hl with | [_], _ => rfl⟩
  have sc : FnScope ["thing"] ["thing"] (defScope (top 1)) := ⟨rfl, rfl, rfl, by decide +kernel, rfl, by decide +kernel, by decide +kernel⟩
  refine F.okQ sc (fun vs H Q E h => ?_) (fun cdv A outer s H vs Q E hr h => ?_)
  · obtain ⟨S, d, v, rfl, _⟩ := h
    rfl
  · obtain ⟨S, d, v, rfl, rp, q⟩ := h
    refine ⟨_, (qss_one (qs_ret (qe_and (qe_callB call_isi (by rfl) B.isinstance (by decide +kernel) (qa_c (qv 0) (qa_c (qe_ty "int" (by rfl) B.int (by decide +kernel)) qa_nil))) (qe_one (qe_not (qe_callB call_isi (by rfl) B.isinstance (by decide +kernel) (qa_c (qv 0) (qa_c (qe_ty "bool" (by rfl) B.bool (by decide +kernel)) qa_nil)))))))), ?_⟩
    refine ⟨v, rfl, v, _, _, _, rfl, rp.ty, kit1 d, _, rfl, ?_⟩
    cases d with
    | int i => exact iteT ⟨v, rfl, v, _, _, _, rfl, rp.ty, kit2 _, _, rfl, q⟩
    | bool b => exact iteT ⟨v, rfl, v, _, _, _, rfl, rp.ty, kit2 _, _, rfl, q⟩
    | _ => exact iteF q
theorem d_is_rising (F : Fun K "is_rising" "is_rising" (top 2) f fd) (hm : mg "is_rising" = some (.ref f)) (B : Bt mg) (D_is_whole : DefOk P w K mg base 1 "is_whole" ["thing"] spIsWhole) : DefOk P w K mg base 2 "is_rising" ["thing"] spIsRising := by
  refine ⟨f, fd, ?_, hm, F.kp, F.binds fun _ _ _ _ _ _ us hl => match us, hl with | [_], _ => rfl⟩
  have sc : FnScope ["thing", "ahead", "number"] ["thing"] (defScope (top 2)) := ⟨rfl, rfl, rfl, by decide +kernel, rfl, by decide +kernel, by decide +kernel⟩
  refine F.okQ sc (fun vs H Q E h => ?_) (fun cdv A outer s H vs Q E hr h => ?_)
  · obtain ⟨S, d, v, rfl, _⟩ := h
    rfl
  · obtain ⟨S, d, v, rfl, rp, q⟩ := h
    refine ⟨_, (qss_cons (qs_if (qt_not (qt_val (qe_callB call_isi (by rfl) B.isinstance (by decide +kernel) (qa_c (qv 0) (qa_c (qe_ty "tuple" (by rfl) B.tuple (by decide +kernel)) qa_nil))))) (qss_one (qs_ret qe_bl)) qss_nil)
      (qss_cons (qs_set (i := 1) sc.nd rfl (Or.inl rfl) (qe_un un_neg qe_int))
      (qss_cons (qs_for PassesOwn.never rfl (qi_tup (qv 0)) (qg_name (i := 2) sc.nd rfl (Or.inl rfl)) (qss_cons (qs_if (QW.pt (qw_or (qt_not (qt_val (qe_callD D_is_whole (hr.mono (by decide)) (qa_c (qv 2) qa_nil)))) (qw_or1 (qt_cmpR op_le (qv 2) (qv 1) (nomark _))))) (qss_one (qs_ret qe_bl)) qss_nil)
      (qss_one (qs_set (i := 1) sc.nd rfl (Or.inl rfl) (qv 2)))))
      (qss_one (qs_ret qe_bl))))), ?_⟩
    refine ⟨v, rfl, v, _, _, _, rfl, rp.ty, kit3 d, _, rfl, ?_⟩
    cases d with
    | tuple ds =>
      obtain ⟨a, xs, rfl, ha, hr'⟩ := rp.of_tup
      refine iteF ⟨1, rfl, _, rfl, a, rfl, ⟨_, SqT.of ha⟩, for_tup (K := K) (a := a) (xs := xs) (fun i σ H' => H' = H ∧ ∃ z y, σ = [some (.ref a), some (.int z), y] ∧ risingFrom (-1) ds = risingFrom z (ds.drop i)) ⟨rfl, -1, none, rfl, rfl⟩ (fun i σ H' _ e => by rw [e.1]; exact SqT.of ha) ?_ ?_⟩
      · rintro i x σ H' hx ⟨rfl, z, y, rfl, hz⟩
        obtain ⟨d, hd, rd⟩ := hr'.get hx
        have hlt : i < ds.length := (List.getElem?_eq_some_iff.mp hd).1
        have hdr : ds.drop i = d :: ds.drop (i + 1) := by
          rw [List.drop_eq_getElem_cons hlt]
          congr
          exact (List.getElem?_eq_some_iff.mp hd).2
        rw [hdr] at hz
        refine ⟨x, rfl, S, d, x, rfl, rd, _, rfl, ?_⟩
        cases d with
        | int j =>
          cases rd.of_int
          refine iteF ⟨_, rfl, _, rfl, j, z, rfl, rfl, _, rfl, ?_⟩
          refine ite2 (fun h => ?_) (fun h => ?_)
          · have h' : j ≤ z := of_decide_eq_true h
            have e : risingD (.tuple ds) = false := by
              show risingFrom (-1) ds = false
              rw [hz]
              simp [risingFrom, h']
            rw [e] at q
            exact q
          · have h' : ¬ j ≤ z := fun g => h (decide_eq_true g)
            refine ⟨_, rfl, rfl, j, _, rfl, ?_⟩
            rw [hz]
            simp [risingFrom, h']
        | _ =>
          refine iteT ?_
          have e : risingD (.tuple ds) = false := by
            show risingFrom (-1) ds = false
            rw [hz]
            rfl
          rw [e] at q
          exact q
      · rintro σ H' ⟨rfl, z, y, rfl, hz⟩
        have e : risingD (.tuple ds) = true := by
          show risingFrom (-1) ds = true
          rw [hz, List.drop_of_length_le (by rw [hr'.length]; exact Nat.le_refl _)]
          rfl
        rw [e] at q
        exact q
    | _ => exact iteT q
end
end Odj

set_option Elab.async false
set_option linter.all false
set_option maxRecDepth 100000
namespace Odj
open PySem L2
/-- the feed at fa, its script at sa, asked n times so far -/
structure Feed (H : Hp) (fa sa : Addr) (n : Int) : Prop where
  ex : ∃ (ns : List Int) (i c : Int), H fa = some (.lst [.ref sa, .int i, .int c, .int n]) ∧ H sa = some (.lst (ns.map V.int))
  ne : sa ≠ fa
  lo : 0 ≤ n
theorem Feed.ext {S : List Addr} {H H' : Hp} {fa sa : Addr} {n : Int} (f : Feed H fa sa n) (x : Ext S H H') (h1 : fa ∉ S) (h2 : sa ∉ S) : Feed H' fa sa n := by
  obtain ⟨ns, i, c, e1, e2⟩ := f.ex
  exact ⟨⟨ns, i, c, x.keep _ _ h1 e1, x.keep _ _ h2 e2⟩, f.ne, f.lo⟩
theorem Feed.put {H : Hp} {fa sa : Addr} {n : Int} (f : Feed H fa sa n) (i c n' : Int) (h : 0 ≤ n') : Feed (upd H fa (.lst [.ref sa, .int i, .int c, .int n'])) fa sa n' ∧ Ext [fa] H (upd H fa (.lst [.ref sa, .int i, .int c, .int n'])) := by
  obtain ⟨ns, i0, c0, e1, e2⟩ := f.ex
  exact ⟨⟨⟨ns, i, c, upd_same, by rw [upd_ne f.ne]; exact e2⟩, f.ne, h⟩, .set (by simp) e1⟩
def most : Int := 1099511627776
/-- a draw below many -/
def spDraw : Sp := fun vs H Q _ => ∃ (fa sa : Addr) (n many : Int), vs = [.ref fa, .int many] ∧ Feed H fa sa n ∧ 0 < many ∧ many < 1073741824 ∧ n < most ∧
  ∀ (r : Int) (H' : Hp), 0 ≤ r → r < many → Feed H' fa sa (n + 1) → Ext [fa] H H' → Q (.int r) H'
theorem canLay_ints (ns : List Int) : PyData.canLayAll0 (ns.map PyData.int) = true := by
  induction ns with
  | nil => rfl
  | cons n ns ih => simpa [PyData.canLayAll0, PyData.canLay0] using ih
theorem depth_ints (ns : List Int) : PyData.depthAll (ns.map PyData.int) = 0 := by
  induction ns with
  | nil => rfl
  | cons n ns ih => simpa [PyData.depthAll, PyData.depth] using ih
section
variable {P : Program} {w : World} {K : PySem.W.Frag} {mg : Str → Option Value} {base : Heap} {f : Addr} {fd : FuncData}
theorem d_draw (F : Fun K "_law_draw" "_law_draw" (top 15) f fd) (hm : mg "_law_draw" = some (.ref f)) (B : Bt mg) : DefOk P w K mg base 1 "_law_draw" ["_law_feed_here", "_law_many"] spDraw := by
  refine ⟨f, fd, ?_, hm, F.kp, F.binds fun _ _ _ _ _ _ us hl => match us, hl with | [_, _], _ => rfl⟩
  have sc : FnScope ["_law_feed_here", "_law_many", "_law_found", "_law_cell", "_law_mixed"] ["_law_feed_here", "_law_many"] (defScope (top 15)) := ⟨rfl, rfl, rfl, by decide +kernel, rfl, by decide +kernel, by decide +kernel⟩
  refine F.okQ sc (fun vs H Q E h => ?_) (fun cdv A outer s H vs Q E hr h => ?_)
  · obtain ⟨fa, sa, n, many, rfl, _⟩ := h
    rfl
  · obtain ⟨fa, sa, n, many, rfl, fe, m0, m1, nm, q⟩ := h
    refine ⟨_, (qss_cons (qs_asg (qe_op op_add (qe_ix ix_list (qv 0) qe_int (fun _ _ => rfl)) qe_int) (qg_sub (qv 0) qe_int set_list))
      (qss_cons (qs_if (qt_cmpR op_gt (qe_ix ix_list (qv 0) qe_int (fun _ _ => rfl)) qe_int (nomark _)) (qss_cons (qs_set (i := 2) sc.nd rfl (Or.inl rfl) (qe_op op_mod (qe_ix ix_list (qv 0) qe_int (fun _ _ => rfl)) (qv 1)))
      (qss_cons (qs_asg (qe_op op_fdiv (qe_ix ix_list (qv 0) qe_int (fun _ _ => rfl)) (qv 1)) (qg_sub (qv 0) qe_int set_list))
      (qss_one (qs_ret (qv 2))))) qss_nil)
      (qss_cons (qs_set (i := 3) sc.nd rfl (Or.inl rfl) qe_int)
      (qss_cut (qs_if (qt_cmpR (op_neD hr) (qe_ix ix_list (qv 0) qe_int (fun _ _ => rfl)) (qe_lst qa_nil) (nomark _)) (qss_one (qs_set (i := 3) sc.nd rfl (Or.inl rfl) (qe_ix ix_list (qe_ix ix_list (qv 0) qe_int (fun _ _ => rfl)) (qe_op op_mod (qe_ix ix_list (qv 0) qe_int (fun _ _ => rfl)) (qe_callB call_len_seq (by rfl) B.len (by decide +kernel) (qa_c (qe_ix ix_list (qv 0) qe_int (fun _ _ => rfl)) qa_nil))) (fun _ _ => rfl)))) qss_nil)
      (qss_cons (qs_asg (qe_op op_add (qe_ix ix_list (qv 0) qe_int (fun _ _ => rfl)) qe_int) (qg_sub (qv 0) qe_int set_list))
      (qss_cut (qs_if (QW.pt (qw_and (qt_cmpR op_ge (qv 3) (qe_op op_pow qe_int qe_int) (nomark _)) (qw_and1 (qt_cmpR op_le (qe_ix ix_list (qv 0) qe_int (fun _ _ => rfl)) (qe_callB call_len_seq (by rfl) B.len (by decide +kernel) (qa_c (qe_ix ix_list (qv 0) qe_int (fun _ _ => rfl)) qa_nil)) (nomark _))))) (qss_cons (qs_asg (qe_op op_fdiv (qv 3) (qv 1)) (qg_sub (qv 0) qe_int set_list))
      (qss_one (qs_ret (qe_op op_mod (qv 3) (qv 1))))) qss_nil)
      (qss_cons (qs_set (i := 4) sc.nd rfl (Or.inl rfl) (qe_op op_mod (qe_op op_mul (qe_op op_add (qe_op op_mod (qv 3) qe_int) (qe_op op_mul qe_int (qe_ix ix_list (qv 0) qe_int (fun _ _ => rfl)))) qe_int) qe_int))
      (qss_cons (qs_set (i := 4) sc.nd rfl (Or.inl rfl) (qe_op op_mod (qe_op op_mul (qe_op op_add (qe_op op_fdiv (qv 4) qe_int) (qe_op op_mul (qe_op op_mul qe_int (qe_ix ix_list (qv 0) qe_int (fun _ _ => rfl))) (qe_ix ix_list (qv 0) qe_int (fun _ _ => rfl)))) qe_int) qe_int))
      (qss_one (qs_ret (qe_op op_mod (qe_op op_fdiv (qv 4) qe_int) (qv 1)))))))))))), ?_⟩
    obtain ⟨ns, i, c, e1, e2⟩ := fe.ex
    have n0 := fe.lo
    obtain ⟨f1, x1⟩ := fe.put i c (n + 1) (by omega)
    refine ⟨_, rfl, fa, _, 3, _, rfl, rfl, SqL.of e1, rfl, n, 1, rfl, rfl, _, rfl, fa, _, 3, 3, rfl, rfl, e1, rfl, ?_⟩
    refine ⟨_, rfl, fa, _, 2, _, rfl, rfl, SqL.of upd_same, rfl, c, 0, rfl, rfl, _, rfl, ite2 (fun hc => ?_) (fun hc => ?_)⟩
    · refine ⟨_, rfl, fa, _, 2, _, rfl, rfl, SqL.of upd_same, rfl, _, rfl, c, many, rfl, rfl, m0, ?_⟩
      refine ⟨_, rfl, fa, _, 2, _, rfl, rfl, SqL.of upd_same, rfl, _, rfl, c, many, rfl, rfl, ⟨m0, m1⟩, _, rfl, fa, _, 2, 2, rfl, rfl, upd_same, rfl, ?_⟩
      obtain ⟨f2, x2⟩ := f1.put i (c / many) (n + 1) (by omega)
      exact ⟨_, rfl, q _ _ (Int.emod_nonneg _ (by omega)) (Int.emod_lt_of_pos _ m0) f2 (x1.trans x2)⟩
    · -- the cell
      refine ⟨fun σ' H' => ∃ cell : Int, σ' = [some (.ref fa), some (.int many), none, some (.int cell), none] ∧ Feed H' fa sa (n + 1) ∧ Ext [fa] H H', ?_, ?_⟩
      · refine ⟨_, rfl, fa, _, 0, _, rfl, rfl, SqL.of upd_same, rfl, Nat.zero_le _, fun p hp => ?_⟩
        have hpf : p ≠ fa := fun z => by rw [z, upd_same] at hp; cases hp
        have x2 : Ext [] (upd H fa (.lst [.ref sa, .int i, .int c, .int (n + 1)])) (upd (upd H fa (.lst [.ref sa, .int i, .int c, .int (n + 1)])) p (.lst [])) := .new hp
        have f2 := f1.ext x2 (by simp) (by simp)
        have x3 := x1.trans (x2.mono (S' := [fa]) (by simp))
        have a2 : (upd (upd H fa (.lst [.ref sa, .int i, .int c, .int (n + 1)])) p (.lst [])) sa = some (.lst (ns.map V.int)) := x2.keep _ _ (by simp) (by rw [upd_ne fe.ne]; exact e2)
        have a1 : (upd (upd H fa (.lst [.ref sa, .int i, .int c, .int (n + 1)])) p (.lst [])) fa = some (.lst [.ref sa, .int i, .int c, .int (n + 1)]) := x2.keep _ _ (by simp) upd_same
        refine ⟨[], .list (ns.map .int), .list [], .lst a2 (by simp) (.ints ns), .lst upd_same (by simp) .nil, canLay_ints ns, rfl, by simp [PyData.depth, depth_ints], _, rfl, ?_⟩
        cases ns with
        | nil => exact iteF ⟨7, rfl, f2, x3⟩
        | cons k ns =>
          refine iteT ?_
          have hl : (0 : Int) < (((k :: ns).map V.int).length : Nat) := by simp
          obtain ⟨v, hv, hv2⟩ := atI_ex (xs := (k :: ns).map V.int) (Int.emod_nonneg i (by omega)) (Int.emod_lt_of_pos i hl)
          obtain ⟨z, rfl⟩ : ∃ z, v = V.int z := by
            rw [List.getElem?_map] at hv2
            cases e : (k :: ns)[(i % (((k :: ns).map V.int).length : Nat)).toNat]? with
            | none => rw [e] at hv2; cases hv2
            | some z => rw [e] at hv2; exact ⟨z, (Option.some.inj hv2).symm⟩
          refine ⟨_, rfl, fa, _, 0, _, rfl, rfl, SqL.of a1, rfl, _, rfl, fa, _, 1, _, rfl, rfl, SqL.of a1, rfl, _, rfl, fa, _, 0, _, rfl, rfl, SqL.of a1, rfl, sa, _, rfl, .inl (SqL.of a2), i, _, rfl, rfl, hl, sa, _, _, _, rfl, rfl, SqL.of a2, hv, z, rfl, f2, x3⟩
      · rintro σ' H' ⟨cell, rfl, f2, x2⟩
        obtain ⟨ns2, i2, c2, b1, b2⟩ := f2.ex
        obtain ⟨f3, x3⟩ := f2.put (i2 + 1) c2 (n + 1) (by omega)
        have b3 : (upd H' fa (.lst [.ref sa, .int (i2 + 1), .int c2, .int (n + 1)])) sa = some (.lst (ns2.map V.int)) := by rw [upd_ne fe.ne]; exact b2
        refine ⟨_, rfl, fa, _, 1, _, rfl, rfl, SqL.of b1, rfl, i2, 1, rfl, rfl, _, rfl, fa, _, 1, 1, rfl, rfl, b1, rfl, ?_⟩
        refine ⟨fun σ' H2 => σ' = [some (.ref fa), some (.int many), none, some (.int cell), none] ∧ H2 = upd H' fa (.lst [.ref sa, .int (i2 + 1), .int c2, .int (n + 1)]), ?_, ?_⟩
        · refine ⟨_, rfl, 10, 18, rfl, rfl, ⟨by decide, by decide, by decide⟩, cell, _, rfl, rfl, _, rfl, ite2 (fun hb => ?_) (fun hb => ?_)⟩
          · refine ⟨_, rfl, fa, _, 1, _, rfl, rfl, SqL.of upd_same, rfl, _, rfl, fa, _, 0, _, rfl, rfl, SqL.of upd_same, rfl, sa, _, rfl, .inl (SqL.of b3), _, _, rfl, rfl, _, rfl, ite2 (fun hd => ?_) (fun hd => ?_)⟩
            · refine ⟨_, rfl, _, rfl, cell, many, rfl, rfl, ⟨m0, m1⟩, _, rfl, fa, _, 2, 2, rfl, rfl, upd_same, rfl, ?_⟩
              obtain ⟨f4, x4⟩ := f3.put (i2 + 1) (cell / many) (n + 1) (by omega)
              exact ⟨_, rfl, _, rfl, cell, many, rfl, rfl, m0, q _ _ (Int.emod_nonneg _ (by omega)) (Int.emod_lt_of_pos _ m0) f4 ((x2.trans x3).trans x4)⟩
            · exact ⟨rfl, rfl⟩
          · exact iteF ⟨rfl, rfl⟩
        · rintro σ' H2 ⟨rfl, rfl⟩
          have nb : -(2 ^ 64) < n + 1 ∧ n + 1 < 2 ^ 64 := by
            have : most = 1099511627776 := rfl
            constructor <;> omega
          refine ⟨_, rfl, _, _, rfl, rfl, (by show (0 : Int) < 1000000007; decide), _, rfl, fa, _, 3, _, rfl, rfl, SqL.of upd_same, rfl, _, _, rfl, rfl, .inl ⟨by decide, by decide⟩, _, _, rfl, rfl, _, _, rfl, rfl, .inr ⟨by decide, by decide⟩, _, _, rfl, rfl, (by show (0 : Int) < 2147483629; decide), ?_⟩
          refine ⟨_, rfl, _, _, rfl, rfl, ⟨by decide, by decide⟩, _, rfl, fa, _, 3, _, rfl, rfl, SqL.of upd_same, rfl, _, _, rfl, rfl, .inl ⟨by decide, by decide⟩, _, rfl, fa, _, 3, _, rfl, rfl, SqL.of upd_same, rfl, _, _, rfl, rfl, .inr nb, _, _, rfl, rfl, _, _, rfl, rfl, .inr ⟨by decide, by decide⟩, _, _, rfl, rfl, (by show (0 : Int) < 2147483587; decide), ?_⟩
          exact ⟨_, rfl, _, _, rfl, rfl, ⟨by decide, by decide⟩, _, rfl, _, _, rfl, rfl, m0, q _ _ (Int.emod_nonneg _ (by omega)) (Int.emod_lt_of_pos _ m0) f3 (x2.trans x3)⟩
end
end Odj

set_option Elab.async false
set_option linter.all false
set_option maxRecDepth 100000
set_option maxHeartbeats 4000000
namespace Odj
open PySem L2
theorem rising_ints : ∀ (ds : List PyData) (a : Int), risingFrom a ds = true → ∀ d ∈ ds, ∃ i, d = .int i
  | [], _, _, d, hd => by cases hd
  | .int j :: ds, a, h, d, hd => by
    rcases List.mem_cons.mp hd with e | e
    · exact ⟨j, e⟩
    · refine rising_ints ds j ?_ d e
      simp only [risingFrom, Bool.and_eq_true] at h
      exact h.2
  | .none :: ds, a, h, d, hd => by cases h
  | .bool _ :: ds, a, h, d, hd => by cases h
  | .str _ :: ds, a, h, d, hd => by cases h
  | .list _ :: ds, a, h, d, hd => by cases h
  | .tuple _ :: ds, a, h, d, hd => by cases h
  | .dict _ :: ds, a, h, d, hd => by cases h
theorem lastBelow_at (b : Int) : ∀ (ds : List PyData) (i : Int), ds[ds.length - 1]? = some (.int i) → lastBelow b ds = decide (i < b)
  | [], i, h => by cases h
  | [d], i, h => by
    have : d = .int i := Option.some.inj h
    subst this
    rfl
  | d :: e :: ds, i, h => by
    rw [show lastBelow b (d :: e :: ds) = lastBelow b (e :: ds) from by simp [lastBelow]]
    exact lastBelow_at b (e :: ds) i (by simpa using h)
theorem atI_neg1 {α : Type} {xs : List α} {x : α} (h : xs[xs.length - 1]? = some x) : atI xs (-1) = some x := by
  have hl : xs.length - 1 < xs.length := (List.getElem?_eq_some_iff.mp h).1
  unfold atI ixN
  rw [if_neg (by decide), if_pos (by omega)]
  show xs[(-1 + (xs.length : Int)).toNat]? = some x
  rw [show (-1 + (xs.length : Int)).toNat = xs.length - 1 by omega]
  exact h
def spBelow : Sp := fun vs H Q _ => ∃ S d v b, vs = [v, .int b] ∧ Rep S H d v ∧ Q (.bl (belowD b d)) H
/-- a web's own shape -/
def webD (many : Int) (ts : List PyData) : PyData := .tuple [.int many, .tuple ts]
def spSet : Sp := fun vs H Q _ => ∃ S d v many ts w, vs = [w, v] ∧ Rep S H (webD many ts) w ∧ Rep S H d v ∧ Q (.bl (belowD (ts.length : Nat) d)) H
def spWhole : Sp := fun vs H Q _ => ∃ S d v lo hi, vs = [v, .int lo, .int hi] ∧ Rep S H d v ∧ Q (.bl (wholeD lo hi d)) H
theorem web_of {S : List Addr} {H : Hp} {many : Int} {ts : List PyData} {v : V} (h : Rep S H (webD many ts) v) : ∃ a t xs, v = .ref a ∧ H a = some (.tup [.int many, .ref t]) ∧ H t = some (.tup xs) ∧ Reps S H ts xs := by
  obtain ⟨a, xs, e, ha, r⟩ := h.of_tup
  obtain ⟨x, r1, e1, h1, h2⟩ := r.of_cons
  obtain ⟨y, r2, e2, h3, h4⟩ := h2.of_cons
  have e3 := h4.of_nil
  have e4 := h1.of_int
  subst e1 e2 e3 e4
  obtain ⟨t, ys, e5, ht, h5⟩ := h3.of_tup
  subst e5
  exact ⟨a, t, ys, e, ha, ht, h5⟩
def spFeed (K : PySem.W.Frag) : Sp := fun vs H Q _ => ∃ (a : Addr) (ns : List Int), vs = [.ref a] ∧ SqL K H a (ns.map V.int) ∧ ∀ (fa sa : Addr) (H' : Hp), Feed H' fa sa 0 → Ext [] H H' → H fa = none → H sa = none → Q (.ref fa) H'
def spPrice : Sp := fun vs H Q _ => ∃ (fa sa : Addr) (n : Int) (b : Bool), vs = [.ref fa, .bl b] ∧ Feed H fa sa n ∧ n + 3 ≤ most ∧
  ∀ (p n' : Int) (H' : Hp), -99 ≤ p → p ≤ 99 → n ≤ n' → n' ≤ n + 3 → Feed H' fa sa n' → Ext [fa] H H' → Q (.int p) H'
theorem Feed.has {H : Hp} {fa sa : Addr} {n : Int} (f : Feed H fa sa n) {l : Addr} (h : H l = none) : l ≠ fa ∧ l ≠ sa := by
  obtain ⟨ns, i, c, e1, e2⟩ := f.ex
  exact ⟨(ne_of_none e1 h).symm, (ne_of_none e2 h).symm⟩
section
variable {P : Program} {w : World} {K : PySem.W.Frag} {mg : Str → Option Value} {base : Heap} {f : Addr} {fd : FuncData}
theorem d_is_rising_below (F : Fun K "is_rising_below" "is_rising_below" (top 3) f fd) (hm : mg "is_rising_below" = some (.ref f)) (B : Bt mg) (D_is_rising : DefOk P w K mg base 2 "is_rising" ["thing"] spIsRising) : DefOk P w K mg base 3 "is_rising_below" ["thing", "bound"] spBelow := by
  refine ⟨f, fd, ?_, hm, F.kp, F.binds fun _ _ _ _ _ _ us hl => match us, hl with | [_, _], _ => rfl⟩
  have sc : FnScope ["thing", "bound"] ["thing", "bound"] (defScope (top 3)) := ⟨rfl, rfl, rfl, by decide +kernel, rfl, by decide +kernel, by decide +kernel⟩
  refine F.okQ sc (fun vs H Q E h => ?_) (fun cdv A outer s H vs Q E hr h => ?_)
  · obtain ⟨S, d, v, b, rfl, _⟩ := h
    rfl
  · obtain ⟨S, d, v, b, rfl, rp, q⟩ := h
    refine ⟨_, (qss_one (qs_ret (qe_and (qe_callD D_is_rising (hr.mono (by decide)) (qa_c (qv 0) qa_nil)) (qe_one (qe_or (qe_cmpR op_eq (qe_callB (lenK K) (by rfl) B.len (by decide +kernel) (qa_c (qv 0) qa_nil)) qe_int (nomark _)) (qe_one (qe_cmpR op_lt (qe_ix (ixT K) (qv 0) (qe_un un_neg qe_int) (fun _ _ => rfl)) (qv 1) (nomark _)))))))), ?_⟩
    refine ⟨v, rfl, S, d, v, rfl, rp, _, rfl, ?_⟩
    cases d with
    | tuple ds =>
      obtain ⟨a, xs, rfl, ha, r⟩ := rp.of_tup
      cases hd : risingFrom (-1) ds with
      | false =>
        have e : belowD b (.tuple ds) = false := by show (risingFrom (-1) ds && lastBelow b ds) = false; rw [hd]; rfl
        rw [e] at q
        show if risingFrom (-1) ds = true then _ else _
        rw [hd]
        exact iteF q
      | true =>
        have e : belowD b (.tuple ds) = lastBelow b ds := by show (risingFrom (-1) ds && lastBelow b ds) = _; rw [hd]; rfl
        rw [e] at q
        show if risingFrom (-1) ds = true then _ else _
        rw [hd]
        refine iteT ⟨_, rfl, a, xs, rfl, .inr (SqT.of ha), rfl, _, rfl, ite2 (fun h0 => ?_) (fun h0 => ?_)⟩
        · have h1 : V.int (xs.length : Nat) = V.int 0 := of_decide_eq_true h0
          have h2 : ds = [] := by
            have := V.int.inj h1
            rw [r.length] at this
            exact List.length_eq_zero_iff.mp (by omega)
          subst h2
          exact q
        · have h1 : ds.length ≠ 0 := fun z => h0 (decide_eq_true (by rw [r.length, z]; rfl))
          have hl : ds.length - 1 < ds.length := by omega
          obtain ⟨i, hi⟩ := rising_ints ds _ hd ds[ds.length - 1] (List.getElem_mem hl)
          have hi' : ds[ds.length - 1]? = some (.int i) := by rw [List.getElem?_eq_getElem hl, hi]
          obtain ⟨x, hx, rx⟩ := r.at hi'
          have e2 := rx.of_int
          subst e2
          rw [lastBelow_at b ds i hi'] at q
          exact ⟨_, rfl, 1, rfl, a, xs, -1, _, rfl, rfl, SqT.of ha, atI_neg1 (by rw [r.length]; exact hx), _, rfl, i, b, rfl, rfl, q⟩
    | _ => exact iteF q
theorem d_is_set (F : Fun K "is_set" "is_set" (top 5) f fd) (hm : mg "is_set" = some (.ref f)) (B : Bt mg) (D_is_rising_below : DefOk P w K mg base 3 "is_rising_below" ["thing", "bound"] spBelow) : DefOk P w K mg base 4 "is_set" ["web", "thing"] spSet := by
  refine ⟨f, fd, ?_, hm, F.kp, F.binds fun _ _ _ _ _ _ us hl => match us, hl with | [_, _], _ => rfl⟩
  have sc : FnScope ["web", "thing"] ["web", "thing"] (defScope (top 5)) := ⟨rfl, rfl, rfl, by decide +kernel, rfl, by decide +kernel, by decide +kernel⟩
  refine F.okQ sc (fun vs H Q E h => ?_) (fun cdv A outer s H vs Q E hr h => ?_)
  · obtain ⟨S, d, v, many, ts, w, rfl, _⟩ := h
    rfl
  · obtain ⟨S, d, v, many, ts, w, rfl, rw', rp, q⟩ := h
    obtain ⟨a, t, xs, rfl, ha, ht, r⟩ := web_of rw'
    refine ⟨_, (qss_one (qs_ret (qe_callD D_is_rising_below (hr.mono (by decide)) (qa_c (qv 1) (qa_c (qe_callB (lenK K) (by rfl) B.len (by decide +kernel) (qa_c (qe_ix (ixT K) (qv 0) qe_int (fun _ _ => rfl)) qa_nil)) qa_nil))))), ?_⟩
    exact ⟨v, rfl, _, rfl, a, _, 1, _, rfl, rfl, SqT.of ha, rfl, t, xs, rfl, .inr (SqT.of ht), S, d, v, _, rfl, rp, by rw [r.length]; exact q⟩
theorem d_whole (F : Fun K "_law_whole" "_law_whole" (top 18) f fd) (hm : mg "_law_whole" = some (.ref f)) (B : Bt mg) : DefOk P w K mg base 1 "_law_whole" ["_law_thing", "_law_least", "_law_most"] spWhole := by
  refine ⟨f, fd, ?_, hm, F.kp, F.binds fun _ _ _ _ _ _ us hl => match us, hl with | [_, _, _], _ => rfl⟩
  have sc : FnScope ["_law_thing", "_law_least", "_law_most"] ["_law_thing", "_law_least", "_law_most"] (defScope (top 18)) := ⟨rfl, rfl, rfl, by decide +kernel, rfl, by decide +kernel, by decide +kernel⟩
  refine F.okQ sc (fun vs H Q E h => ?_) (fun cdv A outer s H vs Q E hr h => ?_)
  · obtain ⟨S, d, v, lo, hi, rfl, _⟩ := h
    rfl
  · obtain ⟨S, d, v, lo, hi, rfl, rp, q⟩ := h
    refine ⟨_, (qss_one (qs_ret (qe_and (qe_callB (isiK K) (by rfl) B.isinstance (by decide +kernel) (qa_c (qv 0) (qa_c (qe_ty "int" (by rfl) B.int (by decide +kernel)) qa_nil))) (qe_and (qe_not (qe_callB (isiK K) (by rfl) B.isinstance (by decide +kernel) (qa_c (qv 0) (qa_c (qe_ty "bool" (by rfl) B.bool (by decide +kernel)) qa_nil)))) (qe_one (qe_chain op_le op_le (qv 1) (qv 0) (qv 2))))))), ?_⟩
    refine ⟨v, rfl, v, _, _, _, rfl, rp.ty, kit1 d, _, rfl, ?_⟩
    cases d with
    | int i =>
      have ev := rp.of_int
      refine iteT ⟨v, rfl, v, _, _, _, rfl, rp.ty, kit2 _, _, rfl, _, rfl, iteT ⟨_, rfl, _, rfl, lo, i, rfl, ev, _, rfl, ite2 (fun h => ?_) (fun h => ?_)⟩⟩
      · refine ⟨_, rfl, i, hi, ev, rfl, ?_⟩
        have e : wholeD lo hi (.int i) = decide (i ≤ hi) := by show (decide (lo ≤ i) && decide (i ≤ hi)) = _; rw [h]; rfl
        rw [e] at q
        exact q
      · have e : wholeD lo hi (.int i) = false := by show (decide (lo ≤ i) && decide (i ≤ hi)) = _; rw [Bool.not_eq_true _ |>.mp h]; rfl
        rw [e] at q
        exact q
    | bool b => exact iteT ⟨v, rfl, v, _, _, _, rfl, rp.ty, kit2 _, _, rfl, _, rfl, iteF q⟩
    | _ => exact iteF q
theorem d_feed (F : Fun K "_law_feed" "_law_feed" (top 14) f fd) (hm : mg "_law_feed" = some (.ref f)) : DefOk P w K mg base 1 "_law_feed" ["_law_script"] (spFeed K) := by
  refine ⟨f, fd, ?_, hm, F.kp, F.binds fun _ _ _ _ _ _ us hl => match us, hl with | [_], _ => rfl⟩
  have sc : FnScope ["_law_script"] ["_law_script"] (defScope (top 14)) := ⟨rfl, rfl, rfl, by decide +kernel, rfl, by decide +kernel, by decide +kernel⟩
  refine F.okQ sc (fun vs H Q E h => ?_) (fun cdv A outer s H vs Q E hr h => ?_)
  · obtain ⟨a, ns, rfl, _⟩ := h
    rfl
  · obtain ⟨a, ns, rfl, hs, q⟩ := h
    refine ⟨_, (qss_one (qs_ret (qe_lst (qa_c (qe_slice (slL K) (qv 0) qo_none (qo_some qe_int)) (qa_c qe_int (qa_c qe_int (qa_c qe_int qa_nil))))))), ?_⟩
    refine ⟨_, rfl, 63, rfl, a, _, rfl, hs, fun p hp => ⟨by show 4 ≤ sizeLine; decide, fun l hl => ?_⟩⟩
    have hpl : p ≠ l := fun z => by rw [← z, upd_same] at hl; cases hl
    have hl0 : H l = none := by rw [upd_ne hpl.symm] at hl; exact hl
    have x : Ext [] H (upd (upd H p (.lst (cutV (ns.map V.int) none (some 63)))) l (.lst [.ref p, .int 0, .int 0, .int 0])) := (Ext.new hp).trans (.new hl)
    refine q l p _ ⟨⟨(ns.drop (HT.sIx (ns.map V.int).length 0 none)).take (HT.sIx (ns.map V.int).length (ns.map V.int).length (some 63) - HT.sIx (ns.map V.int).length 0 none), 0, 0, upd_same, ?_⟩, hpl, by decide⟩ x hl0 hp
    rw [upd_ne hpl, upd_same]
    unfold cutV
    rw [List.map_take, List.map_drop]
theorem d_price (F : Fun K "_law_price" "_law_price" (top 16) f fd) (hm : mg "_law_price" = some (.ref f)) (D_law_draw : DefOk P w K mg base 1 "_law_draw" ["_law_feed_here", "_law_many"] spDraw) : DefOk P w K mg base 2 "_law_price" ["_law_feed_here", "_law_signed"] spPrice := by
  refine ⟨f, fd, ?_, hm, F.kp, F.binds fun _ _ _ _ _ _ us hl => match us, hl with | [_, _], _ => rfl⟩
  have sc : FnScope ["_law_feed_here", "_law_signed", "_law_price_here"] ["_law_feed_here", "_law_signed"] (defScope (top 16)) := ⟨rfl, rfl, rfl, by decide +kernel, rfl, by decide +kernel, by decide +kernel⟩
  refine F.okQ sc (fun vs H Q E h => ?_) (fun cdv A outer s H vs Q E hr h => ?_)
  · obtain ⟨fa, sa, n, b, rfl, _⟩ := h
    rfl
  · obtain ⟨fa, sa, n, b, rfl, fe, nm, q⟩ := h
    refine ⟨_, (qss_cons (qs_set (i := 2) sc.nd rfl (Or.inl rfl) (qe_ix (ixL K) (qe_lst (qa_c qe_int (qa_c qe_int (qa_c qe_int (qa_c qe_int (qa_c qe_int (qa_c qe_int (qa_c qe_int (qa_c (qe_callD D_law_draw (hr.mono (by decide)) (qa_c (qv 0) (qa_c qe_int qa_nil))) qa_nil))))))))) (qe_callD D_law_draw (hr.mono (by decide)) (qa_c (qv 0) (qa_c qe_int qa_nil))) (fun _ _ => rfl)))
      (qss_one (qs_ret (qe_ifExp (QW.pt (qw_and (qt_val (qv 1)) (qw_and1 (qt_cmpR op_eq (qe_callD D_law_draw (hr.mono (by decide)) (qa_c (qv 0) (qa_c qe_int qa_nil))) qe_int (nomark _))))) (qe_un un_neg (qv 2)) (qv 2))))), ?_⟩
    refine ⟨_, rfl, fa, sa, n, 100, rfl, fe, by decide, by decide, by omega, fun r H1 h0 h1 f1 x1 => ⟨by show 8 ≤ sizeLine; decide, fun l hl => ?_⟩⟩
    have f1' := f1.ext (Ext.new (S := []) (o := .lst [.int 1, .int 2, .int 3, .int 0, .int 5, .int 1, .int 99, .int r]) hl) (by simp) (by simp)
    refine ⟨_, rfl, fa, sa, n + 1, 8, rfl, f1', by decide, by decide, by omega, fun r2 H2 g0 g1 f2 x2 => ?_⟩
    have hlf := (f1.has hl).1
    have hl2 : H2 l = some (.lst [.int 1, .int 2, .int 3, .int 0, .int 5, .int 1, .int 99, .int r]) := x2.keep l _ (by simpa using hlf) upd_same
    obtain ⟨v, hv, hv2⟩ := atI_ex (xs := [V.int 1, .int 2, .int 3, .int 0, .int 5, .int 1, .int 99, .int r]) g0 (by simpa using g1)
    obtain ⟨p, rfl, p0, p1⟩ : ∃ p, v = V.int p ∧ 0 ≤ p ∧ p ≤ 99 := by
      have hm := List.mem_of_getElem? hv2
      simp only [List.mem_cons, List.not_mem_nil, or_false] at hm
      rcases hm with e | e | e | e | e | e | e | e <;> exact ⟨_, e, by omega, by omega⟩
    have xx : Ext [fa] H H2 := (x1.trans (.new hl)).trans x2
    refine ⟨l, _, r2, _, rfl, rfl, SqL.of hl2, hv, ?_⟩
    refine ⟨_, rfl, b, rfl, ?_⟩
    cases b with
    | false => exact iteF (iteF ⟨_, rfl, q p _ H2 (by omega) (by omega) (by omega) (by omega) f2 xx⟩)
    | true =>
      refine iteT ⟨_, rfl, fa, sa, n + 1 + 1, 3, rfl, f2, by decide, by decide, by omega, fun r3 H3 k0 k1 f3 x3 => ⟨rfl, _, rfl, ite2 (fun hz => ?_) (fun hz => ?_)⟩⟩
      · exact ⟨_, rfl, p, rfl, q (-p) _ H3 (by omega) (by omega) (by omega) (by omega) f3 (xx.trans x3)⟩
      · exact ⟨_, rfl, q p _ H3 (by omega) (by omega) (by omega) (by omega) f3 (xx.trans x3)⟩
end
end Odj

set_option Elab.async false
set_option linter.all false
set_option maxRecDepth 100000
set_option maxHeartbeats 4000000
namespace L2
open PySem
/-! ### comprehensions by a word -/
section
variable {mp : List (Option Nat)} {g : TG} {tc : TT} {te : TE} {σ : St} {H : Hp} {R : List V → Hp → Prop}
theorem comp_range {lo : Int} {n : Nat} (Pv : Nat → List V → St → Hp → Prop) (h0 : Pv 0 [] (seed mp σ) H)
    (hs : ∀ i ys σ' H', i < n → Pv i ys σ' H' → ys.length < sizeLine ∧ g (.int (lo + i)) σ' H' fun σ2 H2 => tc σ2 H2 fun b H3 => if b = true then te σ2 H3 fun y H4 => Pv (i + 1) (ys ++ [y]) σ2 H4 else Pv (i + 1) ys σ2 H3)
    (hd : ∀ ys σ' H', Pv n ys σ' H' → ys.length ≤ sizeLine ∧ R ys H') :
    ∃ W : Nat → Nat → List V → St → Hp → Prop, (∃ m, W 0 m [] (seed mp σ) H) ∧ ∀ i m ys σ' H', W i m ys σ' H' →
      ((Itr lo n).stop i H' ∧ ys.length ≤ sizeLine ∧ R ys H') ∨
      ((Itr lo n).go i H' ∧ ys.length < sizeLine ∧ ∀ x H'', (Itr lo n).yld i H' x H'' → g x σ' H'' fun σ2 H2 => tc σ2 H2 fun b H3 =>
        if b = true then te σ2 H3 fun y H4 => ∃ m', m' < m ∧ W (i + 1) m' (ys ++ [y]) σ2 H4 else ∃ m', m' < m ∧ W (i + 1) m' ys σ2 H3) := by
  refine ⟨fun i m ys σ H => m = n - i ∧ i ≤ n ∧ Pv i ys σ H, ⟨n, by simp, Nat.zero_le _, h0⟩, ?_⟩
  rintro i m ys σ' H' ⟨rfl, hi, p⟩
  by_cases hlt : i < n
  · obtain ⟨hl, q⟩ := hs i ys σ' H' hlt p
    refine .inr ⟨hlt, hl, fun x H'' y => ?_⟩
    obtain ⟨e, y⟩ := y
    subst e y
    have e : ∀ ys σ H, (∃ m', m' < n - i ∧ m' = n - (i + 1) ∧ i + 1 ≤ n ∧ Pv (i + 1) ys σ H) = Pv (i + 1) ys σ H := fun ys σ H => propext ⟨fun ⟨_, _, _, _, z⟩ => z, fun z => ⟨_, by omega, rfl, hlt, z⟩⟩
    simp only [e]
    exact q
  · have e : i = n := by omega
    subst e
    obtain ⟨hl, q⟩ := hd ys σ' H' p
    exact .inl ⟨Nat.le_refl _, hl, q⟩
theorem comp_tup {K : PySem.W.Frag} {a : Addr} {xs : List V} (Pv : Nat → List V → St → Hp → Prop) (h0 : Pv 0 [] (seed mp σ) H) (hl : ∀ i ys σ' H', Pv i ys σ' H' → SqT K H' a xs)
    (hs : ∀ i x ys σ' H', xs[i]? = some x → Pv i ys σ' H' → ys.length < sizeLine ∧ g x σ' H' fun σ2 H2 => tc σ2 H2 fun b H3 => if b = true then te σ2 H3 fun y H4 => Pv (i + 1) (ys ++ [y]) σ2 H4 else Pv (i + 1) ys σ2 H3)
    (hd : ∀ ys σ' H', Pv xs.length ys σ' H' → ys.length ≤ sizeLine ∧ R ys H') :
    ∃ W : Nat → Nat → List V → St → Hp → Prop, (∃ m, W 0 m [] (seed mp σ) H) ∧ ∀ i m ys σ' H', W i m ys σ' H' →
      ((Itt K a).stop i H' ∧ ys.length ≤ sizeLine ∧ R ys H') ∨
      ((Itt K a).go i H' ∧ ys.length < sizeLine ∧ ∀ x H'', (Itt K a).yld i H' x H'' → g x σ' H'' fun σ2 H2 => tc σ2 H2 fun b H3 =>
        if b = true then te σ2 H3 fun y H4 => ∃ m', m' < m ∧ W (i + 1) m' (ys ++ [y]) σ2 H4 else ∃ m', m' < m ∧ W (i + 1) m' ys σ2 H3) := by
  refine ⟨fun i m ys σ H => m = xs.length - i ∧ i ≤ xs.length ∧ Pv i ys σ H, ⟨xs.length, by simp, Nat.zero_le _, h0⟩, ?_⟩
  rintro i m ys σ' H' ⟨rfl, hi, p⟩
  have q0 := hl i ys σ' H' p
  by_cases hlt : i < xs.length
  · have e : ∀ ys σ H, (∃ m', m' < xs.length - i ∧ m' = xs.length - (i + 1) ∧ i + 1 ≤ xs.length ∧ Pv (i + 1) ys σ H) = Pv (i + 1) ys σ H := fun ys σ H => propext ⟨fun ⟨_, _, _, _, z⟩ => z, fun z => ⟨_, by omega, rfl, hlt, z⟩⟩
    have hx : xs[i]? = some xs[i] := by simp [hlt]
    refine .inr ⟨⟨xs, xs[i], q0, hx⟩, (hs i _ ys σ' H' hx p).1, fun x H'' y => ?_⟩
    obtain ⟨e1, y⟩ := y
    subst e1
    simp only [e]
    exact (hs i x ys σ' _ (y xs q0) p).2
  · have e : i = xs.length := by omega
    subst e
    obtain ⟨hl, q⟩ := hd ys σ' H' p
    exact .inl ⟨⟨xs, q0, Nat.le_refl _⟩, hl, q⟩
end
end L2
namespace Odj
open PySem L2
structure Bt2 (mg : Str → Option Value) : Prop where
  range : mg "range" = none
section
variable {P : Program} {w : World} {K : PySem.W.Frag} {mg : Str → Option Value} {base : Heap} {f : Addr} {fd : FuncData}
end
end Odj

set_option Elab.async false
set_option linter.all false
set_option maxRecDepth 100000
set_option maxHeartbeats 4000000
namespace Odj
open PySem L2
theorem truN {i : Nat} {x : V} {σ : St} {H : Hp} {A B : St → Hp → Prop} (h : A (σ.set i (some x)) H) : gName i x σ H fun σ2 H2 => tTrue σ2 H2 fun b H3 => if b = true then A σ2 H3 else B σ2 H3 := by
  show if true = true then A (σ.set i (some x)) H else B (σ.set i (some x)) H
  exact iteT h
def lenD : PyData → Nat
  | .tuple ds => ds.length
  | _ => 0
theorem eqv_nil (fs : List Int) : PyData.eqv (.list (fs.map .int)) (.list []) = fs.isEmpty := by
  cases fs <;> simp [PyData.eqv, PyData.eqvAll]
theorem int_at {S : List Addr} {H : Hp} {ds : List PyData} {xs : List V} {lo hi : Int} (r : Reps S H ds xs) (hw : ds.all (wholeD lo hi) = true) {i : Nat} (h : i < ds.length) : xs[i]? = some (.int (intOf (ds.getD i .none))) := by
  have e : ds[i]? = some ds[i] := by simp [h]
  obtain ⟨x, hx, rx⟩ := r.at e
  have hm : wholeD lo hi ds[i] = true := List.all_eq_true.mp hw _ (List.getElem_mem h)
  rw [hx, List.getD_eq_getElem?_getD, e]
  generalize ds[i] = d at hm rx
  cases d with
  | int z => rw [rx.of_int]; rfl
  | _ => cases hm
section
variable {P : Program} {w : World} {K : PySem.W.Frag} {mg : Str → Option Value} {base : Heap} {f : Addr} {fd : FuncData}
end
end Odj

set_option Elab.async false
set_option linter.all false
set_option maxRecDepth 100000
set_option maxHeartbeats 8000000
namespace Odj
open PySem L2
abbrev Tie := Int × Int × Int
def tieD (t : Tie) : PyData := .tuple [.int t.1, .int t.2.1, .int t.2.2]
structure TieOk (many : Int) (t : Tie) : Prop where
  a0 : 0 ≤ t.1
  ab : t.1 < t.2.1
  bm : t.2.1 < many
  p0 : -99 ≤ t.2.2
  p1 : t.2.2 ≤ 99
/-- ties stand so in H, whatever lists change -/
def Ties (H : Hp) (ts : List Tie) (xs : List V) : Prop := ∀ S, Reps S H (ts.map tieD) xs
theorem Ties.ext {S : List Addr} {H H' : Hp} {ts : List Tie} {xs : List V} (h : Ties H ts xs) (x : Ext S H H') : Ties H' ts xs := fun S' => ((h (S' ++ S)).ext (x.mono fun b hb => List.mem_append_right _ hb)).less fun b hb => List.mem_append_left _ hb
theorem Ties.nil {H : Hp} : Ties H [] [] := fun _ => .nil
theorem Ties.append {H : Hp} {ts us : List Tie} {xs ys : List V} (h : Ties H ts xs) (k : Ties H us ys) : Ties H (ts ++ us) (xs ++ ys) := fun S => by rw [List.map_append]; exact (h S).append (k S)
theorem Ties.one {H : Hp} {t : Tie} {p : Addr} (h : H p = some (.tup [.int t.1, .int t.2.1, .int t.2.2])) : Ties H [t] [.ref p] := fun S => .cons (.tup h (.cons (.int _) (.cons (.int _) (.cons (.int _) .nil)))) .nil
theorem Ties.take {H : Hp} {ts : List Tie} {xs : List V} (h : Ties H ts xs) (n : Nat) : Ties H (ts.take n) (xs.take n) := fun S => by rw [List.map_take]; exact (h S).take n
theorem Ties.drop {H : Hp} {ts : List Tie} {xs : List V} (h : Ties H ts xs) (n : Nat) : Ties H (ts.drop n) (xs.drop n) := fun S => by rw [List.map_drop]; exact (h S).drop n
theorem Ties.length {H : Hp} {ts : List Tie} {xs : List V} (h : Ties H ts xs) : xs.length = ts.length := by have := (h []).length; rw [List.length_map] at this; exact this
theorem Ties.at {H : Hp} {ts : List Tie} {xs : List V} (h : Ties H ts xs) {i : Nat} {x : V} (hx : xs[i]? = some x) : ∃ t, ts[i]? = some t ∧ Ties H [t] [x] := by
  have hi : i < xs.length := (List.getElem?_eq_some_iff.mp hx).1
  have hi' : i < ts.length := by rw [← h.length]; exact hi
  refine ⟨ts[i], by simp [hi'], fun S => ?_⟩
  obtain ⟨d, hd, r⟩ := (h S).get hx
  rw [List.getElem?_map] at hd
  have : ts[i]? = some ts[i] := by simp [hi']
  rw [this] at hd
  have hd' : tieD ts[i] = d := Option.some.inj hd
  subst hd'
  exact .cons r .nil
/-- the list of ties under work: at l, new since H0 -/
structure Found (H0 H : Hp) (fa sa l : Addr) (many : Int) (ts : List Tie) : Prop where
  ex : ∃ xs, H l = some (.lst xs) ∧ Ties H ts xs
  ok : ∀ t ∈ ts, TieOk many t
  nf : l ≠ fa
  ns : l ≠ sa
  new : H0 l = none
  ext : Ext [fa] H0 H
section
variable {H0 H H' : Hp} {fa sa l : Addr} {many n : Int} {ts : List Tie}
theorem Found.step (f : Found H0 H fa sa l many ts) (x : Ext [fa] H H') : Found H0 H' fa sa l many ts := by
  obtain ⟨xs, h1, h2⟩ := f.ex
  exact ⟨⟨xs, x.keep _ _ (by simpa using f.nf) h1, h2.ext x⟩, f.ok, f.nf, f.ns, f.new, f.ext.trans x⟩
theorem Found.set (f : Found H0 H fa sa l many ts) {ys : List V} {us : List Tie} (h : Ties H us ys) (hk : ∀ t ∈ us, TieOk many t) : Found H0 (upd H l (.lst ys)) fa sa l many us := by
  obtain ⟨xs, h1, h2⟩ := f.ex
  exact ⟨⟨ys, upd_same, h.ext (.set (S := [l]) (by simp) h1)⟩, hk, f.nf, f.ns, f.new, f.ext.set' f.new h1⟩
theorem Found.feed (f : Found H0 H fa sa l many ts) (fe : Feed H fa sa n) {o : HO} : Feed (upd H l o) fa sa n := by
  obtain ⟨xs, h1, _⟩ := f.ex
  exact fe.ext (.set (S := [l]) (by simp) h1) (by simpa using f.nf.symm) (by simpa using f.ns.symm)
end
def spWeb : Sp := fun vs H Q _ => ∃ (fa sa : Addr) (n mp ties : Int) (b : Bool), vs = [.ref fa, .int mp, .int ties, .bl b] ∧ Feed H fa sa n ∧ 0 < mp ∧ mp ≤ 60 ∧ 0 ≤ ties ∧ ties ≤ 200 ∧ n + 3000 ≤ most ∧
  ∀ (many : Int) (ts : List Tie) (v : V) (n' : Int) (H' : Hp), Rep [fa] H' (webD many (ts.map tieD)) v → 1 ≤ many → many ≤ mp → ts.length ≤ ties.toNat → (∀ t ∈ ts, TieOk many t) → n ≤ n' → n' ≤ n + 3000 → Feed H' fa sa n' → Ext [fa] H H' → Q v H'
section
variable {P : Program} {w : World} {K : PySem.W.Frag} {mg : Str → Option Value} {base : Heap} {f : Addr} {fd : FuncData}
theorem d_web (F : Fun K "_law_web" "_law_web" (top 17) f fd) (hm : mg "_law_web" = some (.ref f)) (B : Bt mg) (B2 : Bt2 mg) (D_law_draw : DefOk P w K mg base 1 "_law_draw" ["_law_feed_here", "_law_many"] spDraw)
    (D_law_price : DefOk P w K mg base 2 "_law_price" ["_law_feed_here", "_law_signed"] spPrice) : DefOk P w K mg base 3 "_law_web" ["_law_feed_here", "_law_most", "_law_ties", "_law_signed"] spWeb := by
  refine ⟨f, fd, ?_, hm, F.kp, F.binds fun _ _ _ _ _ _ us hl => match us, hl with | [_, _, _, _], _ => rfl⟩
  have sc : FnScope ["_law_feed_here", "_law_most", "_law_ties", "_law_signed", "_law_many", "_law_way", "_law_found", "_law_k", "_law_a", "_law_tie"] ["_law_feed_here", "_law_most", "_law_ties", "_law_signed"] (defScope (top 17)) := ⟨rfl, rfl, rfl, by decide +kernel, rfl, by decide +kernel, by decide +kernel⟩
  refine F.okQ sc (fun vs H Q E h => ?_) (fun cdv A outer s H vs Q E hr h => ?_)
  · obtain ⟨fa, sa, n, mp, ties, b, rfl, _⟩ := h
    rfl
  · obtain ⟨fa, sa, n, mp, ties, b, rfl, fe, m0, m1, t0, t1, nm, q⟩ := h
    have hsz : sizeLine = 16777216 := by decide
    have hmo : most = 1099511627776 := rfl
    refine ⟨_, (qss_cons (qs_set (i := 4) sc.nd rfl (Or.inl rfl) (qe_op op_add qe_int (qe_callD D_law_draw (hr.mono (by decide)) (qa_c (qv 0) (qa_c (qv 1) qa_nil)))))
      (qss_cons (qs_set (i := 5) sc.nd rfl (Or.inl rfl) (qe_callD D_law_draw (hr.mono (by decide)) (qa_c (qv 0) (qa_c qe_int qa_nil))))
      (qss_cons (qs_set (i := 6) sc.nd rfl (Or.inl rfl) (qe_lst qa_nil))
      (qss_cut (qs_if (qt_cmpR op_lt (qv 5) qe_int (nomark _)) (qss_one (qs_comp (i := 6) sc.nd rfl rfl (N := ["_law_k", "_law_feed_here", "_law_signed"]) (mp := [none, some 0, some 3]) rfl (qi_range1 (by rfl) B2.range (qa_c (qe_op op_sub (qv 4) qe_int) qa_nil)) rfl (by show compOk ["_law_feed_here", "_law_most", "_law_ties", "_law_signed", "_law_many", "_law_way", "_law_found", "_law_k", "_law_a", "_law_tie"] (defScope (top 17)) _ _ _ = true; decide +kernel) fun _ _ _ _ _ => ⟨(qg_name (i := 0) (by show List.Nodup [("_law_k" : Str), ("_law_feed_here" : Str), ("_law_signed" : Str)]; decide +kernel) rfl (Or.inl rfl)), qk_nil, (qe_tup (qa_c (qv 0) (qa_c (qe_op op_add (qv 0) qe_int) (qa_c (qe_callD D_law_price (hr.mono (by decide)) (qa_c (qv 1) (qa_c (qv 2) qa_nil))) qa_nil))))⟩)) qss_nil)
      (qss_cut (qs_if (QW.pt (qw_and (qt_cmpR op_eq (qv 5) qe_int (nomark _)) (qw_and1 (qt_cmpR op_gt (qv 4) qe_int (nomark _))))) (qss_one (qs_expr (qe_bmK K PySem.F.plainAttrs_list PySem.F.slot_list_append PySem.F.type_list_append mt_append (qv 6) (qa_c (qe_tup (qa_c qe_int (qa_c (qe_op op_sub (qv 4) qe_int) (qa_c (qe_callD D_law_price (hr.mono (by decide)) (qa_c (qv 0) (qa_c (qv 3) qa_nil))) qa_nil)))) qa_nil)))) qss_nil)
      (qss_cons (qs_for PassesOwn.never rfl (qi_range1 (by rfl) B2.range (qa_c (qe_op op_mul (qe_callD D_law_draw (hr.mono (by decide)) (qa_c (qv 0) (qa_c (qe_op op_add (qv 2) qe_int) qa_nil))) (qe_callTy call_int1 (by rfl) B.int (by decide +kernel) (qa_c (qe_cmpR op_gt (qv 4) qe_int (nomark _)) qa_nil))) qa_nil)) (qg_name (i := 7) sc.nd rfl (Or.inl rfl)) (qss_cons (qs_set (i := 8) sc.nd rfl (Or.inl rfl) (qe_callD D_law_draw (hr.mono (by decide)) (qa_c (qv 0) (qa_c (qe_op op_sub (qv 4) qe_int) qa_nil))))
      (qss_cons (qs_set (i := 9) sc.nd rfl (Or.inl rfl) (qe_tup (qa_c (qv 8) (qa_c (qe_op op_add (qe_op op_add (qv 8) qe_int) (qe_callD D_law_draw (hr.mono (by decide)) (qa_c (qv 0) (qa_c (qe_op op_sub (qe_op op_sub (qv 4) qe_int) (qv 8)) qa_nil)))) (qa_c (qe_callD D_law_price (hr.mono (by decide)) (qa_c (qv 0) (qa_c (qv 3) qa_nil))) qa_nil)))))
      (qss_cut (qs_if (QW.pt (qw_and (qt_cmpR (op_neD hr) (qv 6) (qe_lst qa_nil) (nomark _)) (qw_and1 (qt_cmpR op_eq (qe_callD D_law_draw (hr.mono (by decide)) (qa_c (qv 0) (qa_c qe_int qa_nil))) qe_int (nomark _))))) (qss_one (qs_set (i := 9) sc.nd rfl (Or.inl rfl) (qe_ix (ixL K) (qv 6) (qe_callD D_law_draw (hr.mono (by decide)) (qa_c (qv 0) (qa_c (qe_callB (lenK K) (by rfl) B.len (by decide +kernel) (qa_c (qv 6) qa_nil)) qa_nil))) (fun _ _ => rfl)))) qss_nil)
      (qss_one (qs_expr (qe_bmK K PySem.F.plainAttrs_list PySem.F.slot_list_insert PySem.F.type_list_insert mt_insert (qv 6) (qa_c (qe_callD D_law_draw (hr.mono (by decide)) (qa_c (qv 0) (qa_c (qe_op op_add (qe_callB (lenK K) (by rfl) B.len (by decide +kernel) (qa_c (qv 6) qa_nil)) qe_int) qa_nil))) (qa_c (qv 9) qa_nil)))))))))
      (qss_one (qs_ret (qe_tup (qa_c (qv 4) (qa_c (qe_callTy (tupleK K) (by rfl) B.tuple (by decide +kernel) (qa_c (qe_slice (slL K) (qv 6) qo_none (qo_some (qv 2))) qa_nil)) qa_nil))))))))))), ?_⟩
    have n0 := fe.lo
    refine ⟨_, rfl, _, rfl, fa, sa, n, mp, rfl, fe, by omega, by omega, by omega, fun r H1 r0 r1 f1 x1 => ⟨_, _, rfl, rfl, ?_⟩⟩
    refine ⟨_, rfl, fa, sa, n + 1, 4, rfl, f1, by decide, by decide, by omega, fun way H2 w0 w1 f2 x2 => ?_⟩
    refine ⟨Nat.zero_le _, fun l hl => ?_⟩
    have hmany : 1 ≤ 1 + r ∧ 1 + r ≤ mp := by omega
    dsimp only
    generalize (1 + r) = many at hmany ⊢
    have hlf := f2.has hl
    have x12 := x1.trans x2
    have g0 : Found H (upd H2 l (.lst [])) fa sa l many [] := ⟨⟨[], upd_same, .nil⟩, by simp, hlf.1, hlf.2, x12.fresh (by simpa using hlf.1) hl, x12.trans (.new hl)⟩
    have f3 : Feed (upd H2 l (.lst [])) fa sa (n + 1 + 1) := f2.ext (Ext.new (S := []) hl) (by simp) (by simp)
    refine ⟨fun σ' H' => ∃ l ts n', σ' = [some (.ref fa), some (.int mp), some (.int ties), some (.bl b), some (.int many), some (.int way), some (.ref l), none, none, none] ∧ Found H H' fa sa l many ts ∧ ts.length ≤ 60 ∧ Feed H' fa sa n' ∧ n ≤ n' ∧ n' ≤ n + 182, ?_, ?_⟩
    · refine ⟨_, rfl, _, _, rfl, rfl, _, rfl, ite2 (fun hw => ?_) (fun hw => ⟨l, [], _, rfl, g0, by simp, f3, by omega, by omega⟩)⟩
      refine ⟨_, rfl, _, _, rfl, rfl, many - 1, rfl, by omega, by omega, comp_range (fun i ys σ' H' => (∃ y, σ' = [y, some (.ref fa), some (.bl b)]) ∧ ∃ ts n', Ties H' ts ys ∧ (∀ t ∈ ts, TieOk many t) ∧ ts.length = i ∧ i ≤ (many - 1).toNat ∧ Feed H' fa sa n' ∧ n ≤ n' ∧ n' ≤ n + 2 + 3 * i ∧ Ext [fa] H H')
        ⟨⟨none, rfl⟩, [], _, .nil, by simp, rfl, Nat.zero_le _, f3, by omega, by omega, g0.ext⟩ ?_ ?_⟩
      · rintro i ys σ' H' hi ⟨⟨y, rfl⟩, ts, n', hts, hok, hlen, hi2, f4, n1, n2, x4⟩
        refine ⟨by rw [hts.length]; omega, truN ⟨_, rfl, _, rfl, _, _, rfl, rfl, _, rfl, _, rfl, fa, sa, n', b, rfl, f4, by omega, fun p n'' H'' p0 p1 k0 k1 f5 x5 => ⟨by show 3 ≤ sizeLine; decide, fun t ht => ?_⟩⟩⟩
        have x6 : Ext [] H'' (upd H'' t (.tup [.int (0 + (i : Int)), .int (0 + (i : Int) + 1), .int p])) := .new ht
        refine ⟨⟨_, rfl⟩, ts ++ [(0 + (i : Int), 0 + (i : Int) + 1, p)], n'', ((hts.ext x5).ext x6).append (.one upd_same), ?_, by simp [hlen], by omega, f5.ext x6 (by simp) (by simp), by omega, by omega, (x4.trans x5).trans (x6.mono (by simp))⟩
        intro t' ht'
        rcases List.mem_append.mp ht' with h | h
        · exact hok t' h
        · have : t' = (0 + (i : Int), 0 + (i : Int) + 1, p) := by simpa using h
          subst this
          exact ⟨by show 0 ≤ 0 + (i : Int); omega, by show 0 + (i : Int) < 0 + (i : Int) + 1; omega, by show 0 + (i : Int) + 1 < many; omega, p0, p1⟩
      · rintro ys σ' H' ⟨_, ts, n', hts, hok, hlen, hi2, f4, n1, n2, x4⟩
        refine ⟨by rw [hts.length]; omega, fun D hD => ?_⟩
        have hDf := f4.has hD
        exact ⟨D, ts, n', rfl, ⟨⟨ys, upd_same, hts.ext (Ext.new (S := []) hD)⟩, hok, hDf.1, hDf.2, x4.fresh (by simpa using hDf.1) hD, x4.trans (.new hD)⟩, by omega, f4.ext (Ext.new (S := []) hD) (by simp) (by simp), n1, by omega⟩
    rintro σ1 H3 ⟨l, ts, n1, rfl, g1, hlen1, f4, a1, a2⟩
    refine ⟨fun σ' H' => ∃ l ts n', σ' = [some (.ref fa), some (.int mp), some (.int ties), some (.bl b), some (.int many), some (.int way), some (.ref l), none, none, none] ∧ Found H H' fa sa l many ts ∧ ts.length ≤ 61 ∧ Feed H' fa sa n' ∧ n ≤ n' ∧ n' ≤ n + 185, ?_, ?_⟩
    · refine ⟨_, rfl, rfl, _, rfl, ite2 (fun hw => ?_) (fun hw => iteF ⟨l, ts, n1, rfl, g1, by omega, f4, a1, by omega⟩)⟩
      refine ⟨_, rfl, _, _, rfl, rfl, _, rfl, ite2 (fun hgt => ?_) (fun hgt => ⟨l, ts, n1, rfl, g1, by omega, f4, a1, by omega⟩)⟩
      have hgt' : 1 < many := of_decide_eq_true hgt
      obtain ⟨xs, e1, e2⟩ := g1.ex
      refine ⟨_, rfl, .inl ⟨rfl, _, SqL.of e1⟩, _, rfl, _, _, rfl, rfl, _, rfl, _, rfl, fa, sa, n1, b, rfl, f4, by omega, fun p n'' H'' p0 p1 k0 k1 f5 x5 => ⟨by show 3 ≤ sizeLine; decide, fun t ht => ?_⟩⟩
      have g2 := g1.step x5
      have x6 : Ext [] H'' (upd H'' t (.tup [.int 0, .int (many - 1), .int p])) := .new ht
      have g3 := g2.step (x6.mono (by simp))
      obtain ⟨ys, e3, e4⟩ := g3.ex
      refine ⟨l, ys, .ref t, rfl, rfl, e3, by rw [e4.length]; omega, l, ts ++ [(0, many - 1, p)], n'', rfl, g3.set (e4.append (.one upd_same)) ?_, by simp; omega, g3.feed (f5.ext x6 (by simp) (by simp)), by omega, by omega⟩
      intro t' ht'
      rcases List.mem_append.mp ht' with h | h
      · exact g1.ok t' h
      · have : t' = (0, many - 1, p) := by simpa using h
        subst this
        exact ⟨by show (0 : Int) ≤ 0; decide, by show 0 < many - 1; omega, by show many - 1 < many; omega, p0, p1⟩
    rintro σ2 H4 ⟨l, ts, n2, rfl, g2, hlen2, f5, b1, b2⟩
    refine ⟨_, rfl, _, rfl, _, _, rfl, rfl, fa, sa, n2, ties + 1, rfl, f5, by omega, by omega, by omega, fun r5 H5 c0 c1 f6 x6 => ⟨_, rfl, _, _, rfl, rfl, .inr ⟨_, rfl, _, _, rfl, rfl, .inl ⟨by omega, by omega⟩, _, rfl, ?_⟩⟩⟩
    have hj : ∃ j : Int, r5 * (if decide (1 < many) = true then 1 else 0) = j ∧ 0 ≤ j ∧ j ≤ 200 ∧ (0 < j → 1 < many) := by
      by_cases h : 1 < many
      · exact ⟨r5, by simp [h], by omega, by omega, fun _ => h⟩
      · exact ⟨0, by simp [h], by omega, by omega, fun z => absurd z (by decide)⟩
    obtain ⟨j, ej, j0, j1, j2⟩ := hj
    rw [ej]
    refine ⟨by omega, by omega, for_range (fun i σ' H' => ∃ l ts n' x7 x8 x9, σ' = [some (.ref fa), some (.int mp), some (.int ties), some (.bl b), some (.int many), some (.int way), some (.ref l), x7, x8, x9] ∧ Found H H' fa sa l many ts ∧ i ≤ 200 ∧ ts.length ≤ 61 + i ∧ Feed H' fa sa n' ∧ n ≤ n' ∧ n' ≤ n + 186 + 8 * i)
      ⟨l, ts, _, none, none, none, rfl, g2.step x6, by omega, by omega, f6, by omega, by omega⟩ ?_ ?_⟩
    · rintro i σ' H' hi ⟨l, ts, n', x7, x8, x9, rfl, g3, hi2, hlen3, f7, d1, d2⟩
      have h1m : 1 < many := j2 (by omega)
      refine ⟨_, rfl, _, rfl, _, _, rfl, rfl, fa, sa, n', many - 1, rfl, f7, by omega, by omega, by omega, fun a H6 u0 u1 f8 x8' => ?_⟩
      refine ⟨_, rfl, _, rfl, _, _, rfl, rfl, _, rfl, _, rfl, _, _, rfl, rfl, _, rfl, _, _, rfl, rfl, fa, sa, n' + 1, many - 1 - a, rfl, f8, by omega, by omega, by omega, fun c H7 v0 v1 f9 x9' => ⟨_, _, rfl, rfl, _, rfl, _, rfl, fa, sa, n' + 1 + 1, b, rfl, f9, by omega, fun p n'' H8 p0 p1 k0 k1 f10 x10 => ⟨by show 3 ≤ sizeLine; decide, fun t ht => ?_⟩⟩⟩
      have x11 : Ext [] H8 (upd H8 t (.tup [.int a, .int (a + 1 + c), .int p])) := .new ht
      have g4 := (((g3.step x8').step x9').step x10).step (x11.mono (S' := [fa]) (by simp))
      have f11 := f10.ext x11 (by simp) (by simp)
      have t4 : Ties (upd H8 t (.tup [.int a, .int (a + 1 + c), .int p])) [(a, a + 1 + c, p)] [.ref t] := .one upd_same
      generalize upd H8 t (.tup [.int a, .int (a + 1 + c), .int p]) = H9 at g4 f11 t4
      refine ⟨fun σ' H' => ∃ tv tt n', σ' = [some (.ref fa), some (.int mp), some (.int ties), some (.bl b), some (.int many), some (.int way), some (.ref l), some (.int (0 + (i : Int))), some (.int a), some tv] ∧ Found H H' fa sa l many ts ∧ Ties H' [tt] [tv] ∧ TieOk many tt ∧ Feed H' fa sa n' ∧ n'' ≤ n' ∧ n' ≤ n'' + 2, ?_, ?_⟩
      · obtain ⟨xs, e1, e2⟩ := g4.ex
        have ok0 : TieOk many (a, a + 1 + c, p) := ⟨u0, by show a < a + 1 + c; omega, by show a + 1 + c < many; omega, p0, p1⟩
        refine ⟨_, rfl, Nat.zero_le _, fun pp hpp => ?_⟩
        have x12 : Ext [] H9 (upd H9 pp (.lst [])) := .new hpp
        have g5 := g4.step (x12.mono (S' := [fa]) (by simp))
        have f12 := f11.ext x12 (by simp) (by simp)
        have t5 := t4.ext x12
        have e3 : (upd H9 pp (.lst [])) l = some (.lst xs) := x12.keep _ _ (by simp) e1
        refine ⟨[], .list (ts.map tieD), .list [], .lst e3 (by simp) ((e2.ext x12) []), .lst upd_same (by simp) .nil, ?_, rfl, ?_, _, rfl, ite2 (fun hne => ?_) (fun hne => iteF ⟨.ref t, _, n'', rfl, g5, t5, ok0, f12, by omega, by omega⟩)⟩
        · show PyData.canLayAll0 (ts.map tieD) = true
          clear e2 e3 g5 g4 g3 hlen3
          induction ts with
          | nil => rfl
          | cons t ts ih => simpa [PyData.canLayAll0, PyData.canLay0, tieD] using ih
        · show PyData.depthAll (ts.map tieD) + 1 ≤ 60
          have : PyData.depthAll (ts.map tieD) ≤ 1 := by
            clear e2 e3 g5 g4 g3 hlen3
            induction ts with
            | nil => simp [PyData.depthAll]
            | cons t ts ih => simp only [List.map_cons, PyData.depthAll, tieD, PyData.depth] at ih ⊢; omega
          omega
        have hne' : 0 < ts.length := by
          cases ts with
          | nil => simp [PyData.eqv, PyData.eqvAll] at hne
          | cons _ _ => simp
        refine ⟨_, rfl, fa, sa, n'', 5, rfl, f12, by decide, by decide, by omega, fun r13 H13 w0' w1' f13 x13 => ⟨rfl, _, rfl, ite2 (fun hz => ?_) (fun hz => ⟨.ref t, _, n'' + 1, rfl, g5.step x13, t5.ext x13, ok0, f13, by omega, by omega⟩)⟩⟩
        have g6 := g5.step x13
        obtain ⟨ys, e5, e6⟩ := g6.ex
        refine ⟨_, rfl, _, rfl, _, rfl, l, ys, rfl, .inl (SqL.of e5), fa, sa, n'' + 1, _, rfl, f13, by rw [e6.length]; omega, by rw [e6.length]; omega, by omega, fun r14 H14 y0 y1 f14 x14 => ?_⟩
        have g7 := g6.step x14
        have e7 : H14 l = some (.lst ys) := x14.keep _ _ (by simpa using g7.nf) e5
        obtain ⟨v, hv, hv2⟩ := atI_ex y0 y1
        obtain ⟨tt, ht1, ht2⟩ := (e6.ext x14).at hv2
        exact ⟨l, ys, _, v, rfl, rfl, SqL.of e7, hv, v, tt, n'' + 1 + 1, rfl, g7, ht2, g7.ok tt (List.mem_of_getElem? ht1), f14, by omega, by omega⟩
      · rintro σ3 H10 ⟨tv, tt, n3, rfl, g5, t5, ok5, f12, o1, o2⟩
        obtain ⟨xs, e1, e2⟩ := g5.ex
        refine ⟨_, rfl, .inl ⟨rfl, _, SqL.of e1⟩, _, rfl, _, rfl, l, xs, rfl, .inl (SqL.of e1), _, _, rfl, rfl, fa, sa, n3, _, rfl, f12, by rw [e2.length]; omega, by rw [e2.length]; omega, by omega, fun r13 H13 w0' w1' f13 x13 => ⟨_, rfl, ?_⟩⟩
        have g6 := g5.step x13
        have e3 : H13 l = some (.lst xs) := x13.keep _ _ (by simpa using g5.nf) e1
        have e4 := e2.ext x13
        rw [e2.length] at w1'
        refine ⟨l, xs, r13, tv, rfl, rfl, e3, by rw [e2.length]; omega, w0', by omega, l, ts.take r13.toNat ++ [tt] ++ ts.drop r13.toNat, n3 + 1, _, _, _, rfl, g6.set (ys := xs.take r13.toNat ++ tv :: xs.drop r13.toNat) ?_ ?_, by omega, ?_, g6.feed f13, by omega, by omega⟩
        · have := ((e4.take r13.toNat).append (t5.ext x13)).append (e4.drop r13.toNat)
          simpa using this
        · intro t' ht'
          simp only [List.mem_append, List.mem_singleton] at ht'
          rcases ht' with (h | h) | h
          · exact g5.ok t' (List.mem_of_mem_take h)
          · exact h ▸ ok5
          · exact g5.ok t' (List.mem_of_mem_drop h)
        · simp
          omega
    · rintro σ' H' ⟨l, ts, n', x7, x8, x9, rfl, g3, hi2, hlen3, f7, d1, d2⟩
      obtain ⟨xs, e1, e2⟩ := g3.ex
      refine ⟨_, rfl, _, rfl, _, rfl, ties, rfl, l, xs, rfl, SqL.of e1, fun p hp => ⟨p, _, rfl, .inl ⟨SqL.of upd_same, fun t ht => ⟨by show 2 ≤ sizeLine; decide, fun v hv => ?_⟩⟩⟩⟩
      have y1 : Ext [] H' (upd H' p (.lst (cutV xs none (some ties)))) := .new hp
      have y2 : Ext [] (upd H' p (.lst (cutV xs none (some ties)))) (upd (upd H' p (.lst (cutV xs none (some ties)))) t (.tup (cutV xs none (some ties)))) := .new ht
      have e3 : cutV xs none (some ties) = (xs.drop 0).take ties.toNat := by
        unfold cutV
        rw [show ties = ((ties.toNat : Nat) : Int) by omega, HT.sIx_nat, HT.sIx_none]
        simp only [List.drop_zero, Nat.sub_zero, Int.toNat_natCast]
        by_cases hc : ties.toNat ≤ xs.length
        · rw [Nat.min_eq_left hc]
        · rw [Nat.min_eq_right (by omega), List.take_of_length_le (Nat.le_refl _), List.take_of_length_le (by omega)]
      have e4 : Ties (upd (upd H' p (.lst (cutV xs none (some ties)))) t (.tup (cutV xs none (some ties)))) (ts.take ties.toNat) (cutV xs none (some ties)) := by
        have h4 := ((e2.ext y1).ext y2).take ties.toNat
        rw [show xs.take ties.toNat = cutV xs none (some ties) from e3.symm] at h4
        exact h4
      have htv : t ≠ v := fun z => by rw [← z, upd_same] at hv; cases hv
      have y3 : Ext [] (upd (upd H' p (.lst (cutV xs none (some ties)))) t (.tup (cutV xs none (some ties)))) (upd (upd (upd H' p (.lst (cutV xs none (some ties)))) t (.tup (cutV xs none (some ties)))) v (.tup [.int many, .ref t])) := .new hv
      refine q many (ts.take ties.toNat) _ n' _ (.tup upd_same (.cons (.int _) (.cons (.tup (by rw [upd_ne htv]; exact upd_same) (e4.ext y3 _)) .nil))) (by omega) (by omega) (by rw [List.length_take]; omega) (fun t' ht' => g3.ok t' (List.mem_of_mem_take ht')) d1 (by omega) (((f7.ext y1 (by simp) (by simp)).ext y2 (by simp) (by simp)).ext y3 (by simp) (by simp)) (((g3.ext.trans (y1.mono (by simp))).trans (y2.mono (by simp))).trans (y3.mono (by simp)))
end
end Odj

set_option Elab.async false
set_option linter.all false
set_option maxRecDepth 100000
set_option maxHeartbeats 8000000
namespace L2
open PySem
section
variable {mp : List (Option Nat)} {g : TG} {tc : TT} {te : TE} {σ : St} {H : Hp} {R : List V → Hp → Prop}
theorem comp_list {K : PySem.W.Frag} {a : Addr} {xs : List V} (Pv : Nat → List V → St → Hp → Prop) (h0 : Pv 0 [] (seed mp σ) H) (hl : ∀ i ys σ' H', Pv i ys σ' H' → SqL K H' a xs)
    (hs : ∀ i x ys σ' H', xs[i]? = some x → Pv i ys σ' H' → ys.length < sizeLine ∧ g x σ' H' fun σ2 H2 => tc σ2 H2 fun b H3 => if b = true then te σ2 H3 fun y H4 => Pv (i + 1) (ys ++ [y]) σ2 H4 else Pv (i + 1) ys σ2 H3)
    (hd : ∀ ys σ' H', Pv xs.length ys σ' H' → ys.length ≤ sizeLine ∧ R ys H') :
    ∃ W : Nat → Nat → List V → St → Hp → Prop, (∃ m, W 0 m [] (seed mp σ) H) ∧ ∀ i m ys σ' H', W i m ys σ' H' →
      ((Itl K a).stop i H' ∧ ys.length ≤ sizeLine ∧ R ys H') ∨
      ((Itl K a).go i H' ∧ ys.length < sizeLine ∧ ∀ x H'', (Itl K a).yld i H' x H'' → g x σ' H'' fun σ2 H2 => tc σ2 H2 fun b H3 =>
        if b = true then te σ2 H3 fun y H4 => ∃ m', m' < m ∧ W (i + 1) m' (ys ++ [y]) σ2 H4 else ∃ m', m' < m ∧ W (i + 1) m' ys σ2 H3) := by
  refine ⟨fun i m ys σ H => m = xs.length - i ∧ i ≤ xs.length ∧ Pv i ys σ H, ⟨xs.length, by simp, Nat.zero_le _, h0⟩, ?_⟩
  rintro i m ys σ' H' ⟨rfl, hi, p⟩
  have q0 := hl i ys σ' H' p
  by_cases hlt : i < xs.length
  · have e : ∀ ys σ H, (∃ m', m' < xs.length - i ∧ m' = xs.length - (i + 1) ∧ i + 1 ≤ xs.length ∧ Pv (i + 1) ys σ H) = Pv (i + 1) ys σ H := fun ys σ H => propext ⟨fun ⟨_, _, _, _, z⟩ => z, fun z => ⟨_, by omega, rfl, hlt, z⟩⟩
    have hx : xs[i]? = some xs[i] := by simp [hlt]
    refine .inr ⟨⟨xs, xs[i], q0, hx⟩, (hs i _ ys σ' H' hx p).1, fun x H'' y => ?_⟩
    obtain ⟨e1, y⟩ := y
    subst e1
    simp only [e]
    exact (hs i x ys σ' _ (y xs q0) p).2
  · have e : i = xs.length := by omega
    subst e
    obtain ⟨hl, q⟩ := hd ys σ' H' p
    exact .inl ⟨⟨xs, q0, Nat.le_refl _⟩, hl, q⟩
end
end L2
namespace Odj
open PySem L2
structure WideOk (many : Int) (t : Tie) : Prop where
  a0 : 0 ≤ t.1
  ab : t.1 < t.2.1
  bm : t.2.1 < many
  p0 : -99 ≤ t.2.2
  p1 : t.2.2 ≤ 99
def PairsIn (many : Int) (H : Hp) (ys : List V) : Prop := ∀ y ∈ ys, ∃ p a b, y = V.ref p ∧ H p = some (.tup [.int a, .int b]) ∧ 0 ≤ a ∧ a < many ∧ 0 ≤ b ∧ b < many ∧ a ≠ b
theorem PairsIn.ext {S : List Addr} {many : Int} {H H' : Hp} {ys : List V} (h : PairsIn many H ys) (x : Ext S H H') : PairsIn many H' ys := fun y hy => let ⟨p, a, b, e, hp, r⟩ := h y hy; ⟨p, a, b, e, x.tup _ _ hp, r⟩
theorem PairsIn.snoc {many : Int} {H : Hp} {ys : List V} (h : PairsIn many H ys) {p : Addr} {a b : Int} (hp : H p = some (.tup [.int a, .int b])) (a0 : 0 ≤ a) (a1 : a < many) (b0 : 0 ≤ b) (b1 : b < many) (ne : a ≠ b) : PairsIn many H (ys ++ [.ref p]) := fun y hy => by
  rcases List.mem_append.mp hy with z | z
  · exact h y z
  · exact ⟨p, a, b, by simpa using z, hp, a0, a1, b0, b1, ne⟩
structure Bt3 (mg : Str → Option Value) : Prop where
  list : mg "list" = none
  min : mg "min" = none
  max : mg "max" = none
section
variable {P : Program} {w : World} {K : PySem.W.Frag} {mg : Str → Option Value} {base : Heap} {f : Addr} {fd : FuncData}
end
end Odj

set_option Elab.async false
set_option linter.all false
set_option maxRecDepth 100000
set_option maxHeartbeats 8000000
namespace Odj
open PySem L2
/-! ### data with small leaves -/
mutual
def Gd (B : Nat) : PyData → Prop
  | .none => True
  | .bool _ => True
  | .int i => i.natAbs ≤ B
  | .str x => (∀ c ∈ x.cps.toList, c < 1114112) ∧ x.cps.size ≤ 60
  | .tuple ds => GdL B ds
  | .list ds => GdL B ds
  | .dict _ => False
def GdL (B : Nat) : List PyData → Prop
  | [] => True
  | d :: ds => Gd B d ∧ GdL B ds
end
mutual
theorem gd_mono {B C : Nat} (h : B ≤ C) : ∀ d : PyData, Gd B d → Gd C d
  | .none, _ => by simp [Gd]
  | .bool _, _ => by simp [Gd]
  | .int i, g => by simp only [Gd] at g ⊢; omega
  | .str x, g => by simp only [Gd] at g ⊢; exact g
  | .tuple ds, g => by simp only [Gd] at g ⊢; exact gdl_mono h ds g
  | .list ds, g => by simp only [Gd] at g ⊢; exact gdl_mono h ds g
  | .dict _, g => by simp only [Gd] at g
theorem gdl_mono {B C : Nat} (h : B ≤ C) : ∀ ds : List PyData, GdL B ds → GdL C ds
  | [], _ => by simp [GdL]
  | d :: ds, g => by simp only [GdL] at g ⊢; exact ⟨gd_mono h d g.1, gdl_mono h ds g.2⟩
end
theorem big50 : (10 : Nat) ^ 50 < 2 ^ 1920 := by decide +kernel
mutual
theorem gd_lay : ∀ d : PyData, Gd (10 ^ 50) d → d.canLay0 = true ∧ d.showable = true ∧ d.leavesShort 60 = true
  | .none, _ => ⟨rfl, rfl, rfl⟩
  | .bool _, _ => ⟨rfl, rfl, rfl⟩
  | .int i, g => by
    simp only [Gd] at g
    refine ⟨rfl, ?_, ?_⟩
    · simp only [PyData.showable, decide_eq_true_eq]
      by_cases h : i.natAbs = 0
      · rw [h]; decide
      · exact (Nat.log2_lt h).mpr (Nat.lt_of_le_of_lt g big50)
    · simp only [PyData.leavesShort, decide_eq_true_eq]
      have e := int_text_length_le10 (k := 51) (by decide) (Nat.lt_of_le_of_lt g (by decide +kernel : (10 : Nat) ^ 50 < 10 ^ 51))
      show (Str.ofString (toString i)).length ≤ 60
      rw [ofString_length]
      omega
  | .str x, g => by
    simp only [Gd] at g
    refine ⟨?_, rfl, ?_⟩
    · show PyData.strOk x = true
      unfold PyData.strOk
      rw [Array.all_eq_true']
      intro c hc
      exact decide_eq_true (g.1 c (by simpa using hc))
    · simp only [PyData.leavesShort, List.all_eq_true, decide_eq_true_eq]
      intro c hc
      exact Nat.lt_of_lt_of_le (g.1 c hc) (by decide)
  | .tuple ds, g => by simp only [Gd] at g; simpa only [PyData.canLay0, PyData.showable, PyData.leavesShort] using gdl_lay ds g
  | .list ds, g => by simp only [Gd] at g; simpa only [PyData.canLay0, PyData.showable, PyData.leavesShort] using gdl_lay ds g
  | .dict _, g => by simp only [Gd] at g
theorem gdl_lay : ∀ ds : List PyData, GdL (10 ^ 50) ds → PyData.canLayAll0 ds = true ∧ PyData.showableAll ds = true ∧ PyData.leavesShortAll 60 ds = true
  | [], _ => ⟨rfl, rfl, rfl⟩
  | d :: ds, g => by
    simp only [GdL] at g
    obtain ⟨a1, a2, a3⟩ := gd_lay d g.1
    obtain ⟨b1, b2, b3⟩ := gdl_lay ds g.2
    simp only [PyData.canLayAll0, PyData.showableAll, PyData.leavesShortAll, a1, a2, a3, b1, b2, b3]
    exact ⟨rfl, rfl, rfl⟩
end
theorem good_of {d : PyData} (g : Gd (10 ^ 50) d) (hd : d.depth ≤ 60) (hw : d.weight ≤ 200000) : Good d := ⟨(gd_lay d g).1, (gd_lay d g).2.1, (gd_lay d g).2.2, hd, hw⟩
theorem len_wA : ∀ xs : List PyData, xs.length ≤ PyData.weightAll xs
  | [] => Nat.le_refl _
  | x :: xs => by have := len_wA xs; simp only [List.length_cons, PyData.weightAll]; omega
theorem w_int {i : Int} {k : Nat} (h : i.natAbs < 2 ^ k) : PyData.weight (.int i) ≤ k := by
  simp only [PyData.weight]
  split
  · omega
  · rename_i hne
    have : i.natAbs ≠ 0 := fun z => hne (by simp; omega)
    have := (Nat.log2_lt this).mpr h
    omega
section
variable {P : Program} {w : World} {K : PySem.W.Frag} {mg : Str → Option Value} {base : Heap} {f : Addr} {fd : FuncData}
end
end Odj

set_option Elab.async false
set_option linter.all false
set_option maxRecDepth 100000
set_option maxHeartbeats 8000000
namespace L2
open PySem
/-! ### rules by data -/
def cutL {α : Type} (xs : List α) (lo hi : Option Int) : List α := (xs.drop (HT.sIx xs.length 0 lo)).take (HT.sIx xs.length xs.length hi - HT.sIx xs.length 0 lo)
theorem cutL_to {α : Type} (xs : List α) (k : Int) (h : 0 ≤ k) : cutL xs none (some k) = xs.take k.toNat := by
  unfold cutL
  rw [show k = ((k.toNat : Nat) : Int) by omega, HT.sIx_nat, HT.sIx_none]
  simp only [List.drop_zero, Nat.sub_zero, Int.toNat_natCast]
  by_cases hc : k.toNat ≤ xs.length
  · rw [Nat.min_eq_left hc]
  · rw [Nat.min_eq_right (by omega), List.take_of_length_le (Nat.le_refl _), List.take_of_length_le (by omega)]
theorem cutL_from {α : Type} (xs : List α) (k : Int) (h : 0 ≤ k) : cutL xs (some k) none = xs.drop k.toNat := by
  unfold cutL
  rw [show k = ((k.toNat : Nat) : Int) by omega, HT.sIx_nat, HT.sIx_none]
  simp only [Int.toNat_natCast]
  by_cases hc : k.toNat ≤ xs.length
  · rw [Nat.min_eq_left hc, List.take_of_length_le (by rw [List.length_drop]; exact Nat.le_refl _)]
  · rw [Nat.min_eq_right (by omega), List.drop_of_length_le (Nat.le_refl _), List.drop_of_length_le (by omega)]
    simp
section
variable {K : PySem.W.Frag} {S : List Addr} {H : Hp} {ds es : List PyData} {v u : V} {Q : VK}
theorem sl_rep {lo hi : Option Int} (r : Rep S H (.tuple ds) v) (q : ∀ v' H', Ext [] H H' → Rep S H' (.tuple (cutL ds lo hi)) v' → Q v' H') : rSlTA K v lo hi H Q := by
  obtain ⟨a, xs, rfl, ha, rs⟩ := r.of_tup
  have hc : Reps S H (cutL ds lo hi) (cutV xs lo hi) := by
    unfold cutL cutV
    rw [rs.length]
    exact (rs.drop _).take _
  refine ⟨a, xs, rfl, SqT.of ha, fun e => q _ _ (.refl _ _) (.tup ha (e ▸ hc)), fun p hp => q _ _ (.new hp) (.tup upd_same (hc.ext (.new hp)))⟩
theorem cat_rep (r1 : Rep S H (.tuple ds) v) (r2 : Rep S H (.tuple es) u) (hz : ds.length + es.length ≤ sizeLine) (q : ∀ v' H', Ext [] H H' → Rep S H' (.tuple (ds ++ es)) v' → Q v' H') : rCatA K v u H Q := by
  obtain ⟨a, xs, rfl, ha, rs⟩ := r1.of_tup
  obtain ⟨b, ys, rfl, hb, rt⟩ := r2.of_tup
  have hc := rs.append rt
  refine ⟨a, b, xs, ys, rfl, rfl, SqT.of ha, SqT.of hb, by rw [rs.length, rt.length]; exact hz, fun e => q _ _ (.refl _ _) (.tup hb (by subst e; exact hc)), fun e => q _ _ (.refl _ _) (.tup ha (by subst e; simpa using hc)), fun p hp => q _ _ (.new hp) (.tup upd_same (hc.ext (.new hp)))⟩
end
end L2
namespace Odj
open PySem L2
structure Bt4 (mg : Str → Option Value) : Prop where
  str : mg "str" = none
section
variable {P : Program} {w : World} {K : PySem.W.Frag} {mg : Str → Option Value} {base : Heap} {f : Addr} {fd : FuncData}
end
end Odj

set_option Elab.async false
set_option linter.all false
set_option maxRecDepth 100000
set_option maxHeartbeats 8000000
namespace Odj
open PySem L2
structure Bt5 (mg : Str → Option Value) : Prop where
  repr : mg "repr" = none
def spLaw (K : PySem.W.Frag) : Sp := fun vs H Q _ => ∃ (a : Addr) (ns : List Int), vs = [.ref a] ∧ SqL K H a (ns.map V.int) ∧ ns.length ≤ 63 ∧ ∀ H', Q (.bl true) H'
/-- webs that can be shown -/
structure WebOk (many : Int) (ts : List PyData) : Prop where
  m0 : 1 ≤ many
  m1 : many ≤ 60
  len : ts.length ≤ 200
  gd : Gd (10 ^ 50) (webD many ts)
  wt : (webD many ts).weight ≤ 10000
  dp : (webD many ts).depth ≤ 10
/-- things that can be shown -/
structure ThOk (d : PyData) : Prop where
  gd : Gd (10 ^ 50) d
  wt : d.weight ≤ 50000
  dp : d.depth ≤ 50
theorem ThOk.len {d : PyData} (t : ThOk d) : lenD d ≤ 100000 := by
  cases d with
  | tuple ds =>
    have := len_wA ds
    have h := t.wt
    simp only [PyData.weight] at h
    simp only [lenD]
    omega
  | _ => simp [lenD]
theorem ties_fine : ∀ {ts : List Tie}, (∀ t ∈ ts, t.1.natAbs ≤ 100 ∧ t.2.1.natAbs ≤ 100 ∧ t.2.2.natAbs ≤ 100) → GdL (10 ^ 50) (ts.map tieD) ∧ PyData.weightAll (ts.map tieD) ≤ 25 * ts.length ∧ PyData.depthAll (ts.map tieD) ≤ 1
  | [], _ => ⟨by simp [GdL], by simp [PyData.weightAll], by simp [PyData.depthAll]⟩
  | t :: ts, h => by
    obtain ⟨h1, h2, h3⟩ := ties_fine (ts := ts) fun t ht => h t (List.mem_cons_of_mem _ ht)
    obtain ⟨k1, k2, k3⟩ := h t (List.mem_cons_self ..)
    have w1 := w_int (i := t.1) (k := 7) (by omega)
    have w2 := w_int (i := t.2.1) (k := 7) (by omega)
    have w3 := w_int (i := t.2.2) (k := 7) (by omega)
    have hb : (100 : Nat) ≤ 10 ^ 50 := by decide +kernel
    refine ⟨?_, ?_, ?_⟩
    · simp only [List.map_cons, GdL, tieD, Gd]
      exact ⟨⟨by omega, by omega, by omega, trivial⟩, h1⟩
    · have e : PyData.weightAll ((t :: ts).map tieD) = (PyData.weight (.int t.1) + 1 + (PyData.weight (.int t.2.1) + 1 + (PyData.weight (.int t.2.2) + 1 + 0))) + 1 + PyData.weightAll (ts.map tieD) := by simp only [List.map_cons, PyData.weightAll, tieD, PyData.weight]
      rw [e, List.length_cons]
      omega
    · simp only [List.map_cons, PyData.depthAll, tieD, PyData.depth]
      omega
theorem web_ok {many : Int} {ts : List Tie} (h1 : 1 ≤ many) (h2 : many ≤ 60) (hl : ts.length ≤ 200) (h : ∀ t ∈ ts, t.1.natAbs ≤ 100 ∧ t.2.1.natAbs ≤ 100 ∧ t.2.2.natAbs ≤ 100) : WebOk many (ts.map tieD) := by
  obtain ⟨k1, k2, k3⟩ := ties_fine h
  have w1 := w_int (i := many) (k := 7) (by omega)
  have hb : (100 : Nat) ≤ 10 ^ 50 := by decide +kernel
  refine ⟨h1, h2, by simpa using hl, ?_, ?_, ?_⟩
  · simp only [webD, Gd, GdL]
    exact ⟨by omega, k1, trivial⟩
  · have e : (webD many (ts.map tieD)).weight = PyData.weight (.int many) + 1 + (PyData.weightAll (ts.map tieD) + 1 + 0) := by simp only [webD, PyData.weight, PyData.weightAll]
    rw [e]
    omega
  · simp only [webD, PyData.depth, PyData.depthAll]
    omega
/-- tuples of small ints -/
theorem ints_fine : ∀ {ns : List Int}, (∀ i ∈ ns, i.natAbs ≤ 1000) → GdL (10 ^ 39) (ns.map .int) ∧ PyData.weightAll (ns.map .int) ≤ 11 * ns.length ∧ PyData.depthAll (ns.map .int) ≤ 0
  | [], _ => ⟨by simp [GdL], by simp [PyData.weightAll], by simp [PyData.depthAll]⟩
  | i :: ns, h => by
    obtain ⟨h1, h2, h3⟩ := ints_fine (ns := ns) fun t ht => h t (List.mem_cons_of_mem _ ht)
    have k1 := h i (List.mem_cons_self ..)
    have w1 := w_int (i := i) (k := 10) (by omega)
    have hb : (1000 : Nat) ≤ 10 ^ 39 := by decide +kernel
    refine ⟨?_, ?_, ?_⟩
    · simp only [List.map_cons, GdL, Gd]
      exact ⟨by omega, h1⟩
    · have e : PyData.weightAll ((i :: ns).map .int) = PyData.weight (.int i) + 1 + PyData.weightAll (ns.map .int) := by simp only [List.map_cons, PyData.weightAll]
      rw [e, List.length_cons]
      omega
    · simp only [List.map_cons, PyData.depthAll, PyData.depth]
      omega
theorem big3950 : (10 : Nat) ^ 39 ≤ 10 ^ 50 := by decide +kernel
end Odj

set_option Elab.async false
set_option linter.all false
set_option maxRecDepth 100000
set_option maxHeartbeats 8000000
namespace L2
open PySem
theorem Ext.put {S : List Addr} {H0 H : Hp} {p : Addr} {o : HO} (a : Ext S H0 H) (h0 : H0 p = none) : Ext S H0 (upd H p o) :=
  ⟨fun b u hb e => by rw [upd_ne (fun z => by rw [z, h0] at e; cases e)]; exact a.keep b u hb e, fun b ys e => by rw [upd_ne (fun z => by rw [z, h0] at e; cases e)]; exact a.tup b ys e⟩
end L2
namespace Odj
open PySem L2
/-- the odd ones, rising -/
def OddSort (row ns : List Int) : Prop := ns.Perm (trues (oddsOf row)) ∧ ns.Pairwise (· ≤ ·)
structure Bt7 (mg : Str → Option Value) : Prop where
  sorted : mg "sorted" = none
  sum : mg "sum" = none
  enumerate : mg "enumerate" = none
end Odj

set_option Elab.async false
set_option linter.all false
set_option maxRecDepth 100000
set_option maxHeartbeats 8000000
namespace L2
open PySem
end L2
namespace Odj
open PySem L2
theorem trues_eq {o : Odd} (hn : (keysOf o).Nodup) : trues o = (keysOf o).filter (isOdd o) := by
  unfold trues keysOf
  rw [List.filter_map]
  congr 1
  apply List.filter_congr
  intro p hp
  obtain ⟨i, hi⟩ := List.getElem?_of_mem hp
  exact (odd_at hn hi).symm
section
variable {P : Program} {w : World} {K : PySem.W.Frag} {mg : Str → Option Value} {base : Heap} {f : Addr} {fd : FuncData}
end
end Odj

set_option Elab.async false
set_option linter.all false
set_option maxRecDepth 100000
set_option maxHeartbeats 8000000
namespace Odj
open PySem L2
/-- a web whose ties join unlike places, prices small -/
structure TieFine (many : Int) (t : Tie) : Prop where
  a0 : 0 ≤ t.1
  ab : t.1 < t.2.1
  bm : t.2.1 < many
  p0 : -99 ≤ t.2.2
  p1 : t.2.2 ≤ 99
structure WebFn (many : Int) (ts : List Tie) : Prop where
  m0 : 1 ≤ many
  m1 : many ≤ 60
  len : ts.length ≤ 200
  ok : ∀ t ∈ ts, TieFine many t
/-- the tie at a place -/
theorem tie_at {S : List Addr} {H : Hp} {ts : List Tie} {xs : List V} (r : Reps S H (ts.map tieD) xs) {i : Int} (h0 : 0 ≤ i) (h1 : i < (ts.length : Int)) : ∃ t p, ts[i.toNat]? = some t ∧ t ∈ ts ∧ atI xs i = some (.ref p) ∧ Rep S H (tieD t) (.ref p) ∧ H p = some (.tup [.int t.1, .int t.2.1, .int t.2.2]) := by
  have hl := r.length
  rw [List.length_map] at hl
  obtain ⟨v, e1, e2⟩ := atI_ex (xs := xs) h0 (by omega)
  obtain ⟨d, hd, rd⟩ := r.get e2
  rw [List.getElem?_map] at hd
  have hi : i.toNat < ts.length := by omega
  have hts : ts[i.toNat]? = some ts[i.toNat] := by simp [hi]
  rw [hts] at hd
  have hd' : tieD ts[i.toNat] = d := Option.some.inj hd
  subst hd'
  obtain ⟨p, xs', ev, hp, rr⟩ := rd.of_tup
  subst ev
  obtain ⟨y1, r1, z1, q1, w1⟩ := rr.of_cons
  obtain ⟨y2, r2, z2, q2, w2⟩ := w1.of_cons
  obtain ⟨y3, r3, z3, q3, w3⟩ := w2.of_cons
  have z4 := w3.of_nil
  have o1 := q1.of_int
  have o2 := q2.of_int
  have o3 := q3.of_int
  subst z1 z2 z3 z4 o1 o2 o3
  exact ⟨ts[i.toNat], p, hts, List.getElem_mem hi, e1, rd, hp⟩
theorem rep_ints {S : List Addr} {H : Hp} {ns : List Int} {u : V} (h : Rep S H (.tuple (ns.map .int)) u) : ∃ a, u = .ref a ∧ H a = some (.tup (ns.map V.int)) := by
  obtain ⟨a, xs, rfl, ha, r⟩ := h.of_tup
  have : xs = ns.map V.int := by
    clear ha h
    induction ns generalizing xs with
    | nil => exact r.of_nil
    | cons n ns ih =>
      obtain ⟨x, r1, e, h1, h2⟩ := r.of_cons
      have e1 := h1.of_int
      subst e e1
      rw [ih r1 h2]
      rfl
  subst this
  exact ⟨a, rfl, ha⟩
def spOther : Sp := fun vs H Q _ => ∃ (S : List Addr) (t : Tie) (v : V) (x : Int), vs = [v, .int x] ∧ Rep S H (tieD t) v ∧ Q (.int (otherEnd t x)) H
def spAhead : Sp := fun vs H Q _ => ∃ (S : List Addr) (many : Int) (ts : List Tie) (v : V) (n x : Int) (t : Tie), vs = [v, .int n, .int x] ∧ Rep S H (webD many (ts.map tieD)) v ∧ 0 ≤ n ∧ ts[n.toNat]? = some t ∧ Q (.int (t.1 + t.2.1 - x)) H
theorem inV_ints (a : Int) (side : List Int) : inV (.int a) (side.map V.int) = decide (a ∈ side) := by
  induction side with
  | nil => rfl
  | cons b side ih =>
    have e : inV (.int a) ((b :: side).map V.int) = (eqV (.int b) (.int a) || inV (.int a) (side.map V.int)) := rfl
    rw [e, ih]
    have e2 : eqV (.int b) (.int a) = decide (b = a) := by
      unfold eqV
      by_cases h : b = a <;> simp [h]
    rw [e2]
    by_cases h : b = a
    · subst h; simp
    · have h' : ¬ a = b := fun z => h z.symm
      simp [h, h']
theorem flat_ints (side : List Int) : (side.map V.int).all flatV = true := by
  induction side with
  | nil => rfl
  | cons b side ih => simpa [flatV] using ih
theorem tie_there {S : List Addr} {H : Hp} {ts : List Tie} {xs : List V} (r : Reps S H (ts.map tieD) xs) {n : Int} {t : Tie} (h0 : 0 ≤ n) (ht : ts[n.toNat]? = some t) : ∃ p, atI xs n = some (.ref p) ∧ Rep S H (tieD t) (.ref p) ∧ H p = some (.tup [.int t.1, .int t.2.1, .int t.2.2]) := by
  have hl := (List.getElem?_eq_some_iff.mp ht).1
  obtain ⟨t', p, e1, _, e3, e4, e5⟩ := tie_at r h0 (by omega)
  rw [ht] at e1
  cases e1
  exact ⟨p, e3, e4, e5⟩
theorem atI_last {α : Type} (xs : List α) (x : α) : atI (xs ++ [x]) (-1) = some x := atI_neg1 (by simp)
def tieNo (n : Nat) : PyData → Bool
  | .int i => decide (0 ≤ i) && decide (i < (n : Int))
  | _ => false
theorem below_one (n : Nat) (d : PyData) : belowD (n : Int) (.tuple [d]) = tieNo n d := by
  cases d with
  | int i =>
    show ((!decide (i ≤ -1) && true) && decide (i < (n : Int))) = (decide (0 ≤ i) && decide (i < (n : Int)))
    rw [Bool.and_true]
    by_cases h : 0 ≤ i
    · rw [decide_eq_true h, decide_eq_false (show ¬ i ≤ -1 by omega)]; rfl
    · rw [decide_eq_false h, decide_eq_true (show i ≤ -1 by omega)]; rfl
  | _ => rfl
theorem tieNo_in {n : Nat} {i : Int} (h0 : 0 ≤ i) (h1 : i < (n : Int)) : tieNo n (.int i) = true := by
  show (decide (0 ≤ i) && decide (i < (n : Int))) = true
  rw [decide_eq_true h0, decide_eq_true h1]; rfl
def spTieNo : Sp := fun vs H Q _ => ∃ S d v many ts w, vs = [w, v] ∧ Rep S H (webD many ts) w ∧ Rep S H d v ∧ ∀ H', Ext [] H H' → Q (.bl (tieNo ts.length d)) H'
section
variable {P : Program} {w : World} {K : PySem.W.Frag} {mg : Str → Option Value} {base : Heap} {f : Addr} {fd : FuncData}
theorem d_other_end (F : Fun K "other_end" "other_end" (top 8) f fd) (hm : mg "other_end" = some (.ref f)) : DefOk P w K mg base 1 "other_end" ["tie", "place"] spOther := by
  refine ⟨f, fd, ?_, hm, F.kp, F.binds fun _ _ _ _ _ _ us hl => match us, hl with | [_, _], _ => rfl⟩
  have sc : FnScope ["tie", "place"] ["tie", "place"] (defScope (top 8)) := ⟨rfl, rfl, rfl, by decide +kernel, rfl, by decide +kernel, by decide +kernel⟩
  refine F.okQ sc (fun vs H Q E h => ?_) (fun cdv A outer s H vs Q E hr h => ?_)
  · obtain ⟨S, t, v, x, rfl, _⟩ := h
    rfl
  · obtain ⟨S, t, v, x, rfl, rp, q⟩ := h
    obtain ⟨p, xs, rfl, hp, rr⟩ := rp.of_tup
    obtain ⟨p', hv, hp'⟩ := rep_ints (ns := [t.1, t.2.1, t.2.2]) rp
    cases hv
    refine ⟨_, (qss_one (qs_ret (qe_ifExp (qt_cmpR op_eq (qe_ix (ixT K) (qv 0) qe_int (fun _ _ => rfl)) (qv 1) (nomark _)) (qe_ix (ixT K) (qv 0) qe_int (fun _ _ => rfl)) (qe_ix (ixT K) (qv 0) qe_int (fun _ _ => rfl))))), ?_⟩
    refine ⟨_, rfl, p, _, 0, _, rfl, rfl, SqT.of hp', rfl, _, rfl, rfl, _, rfl, ?_⟩
    unfold otherEnd at q
    refine ite2 (fun h => ?_) (fun h => ?_)
    · have h' : t.1 = x := V.int.inj (of_decide_eq_true h)
      rw [if_pos h'] at q
      exact ⟨_, rfl, p, _, 1, _, rfl, rfl, SqT.of hp', rfl, q⟩
    · have h' : ¬ t.1 = x := fun z => h (decide_eq_true (by rw [z]))
      rw [if_neg h'] at q
      exact ⟨_, rfl, p, _, 0, _, rfl, rfl, SqT.of hp', rfl, q⟩
theorem d_is_tie_number (F : Fun K "is_tie_number" "is_tie_number" (top 6) f fd) (hm : mg "is_tie_number" = some (.ref f)) (D_is_set : DefOk P w K mg base 4 "is_set" ["web", "thing"] spSet) : DefOk P w K mg base 5 "is_tie_number" ["web", "thing"] spTieNo := by
  refine ⟨f, fd, ?_, hm, F.kp, F.binds fun _ _ _ _ _ _ us hl => match us, hl with | [_, _], _ => rfl⟩
  have sc : FnScope ["web", "thing"] ["web", "thing"] (defScope (top 6)) := ⟨rfl, rfl, rfl, by decide +kernel, rfl, by decide +kernel, by decide +kernel⟩
  refine F.okQ sc (fun vs H Q E h => ?_) (fun cdv A outer s H vs Q E hr h => ?_)
  · obtain ⟨S, d, v, many, ts, w, rfl, _⟩ := h
    rfl
  · obtain ⟨S, d, v, many, ts, w, rfl, rw', rp, q⟩ := h
    refine ⟨_, (qss_one (qs_ret (qe_callD D_is_set (hr.mono (by decide)) (qa_c (qv 0) (qa_c (qe_tup (qa_c (qv 1) qa_nil)) qa_nil))))), ?_⟩
    refine ⟨w, rfl, v, rfl, by show 1 ≤ sizeLine; decide, fun p hp => ?_⟩
    refine ⟨S, .tuple [d], .ref p, many, ts, w, rfl, rw'.ext (.new hp), .tup upd_same (.cons (rp.ext (.new hp)) .nil), ?_⟩
    rw [below_one]
    exact q _ (.new hp)
theorem d_law_ahead (F : Fun K "_law_ahead" "_law_ahead" (top 19) f fd) (hm : mg "_law_ahead" = some (.ref f)) : DefOk P w K mg base 1 "_law_ahead" ["_law_web_here", "_law_number", "_law_here"] spAhead := by
  refine ⟨f, fd, ?_, hm, F.kp, F.binds fun _ _ _ _ _ _ us hl => match us, hl with | [_, _, _], _ => rfl⟩
  have sc : FnScope ["_law_web_here", "_law_number", "_law_here"] ["_law_web_here", "_law_number", "_law_here"] (defScope (top 19)) := ⟨rfl, rfl, rfl, by decide +kernel, rfl, by decide +kernel, by decide +kernel⟩
  refine F.okQ sc (fun vs H Q E h => ?_) (fun cdv A outer s H vs Q E hr h => ?_)
  · obtain ⟨S, many, ts, v, n, x, t, rfl, _⟩ := h
    rfl
  · obtain ⟨S, many, ts, v, n, x, t, rfl, rw0, h0, ht, q⟩ := h
    obtain ⟨wa, wt, txs, rfl, ha, hb, rt⟩ := web_of rw0
    obtain ⟨p, e3, e4, e5⟩ := tie_there rt h0 ht
    refine ⟨_, (qss_one (qs_ret (qe_op op_sub (qe_op op_add (qe_ix (ixT K) (qe_ix (ixT K) (qe_ix (ixT K) (qv 0) qe_int (fun _ _ => rfl)) (qv 1) (fun _ _ => rfl)) qe_int (fun _ _ => rfl)) (qe_ix (ixT K) (qe_ix (ixT K) (qe_ix (ixT K) (qv 0) qe_int (fun _ _ => rfl)) (qv 1) (fun _ _ => rfl)) qe_int (fun _ _ => rfl))) (qv 2)))), ?_⟩
    exact ⟨_, rfl, wa, _, 1, _, rfl, rfl, SqT.of ha, rfl, _, rfl, wt, txs, n, _, rfl, rfl, SqT.of hb, e3, p, _, 0, _, rfl, rfl, SqT.of e5, rfl, _, rfl, wa, _, 1, _, rfl, rfl, SqT.of ha, rfl, _, rfl, wt, txs, n, _, rfl, rfl, SqT.of hb, e3, p, _, 1, _, rfl, rfl, SqT.of e5, rfl, _, _, rfl, rfl, _, rfl, _, _, rfl, rfl, q⟩
end
end Odj

set_option Elab.async false
set_option linter.all false
set_option maxRecDepth 100000
set_option maxHeartbeats 8000000
namespace Odj
open PySem L2
structure Bt8 (mg : Str → Option Value) : Prop where
  set : mg "set" = none
  sorted : mg "sorted" = none
  enumerate : mg "enumerate" = none
theorem ne_bl (A B : Bool) : (!decide (V.bl (if false = true then !A else A) = V.bl (if false = true then !B else B))) = (A != B) := by
  cases A <;> cases B <;> simp
def Rise (l : List Int) : Prop := l.Pairwise (· < ·)
theorem Rise.nd {l : List Int} (h : Rise l) : l.Nodup := nodup_lt h
theorem nodup_count : ∀ {l : List Int}, l.Nodup → ∀ k, l.count k = if k ∈ l then 1 else 0
  | [], _, k => by simp
  | a :: l, h, k => by
    obtain ⟨h1, h2⟩ := List.nodup_cons.mp h
    have ih := nodup_count h2 k
    rw [List.count_cons, ih]
    by_cases e : a = k
    · subst e
      simp [h1]
    · have e' : ¬ k = a := fun z => e z.symm
      by_cases m : k ∈ l <;> simp [e, e', m]
theorem odd_two {a b ms : List Int} (ha : a.Nodup) (hb : b.Nodup) : OddSet (a ++ b) ms ↔ Rise ms ∧ ∀ k, k ∈ ms ↔ (decide (k ∈ a) != decide (k ∈ b)) = true := by
  unfold OddSet Rise
  have key : ∀ k, (a ++ b).count k % 2 = 1 ↔ (decide (k ∈ a) != decide (k ∈ b)) = true := by
    intro k
    rw [List.count_append, nodup_count ha, nodup_count hb]
    by_cases h1 : k ∈ a <;> by_cases h2 : k ∈ b <;> simp [h1, h2]
  constructor
  · rintro ⟨h, m⟩
    exact ⟨h, fun k => (m k).trans (key k)⟩
  · rintro ⟨h, m⟩
    exact ⟨h, fun k => (m k).trans (key k).symm⟩
theorem WebFn.small {many : Int} {ts : List Tie} (w : WebFn many ts) : ∀ t ∈ ts, t.1.natAbs ≤ 100 ∧ t.2.1.natAbs ≤ 100 ∧ t.2.2.natAbs ≤ 100 := fun t ht => by
  have o := w.ok t ht
  have o1 := o.a0
  have o2 := o.ab
  have o3 := o.bm
  have o4 := o.p0
  have o5 := o.p1
  have m1 := w.m1
  omega
theorem OddSet.sub {row ns : List Int} (h : OddSet row ns) : ∀ k ∈ ns, k ∈ row := fun k hk => List.count_pos_iff.mp (by have := (h.2 k).mp hk; omega)
def spTurnsL : Sp := fun vs H Q _ => ∃ (S : List Addr) (u z : V) (a b : List Int), vs = [u, z] ∧ Rep S H (.tuple (a.map .int)) u ∧ Rep S H (.tuple (b.map .int)) z ∧ a.Nodup ∧ b.Nodup ∧ a.length + b.length < 64 ∧
  ∀ (ns : List Int) (p : Addr) (H' : Hp), OddSet (a ++ b) ns → H' p = some (.tup (ns.map V.int)) → Ext [] H H' → Q (.ref p) H'
theorem filter_snoc {α : Type} (p : α → Bool) (l : List α) (j : Nat) {k : α} (h : l[j]? = some k) : (l.take (j + 1)).filter p = (l.take j).filter p ++ if p k = true then [k] else [] := by
  rw [List.take_add_one, h, List.filter_append]
  by_cases c : p k = true
  · simp [List.filter_cons, c]
  · simp [List.filter_cons, c]
theorem int_nth {ns : List Int} {j : Nat} {x : V} (h : (ns.map V.int)[j]? = some x) : ∃ k, ns[j]? = some k ∧ x = .int k := by
  rw [List.getElem?_map] at h
  cases e : ns[j]? with
  | none => rw [e] at h; cases h
  | some k => rw [e] at h; cases h; exact ⟨k, rfl, rfl⟩
theorem odd_bound {row ns : List Int} {m : Nat} (h : OddSet row ns) (b : ∀ k ∈ row, 0 ≤ k ∧ k < (m : Int)) : (∀ k ∈ ns, 0 ≤ k ∧ k < (m : Int)) ∧ ns.length ≤ m := by
  have hb : ∀ k ∈ ns, 0 ≤ k ∧ k < (m : Int) := fun k hk => b k (h.sub k hk)
  exact ⟨hb, nodup_le (nodup_lt h.1) hb⟩
theorem ends_app (ts : List Tie) (a b : List Int) : endsOf ts (a ++ b) = endsOf ts a ++ endsOf ts b := by
  unfold endsOf
  rw [List.flatMap_append]
theorem int_no {x y : Int} {A B : Prop} (e : x = y) (hb : B) : if (!decide (V.int x = V.int y)) = true then A else B := by
  subst e
  simpa using hb
theorem OddSort.of {row ms : List Int} (hn : (keysOf (oddsOf row)).Nodup) (p : ms.Perm (keysOf (oddsOf row))) (s : ms.Pairwise (· ≤ ·)) : OddSort row (ms.filter (isOdd (oddsOf row))) :=
  ⟨by rw [trues_eq hn]; exact p.filter _, s.filter _⟩
section
variable {P : Program} {w : World} {K : PySem.W.Frag} {mg : Str → Option Value} {base : Heap} {f : Addr} {fd : FuncData}
theorem d_law_turns (F : Fun K "_law_turns" "_law_turns" (top 20) f fd) (hm : mg "_law_turns" = some (.ref f)) (B : Bt mg) (B8 : Bt8 mg) : DefOk P w K mg base 1 "_law_turns" ["_law_one", "_law_other"] spTurnsL := by
  refine ⟨f, fd, ?_, hm, F.kp, F.binds fun _ _ _ _ _ _ us hl => match us, hl with | [_, _], _ => rfl⟩
  have sc : FnScope ["_law_one", "_law_other"] ["_law_one", "_law_other"] (defScope (top 20)) := ⟨rfl, rfl, rfl, by decide +kernel, rfl, by decide +kernel, by decide +kernel⟩
  refine F.okQ sc (fun vs H Q E h => ?_) (fun cdv A outer s H vs Q E hr h => ?_)
  · obtain ⟨S, u, z, a, b, rfl, _⟩ := h
    rfl
  · obtain ⟨S, u, z, a, b, rfl, ru, rz, na, nb, hl, q⟩ := h
    have hsz : sizeLine = 16777216 := by decide
    obtain ⟨ua, rfl, hua⟩ := rep_ints ru
    obtain ⟨za, rfl, hza⟩ := rep_ints rz
    refine ⟨_, (qss_one (qs_ret (qe_callTy (tupleK K) (by rfl) B.tuple (by decide +kernel) (qa_c (qe_comp (N := ["_law_k", "_law_one", "_law_other"]) (mp := [none, some 0, some 1]) rfl (qi_listK K (qe_sortedSet K rfl (by rfl) B8.sorted (by rfl) B8.set (qe_op (catT K) (qv 0) (qv 1)))) rfl (by show compOk ["_law_one", "_law_other"] (defScope (top 20)) _ _ _ = true; decide +kernel) fun _ _ _ _ _ => ⟨(qg_name (i := 0) (by show List.Nodup [("_law_k" : Str), ("_law_one" : Str), ("_law_other" : Str)]; decide +kernel) rfl (Or.inl rfl)), (qk_one (qt_cmpR op_ne (qe_cmpR (inK K) (qv 0) (qv 1) rfl) (qe_cmpR (inK K) (qv 0) (qv 2) rfl) (nomark _))), (qv 0)⟩) qa_nil)))), ?_⟩
    refine ⟨_, rfl, _, rfl, cat_rep ru rz (by rw [List.length_map, List.length_map]; omega) fun v1 H1 x1 r1 => ?_⟩
    rw [← List.map_append] at r1
    obtain ⟨c, rfl, hc⟩ := rep_ints r1
    refine ⟨c, a ++ b, rfl, .inr (SqT.of hc), by rw [List.length_append]; omega, fun ls ms H2 x2 hl0 hls rs mem ml => ?_⟩
    rw [List.length_append] at ml
    have x12 := x1.trans x2
    refine ⟨ls, rfl, ⟨_, SqL.of hls⟩, comp_list (K := K) (a := ls) (xs := ms.map V.int) (fun j ys σ' H3 => (∃ y, σ' = [y, some (.ref ua), some (.ref za)]) ∧ H3 = H2 ∧ ys = ((ms.take j).filter fun k => decide (k ∈ a) != decide (k ∈ b)).map V.int) ⟨⟨none, rfl⟩, rfl, rfl⟩
      (fun j ys σ' H3 e => by rw [e.2.1]; exact SqL.of hls) ?_ ?_⟩
    · rintro j x ys σ' H3 hx ⟨⟨y, rfl⟩, rfl, rfl⟩
      obtain ⟨k, hk, rfl⟩ := int_nth hx
      have fl := List.length_filter_le (fun k => decide (k ∈ a) != decide (k ∈ b)) (ms.take j)
      rw [List.length_take] at fl
      refine ⟨by rw [List.length_map]; omega, _, rfl, _, rfl, ua, _, rfl, .inr (SqT.of (x12.tup _ _ hua)), rfl, flat_ints _, _, rfl, _, rfl, za, _, rfl, .inr (SqT.of (x12.tup _ _ hza)), rfl, flat_ints _, rfl, _, rfl, ?_⟩
      rw [ne_bl, inV_ints, inV_ints]
      refine ite2 (fun hc => ⟨_, rfl, ⟨_, rfl⟩, rfl, ?_⟩) (fun hc => ⟨⟨_, rfl⟩, rfl, ?_⟩)
      · rw [filter_snoc _ _ _ hk, if_pos hc, List.map_append]
        rfl
      · rw [filter_snoc _ _ _ hk, if_neg hc, List.append_nil]
    · rintro ys σ' H3 ⟨⟨y, rfl⟩, rfl, rfl⟩
      have fl := List.length_filter_le (fun k => decide (k ∈ a) != decide (k ∈ b)) ms
      rw [List.take_of_length_le (by rw [List.length_map]; exact Nat.le_refl _)]
      refine ⟨by rw [List.length_map]; omega, fun D hD => ⟨D, _, rfl, .inl ⟨SqL.of upd_same, fun p hp => ?_⟩⟩⟩
      refine q (ms.filter fun k => decide (k ∈ a) != decide (k ∈ b)) p _ ?_ upd_same ((x12.trans (.new hD)).trans (.new hp))
      refine (odd_two na nb).mpr ⟨rs.filter _, fun k => ?_⟩
      rw [List.mem_filter, mem, List.mem_append]
      constructor
      · exact fun z => z.2
      · intro z
        refine ⟨?_, z⟩
        by_cases h1 : k ∈ a
        · exact .inl h1
        · by_cases h2 : k ∈ b
          · exact .inr h2
          · simp [h1, h2] at z
end
end Odj

set_option Elab.async false
set_option linter.all false
set_option maxRecDepth 100000
set_option maxHeartbeats 8000000
namespace Odj
open PySem L2
/-! things that can be shown, side by side -/
def Sm (d : PyData) : Prop := Gd (10 ^ 50) d ∧ d.depth ≤ 20 ∧ d.weight ≤ 10000
theorem sm_all : ∀ {ds : List PyData}, (∀ d ∈ ds, Sm d) → GdL (10 ^ 50) ds ∧ PyData.depthAll ds ≤ 21 ∧ PyData.weightAll ds ≤ 10001 * ds.length
  | [], _ => ⟨by simp [GdL], by simp [PyData.depthAll], by simp [PyData.weightAll]⟩
  | d :: ds, h => by
    obtain ⟨h1, h2, h3⟩ := sm_all (ds := ds) fun d hd => h d (List.mem_cons_of_mem _ hd)
    obtain ⟨k1, k2, k3⟩ := h d (List.mem_cons_self ..)
    refine ⟨?_, ?_, ?_⟩
    · simp only [GdL]
      exact ⟨k1, h1⟩
    · simp only [PyData.depthAll]
      omega
    · simp only [PyData.weightAll, List.length_cons]
      omega
theorem good_tup {ds : List PyData} (h : ∀ d ∈ ds, Sm d) (hl : ds.length ≤ 12) : Good (.tuple ds) := by
  obtain ⟨h1, h2, h3⟩ := sm_all h
  refine good_of (by simp only [Gd]; exact h1) ?_ ?_
  · simp only [PyData.depth]
    omega
  · simp only [PyData.weight]
    omega
theorem sm_web {many : Int} {ts : List Tie} (w : WebFn many ts) : Sm (webD many (ts.map tieD)) := by
  have wok := web_ok w.m0 w.m1 w.len w.small
  exact ⟨wok.gd, by have := wok.dp; omega, wok.wt⟩
theorem sm_ints {ns : List Int} (h : ∀ i ∈ ns, i.natAbs ≤ 1000) (hl : ns.length ≤ 200) : Sm (.tuple (ns.map .int)) := by
  obtain ⟨h1, h2, h3⟩ := ints_fine h
  refine ⟨by simp only [Gd]; exact gdl_mono big3950 _ h1, ?_, ?_⟩
  · simp only [PyData.depth]
    omega
  · simp only [PyData.weight]
    omega
end Odj

set_option Elab.async false
set_option linter.all false
set_option maxRecDepth 100000
set_option maxHeartbeats 8000000
namespace Odj
open PySem L2
theorem cut_last (xs : List V) (x : V) : cutV (xs ++ [x]) none (some (-1)) = xs := by
  unfold cutV
  have e : HT.sIx (xs ++ [x]).length (xs ++ [x]).length (some (-1)) = xs.length := by
    rw [List.length_append, List.length_singleton]
    unfold HT.sIx
    simp only
    split <;> omega
  rw [e, HT.sIx_none]
  simp
theorem cutV_from (xs : List V) (k : Nat) : cutV xs (some (k : Int)) none = xs.drop k := by
  have h : cutL xs (some (k : Int)) none = xs.drop k := by simpa using cutL_from xs (k : Int) (by omega)
  exact h
def ringD (z : Int × List Int) : PyData := .tuple [.int z.1, .tuple (z.2.map .int)]
/-- a step or not, of a tie that there is -/
def spStepG : Sp := fun vs H Q _ => ∃ (S : List Addr) (many : Int) (ts : List Tie) (v : V) (x n : Int) (t : Tie), vs = [v, .int x, .int n] ∧ Rep S H (webD many (ts.map tieD)) v ∧ 0 ≤ n ∧ ts[n.toNat]? = some t ∧ ∀ H', Ext [] H H' → Q (.bl (decide (t.1 = x ∨ t.2.1 = x))) H'
structure LeftOk (ts : List Tie) (l : List Int) : Prop where
  nd : l.Nodup
  bd : ∀ k ∈ l, 0 ≤ k ∧ k < (ts.length : Int)
  ev : EvenSet ts l
def spWithin : Sp := fun vs H Q _ => ∃ (S : List Addr) (many : Int) (ts : List Tie) (v : V) (l : Addr) (left : List Int), vs = [v, .ref l] ∧ Rep S H (webD many (ts.map tieD)) v ∧ H l = some (.lst (left.map V.int)) ∧ WebFn many ts ∧ LeftOk ts left ∧ left ≠ [] ∧ left.length ≤ 200 ∧
  ∀ (x : Int) (r : List Int) (p q : Addr) (H' : Hp), H' p = some (.tup [.int x, .ref q]) → H' q = some (.tup (r.map V.int)) → RingOk ts x r → (∀ k ∈ r, k ∈ left) → Ext [] H H' → Q (.ref p) H'
def spRings : Sp := fun vs H Q _ => ∃ (S : List Addr) (many : Int) (ts : List Tie) (v u : V) (even : List Int), vs = [v, u] ∧ Rep S H (webD many (ts.map tieD)) v ∧ Rep S H (.tuple (even.map .int)) u ∧ WebFn many ts ∧ LeftOk ts even ∧ even.length ≤ 200 ∧
  ∀ (rr : List (Int × List Int)) (u' : V) (H' : Hp), (∀ S', Rep S' H' (.tuple (rr.map ringD)) u') → (∀ z ∈ rr, RingOk ts z.1 z.2) → (rr.flatMap (·.2)).Perm even → Ext [] H H' → Q u' H'
theorem WebFn.unlike {many : Int} {ts : List Tie} (w : WebFn many ts) : ∀ t ∈ ts, t.1 ≠ t.2.1 := fun t ht => by
  have := (w.ok t ht).ab
  omega
theorem tie_ex {ts : List Tie} {n : Int} (h0 : 0 ≤ n) (h1 : n < (ts.length : Int)) : ∃ t, ts[n.toNat]? = some t := ⟨ts[n.toNat]'(by omega), by simp⟩
theorem first_at {M : Int} : ∀ {l : List Int}, M ∈ l → ∃ j : Nat, l[j]? = some M ∧ ∀ i, i < j → l[i]? ≠ some M
  | [], h => by cases h
  | a :: l, h => by
    by_cases e : a = M
    · exact ⟨0, by simp [e], fun i hi => by omega⟩
    · have h' : M ∈ l := by
        rcases List.mem_cons.mp h with z | z
        · exact absurd z.symm e
        · exact z
      obtain ⟨j, h1, h2⟩ := first_at h'
      refine ⟨j + 1, by simpa using h1, fun i hi => ?_⟩
      cases i with
      | zero => simpa using e
      | succ i => simpa using h2 i (by omega)
section
variable {P : Program} {w : World} {K : PySem.W.Frag} {mg : Str → Option Value} {base : Heap} {f : Addr} {fd : FuncData}
theorem d_is_stepG (F : Fun K "is_step" "is_step" (top 9) f fd) (hm : mg "is_step" = some (.ref f)) (D_is_tie_number : DefOk P w K mg base 5 "is_tie_number" ["web", "thing"] spTieNo) : DefOk P w K mg base 6 "is_step" ["web", "place", "thing"] spStepG := by
  refine ⟨f, fd, ?_, hm, F.kp, F.binds fun _ _ _ _ _ _ us hl => match us, hl with | [_, _, _], _ => rfl⟩
  have sc : FnScope ["web", "place", "thing"] ["web", "place", "thing"] (defScope (top 9)) := ⟨rfl, rfl, rfl, by decide +kernel, rfl, by decide +kernel, by decide +kernel⟩
  refine F.okQ sc (fun vs H Q E h => ?_) (fun cdv A outer s H vs Q E hr h => ?_)
  · obtain ⟨S, many, ts, v, x, n, t, rfl, _⟩ := h
    rfl
  · obtain ⟨S, many, ts, v, x, n, t, rfl, rw0, h0, ht, q⟩ := h
    obtain ⟨wa, wt, txs, rfl, ha, hb, rt⟩ := web_of rw0
    have hxl := rt.length
    rw [List.length_map] at hxl
    have hl := (List.getElem?_eq_some_iff.mp ht).1
    obtain ⟨p, e3, e4, e5⟩ := tie_there rt h0 ht
    refine ⟨_, (qss_one (qs_ret (qe_and (qe_callD D_is_tie_number (hr.mono (by decide)) (qa_c (qv 0) (qa_c (qv 2) qa_nil))) (qe_one (qe_cmpR (inK K) (qv 1) (qe_slice (slT K) (qe_ix (ixT K) (qe_ix (ixT K) (qv 0) qe_int (fun _ _ => rfl)) (qv 2) (fun _ _ => rfl)) qo_none (qo_some qe_int)) rfl))))), ?_⟩
    refine ⟨_, rfl, _, rfl, S, .int n, _, many, ts.map tieD, _, rfl, rw0, .int _, fun H1 x1 => ⟨_, rfl, ?_⟩⟩
    rw [if_pos (tieNo_in (by omega) (by rw [List.length_map]; omega))]
    refine ⟨_, rfl, _, rfl, wa, _, 1, _, rfl, rfl, SqT.of (x1.tup _ _ ha), rfl, _, rfl, wt, txs, n, _, rfl, rfl, SqT.of (x1.tup _ _ hb), e3, 2, rfl, sl_rep (e4.ext (x1.mono (by simp))) fun v2 H2 x2 r2 => ?_⟩
    rw [cutL_to _ 2 (by decide)] at r2
    obtain ⟨b, hbv, hbb⟩ := rep_ints (ns := [t.1, t.2.1]) r2
    subst hbv
    refine ⟨b, _, rfl, .inr (SqT.of hbb), rfl, flat_ints _, ?_⟩
    rw [if_neg Bool.false_ne_true, inV_ints]
    have e : decide (x ∈ [t.1, t.2.1]) = decide (t.1 = x ∨ t.2.1 = x) := by
      have : x ∈ [t.1, t.2.1] ↔ (t.1 = x ∨ t.2.1 = x) := by
        simp only [List.mem_cons, List.not_mem_nil, or_false]
        exact ⟨fun z => z.imp Eq.symm Eq.symm, fun z => z.imp Eq.symm Eq.symm⟩
      by_cases c : t.1 = x ∨ t.2.1 = x
      · rw [decide_eq_true c, decide_eq_true (this.mpr c)]
      · rw [decide_eq_false c, decide_eq_false fun z => c (this.mp z)]
    rw [e]
    exact q H2 (x1.trans x2)
theorem d_ring_within (F : Fun K "ring_within" "ring_within" (top 12) f fd) (hm : mg "ring_within" = some (.ref f)) (B : Bt mg) (D_is_step : DefOk P w K mg base 6 "is_step" ["web", "place", "thing"] spStepG) (D_other_end : DefOk P w K mg base 1 "other_end" ["tie", "place"] spOther) : DefOk P w K mg base 7 "ring_within" ["web", "left"] spWithin := by
  refine ⟨f, fd, ?_, hm, F.kp, F.binds fun _ _ _ _ _ _ us hl => match us, hl with | [_, _], _ => rfl⟩
  have sc : FnScope ["web", "left", "places", "row", "step", "begin"] ["web", "left"] (defScope (top 12)) := ⟨rfl, rfl, rfl, by decide +kernel, rfl, by decide +kernel, by decide +kernel⟩
  refine F.okQ sc (fun vs H Q E h => ?_) (fun cdv A outer s H vs Q E hr h => ?_)
  · obtain ⟨S, many, ts, v, l, left, rfl, _⟩ := h
    rfl
  · obtain ⟨S, many, ts, v, l, left, rfl, rw0, hL, wf, lo, lne, ll, q⟩ := h
    have hsz : sizeLine = 16777216 := by decide
    obtain ⟨wa, wt, txs, rfl, ha, hb, rt⟩ := web_of rw0
    have hxl := rt.length
    rw [List.length_map] at hxl
    cases left with
    | nil => exact absurd rfl lne
    | cons l0 lr =>
    have b0 := lo.bd l0 (List.mem_cons_self ..)
    obtain ⟨t0, p0, ht1, ht2, ht3, ht4, ht5⟩ := tie_at rt b0.1 b0.2
    refine ⟨_, (qss_cons (qs_set (i := 2) sc.nd rfl (Or.inr rfl) (qe_lst (qa_c (qe_ix (ixT K) (qe_ix (ixT K) (qe_ix (ixT K) (qv 0) qe_int (fun _ _ => rfl)) (qe_ix (ixL K) (qv 1) qe_int (fun _ _ => rfl)) (fun _ _ => rfl)) qe_int (fun _ _ => rfl)) qa_nil)))
      (qss_cons (qs_set (i := 3) sc.nd rfl (Or.inr rfl) (qe_lst qa_nil))
      (qss_cons (qs_whileM PassesOwn.never (qt_cmpR (ninK K) (qe_ix (ixL K) (qv 2) (qe_un un_neg qe_int) (fun _ _ => rfl)) (qe_slice (slL K) (qv 2) qo_none (qo_some (qe_un un_neg qe_int))) rfl) (qss_cons (qs_set (i := 4) sc.nd rfl (Or.inl rfl) (qe_ix (ixL K) (qe_comp (N := ["number", "row", "web", "places"]) (mp := [none, some 3, some 0, some 2]) rfl (qi_listK K (qv 1)) rfl (by show compOk ["web", "left", "places", "row", "step", "begin"] (defScope (top 12)) _ _ _ = true; decide +kernel) fun _ _ _ _ _ => ⟨(qg_name (i := 0) (by show List.Nodup [("number" : Str), ("row" : Str), ("web" : Str), ("places" : Str)]; decide +kernel) rfl (Or.inl rfl)), (qk_one (QW.pt (qw_and (qt_cmpR (ninK K) (qv 0) (qv 1) rfl) (qw_and1 (qt_val (qe_callD D_is_step (hr.mono (by decide)) (qa_c (qv 2) (qa_c (qe_ix (ixL K) (qv 3) (qe_un un_neg qe_int) (fun _ _ => rfl)) (qa_c (qv 0) qa_nil))))))))), (qv 0)⟩) qe_int (fun _ _ => rfl)))
      (qss_cons (qs_expr (qe_bmK K PySem.F.plainAttrs_list PySem.F.slot_list_append PySem.F.type_list_append mt_append (qv 3) (qa_c (qv 4) qa_nil)))
      (qss_one (qs_expr (qe_bmK K PySem.F.plainAttrs_list PySem.F.slot_list_append PySem.F.type_list_append mt_append (qv 2) (qa_c (qe_callD D_other_end (hr.mono (by decide)) (qa_c (qe_ix (ixT K) (qe_ix (ixT K) (qv 0) qe_int (fun _ _ => rfl)) (qv 4) (fun _ _ => rfl)) (qa_c (qe_ix (ixL K) (qv 2) (qe_un un_neg qe_int) (fun _ _ => rfl)) qa_nil))) qa_nil)))))))
      (qss_cons (qs_set (i := 5) sc.nd rfl (Or.inl rfl) (qe_bmK K PySem.F.plainAttrs_list PySem.F.slot_list_index PySem.F.type_list_index mt_indexL (qv 2) (qa_c (qe_ix (ixL K) (qv 2) (qe_un un_neg qe_int) (fun _ _ => rfl)) qa_nil)))
      (qss_one (qs_ret (qe_tup (qa_c (qe_ix (ixL K) (qv 2) (qe_un un_neg qe_int) (fun _ _ => rfl)) (qa_c (qe_callTy (tupleK K) (by rfl) B.tuple (by decide +kernel) (qa_c (qe_slice (slL K) (qv 3) (qo_some (qv 5)) qo_none) qa_nil)) qa_nil))))))))), ?_⟩
    refine ⟨_, rfl, wa, _, 1, _, rfl, rfl, SqT.of ha, rfl, _, rfl, l, _, 0, _, rfl, rfl, SqL.of hL, atI_nat (j := 0) rfl, wt, txs, l0, _, rfl, rfl, SqT.of hb, ht3, p0, _, 0, _, rfl, rfl, SqT.of ht5, rfl, by show 1 ≤ sizeLine; decide, fun lp hlp => ⟨Nat.zero_le _, fun lw hlw => ?_⟩⟩
    have hne : lp ≠ lw := fun z => by rw [← z, upd_same] at hlw; cases hlw
    have hlw2 : H lw = none := by rw [upd_ne hne.symm] at hlw; exact hlw
    have x0 : Ext [] H (upd (upd H lp (.lst [.int t0.1])) lw (.lst [])) := (Ext.new hlp).trans (.new hlw)
    have hp0 : (upd (upd H lp (.lst [.int t0.1])) lw (.lst [])) lp = some (.lst ((([] : List Int) ++ [t0.1]).map V.int)) := by rw [upd_ne hne, upd_same]; rfl
    have hw0 : (upd (upd H lp (.lst [.int t0.1])) lw (.lst [])) lw = some (.lst (([] : List Int).map V.int)) := by rw [upd_same]; rfl
    generalize upd (upd H lp (.lst [.int t0.1])) lw (.lst []) = J0 at x0 hp0 hw0 ⊢
    refine while_m (D := { nx := _, rt := Q }) (fun σ' H' => ∃ (ps rs : List Int) (y : Int) (s4 : Option V), σ' = [some (.ref wa), some (.ref l), some (.ref lp), some (.ref lw), s4, none] ∧ H' lp = some (.lst ((ps ++ [y]).map V.int)) ∧ H' lw = some (.lst (rs.map V.int)) ∧ Walk ts t0.1 rs y ∧ pathOf ts t0.1 rs = ps ++ [y] ∧ rs.Nodup ∧ (∀ k ∈ rs, k ∈ l0 :: lr) ∧ ps.Nodup ∧ Ext [] H H')
      (fun σ' H' => 201 - (match H' lw with | some (.lst xs) => xs.length | _ => 0)) ⟨[], [], t0.1, none, rfl, hp0, hw0, rfl, rfl, List.nodup_nil, by simp, List.nodup_nil, x0⟩ ?_
    rintro σ' H1 ⟨ps, rs, y, s4, rfl, hP, hW, hwk, hpa, rnd, rsub, pnd, x1⟩
    have hpl : ps.length = rs.length := by
      have := congrArg List.length hpa
      rw [path_len] at this
      simpa using this.symm
    have rll : rs.length ≤ (l0 :: lr).length := by
      have := (left_perm lo.nd rnd rsub).length_eq
      rw [List.length_append] at this
      omega
    have hP' : H1 lp = some (.lst (ps.map V.int ++ [.int y])) := by rw [hP, List.map_append]; rfl
    refine ⟨_, rfl, 1, rfl, lp, _, -1, _, rfl, rfl, SqL.of hP', atI_last _ _, _, rfl, 1, rfl, _, rfl, lp, _, rfl, SqL.of hP', fun ls hls => ?_⟩
    rw [cut_last]
    have x2 : Ext [] H1 (upd H1 ls (.lst (ps.map V.int))) := .new hls
    have h2 : (upd H1 ls (.lst (ps.map V.int))) ls = some (.lst (ps.map V.int)) := upd_same
    generalize upd H1 ls (.lst (ps.map V.int)) = H2 at x2 h2 ⊢
    have y2 := x1.trans x2
    have hP2 := x2.keep _ _ (by simp) hP'
    have hW2 := x2.keep _ _ (by simp) hW
    refine ⟨ls, _, rfl, .inl (SqL.of h2), rfl, flat_ints _, _, rfl, ?_⟩
    rw [if_pos rfl, inV_ints]
    by_cases hy : y ∈ ps
    · rw [decide_eq_true hy]
      -- the end
      obtain ⟨j, hj, hfirst⟩ := first_at hy
      have hjl : j < ps.length := (List.getElem?_eq_some_iff.mp hj).1
      have ring := ring_end wf.unlike rnd hwk hpa pnd hj
      have hPi : H2 lp = some (.lst ((ps ++ [y]).map V.int)) := by rw [hP2, List.map_append]; rfl
      refine ⟨_, rfl, .inl ⟨rfl, _, SqL.of hP2⟩, _, rfl, 1, rfl, lp, _, -1, _, rfl, rfl, SqL.of hP2, atI_last _ _, lp, ps ++ [y], y, j, rfl, rfl, hPi, by rw [List.getElem?_append_left hjl]; exact hj, fun i hi z => ?_, ?_⟩
      · rw [List.getElem?_append_left (by omega)] at z
        exact hfirst i hi z
      refine ⟨_, rfl, 1, rfl, lp, _, -1, _, rfl, rfl, SqL.of hP2, atI_last _ _, _, rfl, _, rfl, _, rfl, lw, _, rfl, SqL.of hW2, fun lr2 hlr2 => ?_⟩
      rw [cutV_from, ← List.map_drop]
      refine ⟨lr2, _, rfl, .inl ⟨SqL.of upd_same, fun pt hpt => ⟨by show 2 ≤ sizeLine; decide, fun pr hpr => ?_⟩⟩⟩
      have x3 : Ext [] H2 (upd H2 lr2 (.lst ((rs.drop j).map V.int))) := .new hlr2
      generalize upd H2 lr2 (.lst ((rs.drop j).map V.int)) = H3 at x3 hpt hpr ⊢
      have x4 : Ext [] H3 (upd H3 pt (.tup ((rs.drop j).map V.int))) := .new hpt
      have h4 : (upd H3 pt (.tup ((rs.drop j).map V.int))) pt = some (.tup ((rs.drop j).map V.int)) := upd_same
      generalize upd H3 pt (.tup ((rs.drop j).map V.int)) = H4 at x4 h4 hpr ⊢
      have x5 : Ext [] H4 (upd H4 pr (.tup [.int y, .ref pt])) := .new hpr
      exact q y (rs.drop j) pr pt _ upd_same (x5.tup _ _ h4) ring (fun k hk => rsub k (List.mem_of_mem_drop hk)) (((y2.trans x3).trans x4).trans x5)
    · rw [decide_eq_false hy]
      -- on
      have hL2 := y2.keep _ _ (by simp) hL
      refine ⟨_, rfl, l, rfl, ⟨_, SqL.of hL2⟩, comp_list (K := K) (a := l) (xs := (l0 :: lr).map V.int) (fun i ys σ' H3 => (∃ y, σ' = [y, some (.ref lw), some (.ref wa), some (.ref lp)]) ∧ Ext [] H2 H3 ∧ ∃ ms : List Int, ys = ms.map V.int ∧ ms.length ≤ i ∧ (∀ k ∈ ms, k ∈ l0 :: lr ∧ k ∉ rs ∧ ∃ t, ts[k.toNat]? = some t ∧ (t.1 = y ∨ t.2.1 = y)) ∧ ∀ k ∈ (l0 :: lr).take i, k ∉ rs → ∀ t, ts[k.toNat]? = some t → (t.1 = y ∨ t.2.1 = y) → k ∈ ms)
        ⟨⟨none, rfl⟩, .refl _ _, [], rfl, Nat.le_refl _, by simp, by simp⟩ (fun i ys σ' H3 e => SqL.of (e.2.1.keep _ _ (by simp) hL2)) ?_ ?_⟩
      · rintro i x ys σ' H3 hx ⟨⟨z, rfl⟩, x3, ms, rfl, hml, hm1, hm2⟩
        obtain ⟨k, hk, rfl⟩ := int_nth hx
        have hkm : k ∈ l0 :: lr := List.mem_of_getElem? hk
        have hil : i < (l0 :: lr).length := (List.getElem?_eq_some_iff.mp hk).1
        have bk := lo.bd k hkm
        obtain ⟨t, ht⟩ := tie_ex bk.1 bk.2
        have htk : (l0 :: lr).take (i + 1) = (l0 :: lr).take i ++ [k] := by rw [List.take_add_one, hk]; rfl
        refine ⟨by rw [List.length_map]; omega, _, rfl, _, rfl, lw, _, rfl, .inl (SqL.of (x3.keep _ _ (by simp) hW2)), rfl, flat_ints _, _, rfl, ?_⟩
        rw [if_pos rfl, inV_ints]
        by_cases hkr : k ∈ rs
        · rw [decide_eq_true hkr]
          refine ⟨⟨_, rfl⟩, x3, ms, rfl, by omega, hm1, fun k' hk' hn t' ht' hy' => ?_⟩
          rw [htk] at hk'
          rcases List.mem_append.mp hk' with c | c
          · exact hm2 k' c hn t' ht' hy'
          · have : k' = k := by simpa using c
            exact absurd (this ▸ hkr) hn
        · rw [decide_eq_false hkr]
          refine ⟨_, rfl, _, rfl, 1, rfl, lp, _, -1, _, rfl, rfl, SqL.of (x3.keep _ _ (by simp) hP2), atI_last _ _, _, rfl, S, many, ts, _, y, k, t, rfl, rw0.ext ((y2.trans x3).mono (by simp)), bk.1, ht, fun H4 x4 => ⟨_, rfl, ?_⟩⟩
          refine ite2 (fun hc => ?_) (fun hc => ?_)
          · have hc' := of_decide_eq_true hc
            refine ⟨_, rfl, ⟨_, rfl⟩, x3.trans x4, ms ++ [k], by simp, by simp; omega, fun k' hk' => ?_, fun k' hk' hn t' ht' hy' => ?_⟩
            · rcases List.mem_append.mp hk' with c | c
              · exact hm1 k' c
              · have : k' = k := by simpa using c
                subst this
                exact ⟨hkm, hkr, t, ht, hc'⟩
            · rw [htk] at hk'
              rcases List.mem_append.mp hk' with c | c
              · exact List.mem_append_left _ (hm2 k' c hn t' ht' hy')
              · exact List.mem_append_right _ c
          · have hc' : ¬ (t.1 = y ∨ t.2.1 = y) := fun z => hc (decide_eq_true z)
            refine ⟨⟨_, rfl⟩, x3.trans x4, ms, rfl, by omega, hm1, fun k' hk' hn t' ht' hy' => ?_⟩
            rw [htk] at hk'
            rcases List.mem_append.mp hk' with c | c
            · exact hm2 k' c hn t' ht' hy'
            · have : k' = k := by simpa using c
              subst this
              rw [ht] at ht'
              cases ht'
              exact absurd hy' hc'
      rintro ys σ' H3 ⟨⟨z, rfl⟩, x3, ms, rfl, hml, hm1, hm2⟩
      rw [List.take_of_length_le (by rw [List.length_map]; exact Nat.le_refl _)] at hm2
      obtain ⟨n, t, hn1, hn2, hn3, hn4⟩ := go_on lo.nd rnd rsub lo.ev hwk hpa hy (fun e => ⟨l0, t0, List.mem_cons_self .., ht1, .inl (by subst e; exact hwk)⟩)
      have hmem := hm2 n hn1 hn2 t hn3 hn4
      cases ms with
      | nil => cases hmem
      | cons m mr =>
      obtain ⟨hm3, hm4, tm, hm5, hm6⟩ := hm1 m (List.mem_cons_self ..)
      have bm := lo.bd m hm3
      rw [List.length_map] at hml
      refine ⟨by rw [List.length_map]; omega, fun D hD => ⟨D, _, 0, _, rfl, rfl, SqL.of upd_same, atI_nat (j := 0) rfl, ?_⟩⟩
      have x4 : Ext [] H2 (upd H3 D (.lst ((m :: mr).map V.int))) := x3.trans (.new hD)
      generalize upd H3 D (.lst ((m :: mr).map V.int)) = H4 at x4 ⊢
      have hW4 := x4.keep _ _ (by simp) hW2
      have hP4 := x4.keep _ _ (by simp) hP2
      have y4 := y2.trans x4
      refine ⟨_, rfl, .inl ⟨rfl, _, SqL.of hW4⟩, _, rfl, lw, _, _, rfl, rfl, hW4, by rw [List.length_map]; omega, ?_⟩
      have hsw : (rs.map V.int ++ [.int m]) = (rs ++ [m]).map V.int := by simp
      rw [hsw]
      have y5 : Ext [] H (upd H4 lw (.lst ((rs ++ [m]).map V.int))) := y4.set' hlw2 hW4
      have hW5 : (upd H4 lw (.lst ((rs ++ [m]).map V.int))) lw = some (.lst ((rs ++ [m]).map V.int)) := upd_same
      have hP5 : (upd H4 lw (.lst ((rs ++ [m]).map V.int))) lp = some (.lst (ps.map V.int ++ [.int y])) := by rw [upd_ne hne]; exact hP4
      generalize upd H4 lw (.lst ((rs ++ [m]).map V.int)) = H5 at y5 hW5 hP5 ⊢
      obtain ⟨pm, e3, e4, e5⟩ := tie_there (rt.ext (y5.mono (S' := S) (by simp))) bm.1 hm5
      refine ⟨_, rfl, .inl ⟨rfl, _, SqL.of hP5⟩, _, rfl, wa, _, 1, _, rfl, rfl, SqT.of (y5.tup _ _ ha), rfl, _, rfl, wt, txs, m, _, rfl, rfl, SqT.of (y5.tup _ _ hb), e3, _, rfl, 1, rfl, lp, _, -1, _, rfl, rfl, SqL.of hP5, atI_last _ _, S, tm, _, y, rfl, e4, lp, _, _, rfl, rfl, hP5, by rw [List.length_append, List.length_map]; show ps.length + 1 < sizeLine; omega, ?_⟩
      have est : stepTo ts y m = otherEnd tm y := by unfold stepTo; rw [hm5]
      refine ⟨⟨ps ++ [y], rs ++ [m], otherEnd tm y, _, rfl, ?_, ?_, walk_snoc hwk bm.1 hm5 hm6, ?_, ?_, ?_, ?_, y5.set' hlp hP5⟩, ?_⟩
      · rw [upd_same]
        simp
      · rw [upd_ne hne.symm]
        exact hW5
      · rw [path_snoc ts m rs _ _ hwk, hpa, est]
      · rw [List.nodup_append]
        exact ⟨rnd, by simp, fun a ha b hb e => hm4 ((show b = m by simpa using hb) ▸ e ▸ ha)⟩
      · intro k hk
        rcases List.mem_append.mp hk with c | c
        · exact rsub k c
        · have : k = m := by simpa using c
          rw [this]
          exact hm3
      · rw [List.nodup_append]
        exact ⟨pnd, by simp, fun a ha b hb e => hy ((show b = y by simpa using hb) ▸ e ▸ ha)⟩
      · show (201 - (match (upd H5 lp _) lw with | some (.lst xs) => xs.length | _ => 0)) < 201 - (match H1 lw with | some (.lst xs) => xs.length | _ => 0)
        rw [upd_ne hne.symm, hW5, hW]
        show 201 - ((rs ++ [m]).map V.int).length < 201 - (rs.map V.int).length
        rw [List.length_map, List.length_map, List.length_append, List.length_singleton]
        omega
end
end Odj

set_option Elab.async false
set_option linter.all false
set_option maxRecDepth 100000
set_option maxHeartbeats 8000000
namespace Odj
open PySem L2
theorem anyReps {S : List Addr} {H H' : Hp} {ds : List PyData} {xs : List V} (h : ∀ S', Reps S' H ds xs) (x : Ext S H H') : ∀ S', Reps S' H' ds xs := fun S' => ((h (S' ++ S)).ext (x.mono fun b hb => List.mem_append_right _ hb)).less fun b hb => List.mem_append_left _ hb
theorem whole_int {lo hi i : Int} (h0 : lo ≤ i) (h1 : i ≤ hi) : wholeD lo hi (.int i) = true := by simp [wholeD, h0, h1]
def spIsRing : Sp := fun vs H Q _ => ∃ (S : List Addr) (many : Int) (ts : List Tie) (v u : V) (x : Int) (r : List Int), vs = [v, u] ∧ Rep S H (webD many (ts.map tieD)) v ∧ Rep S H (ringD (x, r)) u ∧ WebFn many ts ∧ RingOk ts x r ∧ r.length ≤ 200 ∧ ∀ H', Ext [] H H' → Q (.bl true) H'
theorem ring_of {S : List Addr} {H : Hp} {x : Int} {r : List Int} {u : V} (h : Rep S H (ringD (x, r)) u) : ∃ p q, u = .ref p ∧ H p = some (.tup [.int x, .ref q]) ∧ H q = some (.tup (r.map V.int)) := by
  obtain ⟨p, xs, e, hp, rr⟩ := Rep.of_tup h
  obtain ⟨y1, r1, z1, q1, w1⟩ := rr.of_cons
  obtain ⟨y2, r2, z2, q2, w2⟩ := w1.of_cons
  have z3 := w2.of_nil
  have o1 := q1.of_int
  obtain ⟨q, o2, hq⟩ := rep_ints q2
  subst z1 z2 z3 o1 o2
  exact ⟨p, q, e, hp, hq⟩
section
variable {P : Program} {w : World} {K : PySem.W.Frag} {mg : Str → Option Value} {base : Heap} {f : Addr} {fd : FuncData}
theorem d_rings_of (F : Fun K "rings_of" "rings_of" (top 11) f fd) (hm : mg "rings_of" = some (.ref f)) (B : Bt mg) (B3 : Bt3 mg) (D_ring_within : DefOk P w K mg base 7 "ring_within" ["web", "left"] spWithin) : DefOk P w K mg base 8 "rings_of" ["web", "even"] spRings := by
  refine ⟨f, fd, ?_, hm, F.kp, F.binds fun _ _ _ _ _ _ us hl => match us, hl with | [_, _], _ => rfl⟩
  have sc : FnScope ["web", "even", "rings", "left", "ring"] ["web", "even"] (defScope (top 11)) := ⟨rfl, rfl, rfl, by decide +kernel, rfl, by decide +kernel, by decide +kernel⟩
  refine F.okQ sc (fun vs H Q E h => ?_) (fun cdv A outer s H vs Q E hr h => ?_)
  · obtain ⟨S, many, ts, v, u, even, rfl, _⟩ := h
    rfl
  · obtain ⟨S, many, ts, v, u, even, rfl, rw0, ru, wf, lok, el, q⟩ := h
    have hsz : sizeLine = 16777216 := by decide
    obtain ⟨ua, rfl, hua⟩ := rep_ints ru
    refine ⟨_, (qss_cons (qs_set (i := 2) sc.nd rfl (Or.inl rfl) (qe_lst qa_nil))
      (qss_cons (qs_set (i := 3) sc.nd rfl (Or.inl rfl) (qe_callTy (listK K) (by rfl) B3.list (by decide +kernel) (qa_c (qv 1) qa_nil)))
      (qss_cons (qs_whileM PassesOwn.never (qt_cmpR op_gt (qe_callB (lenK K) (by rfl) B.len (by decide +kernel) (qa_c (qv 3) qa_nil)) qe_int (nomark _)) (qss_cons (qs_set (i := 4) sc.nd rfl (Or.inr rfl) (qe_callD D_ring_within (hr.mono (by decide)) (qa_c (qv 0) (qa_c (qv 3) qa_nil))))
      (qss_cons (qs_expr (qe_bmK K PySem.F.plainAttrs_list PySem.F.slot_list_append PySem.F.type_list_append mt_append (qv 2) (qa_c (qv 4) qa_nil)))
      (qss_one (qs_comp (i := 3) sc.nd rfl rfl (N := ["number", "ring"]) (mp := [none, some 4]) rfl (qi_listK K (qv 3)) rfl (by show compOk ["web", "even", "rings", "left", "ring"] (defScope (top 11)) _ _ _ = true; decide +kernel) fun _ _ _ _ _ => ⟨(qg_name (i := 0) (by show List.Nodup [("number" : Str), ("ring" : Str)]; decide +kernel) rfl (Or.inl rfl)), (qk_one (qt_cmpR (ninK K) (qv 0) (qe_ix (ixT K) (qv 1) qe_int (fun _ _ => rfl)) rfl)), (qv 0)⟩)))))
      (qss_one (qs_ret (qe_callTy (tupleK K) (by rfl) B.tuple (by decide +kernel) (qa_c (qv 2) qa_nil))))))), ?_⟩
    refine ⟨Nat.zero_le _, fun lg hlg => ⟨_, rfl, ua, _, rfl, .inr (SqT.of ((Ext.new (S := []) hlg).tup _ _ hua)), fun l0 hl0 => ?_⟩⟩
    have hne0 : lg ≠ l0 := fun z => by rw [← z, upd_same] at hl0; cases hl0
    have x0 : Ext [] H (upd (upd H lg (.lst [])) l0 (.lst (even.map V.int))) := (Ext.new hlg).trans (.new hl0)
    have hg0 : (upd (upd H lg (.lst [])) l0 (.lst (even.map V.int))) lg = some (.lst []) := by rw [upd_ne hne0, upd_same]
    have hl0' : (upd (upd H lg (.lst [])) l0 (.lst (even.map V.int))) l0 = some (.lst (even.map V.int)) := upd_same
    generalize upd (upd H lg (.lst [])) l0 (.lst (even.map V.int)) = J0 at x0 hg0 hl0' ⊢
    refine while_m (D := { nx := _, rt := Q }) (fun σ' H' => ∃ (rr : List (Int × List Int)) (L : List Int) (l : Addr) (xs : List V) (s4 : Option V), σ' = [some v, some (.ref ua), some (.ref lg), some (.ref l), s4] ∧ H' lg = some (.lst xs) ∧ (∀ S', Reps S' H' (rr.map ringD) xs) ∧ H' l = some (.lst (L.map V.int)) ∧ l ≠ lg ∧ LeftOk ts L ∧ (∀ z ∈ rr, RingOk ts z.1 z.2) ∧ ((rr.flatMap (·.2)) ++ L).Perm even ∧ rr.length + L.length ≤ even.length ∧ Ext [] H H')
      (fun (σ' : St) (H' : Hp) => match σ'[3]? with | some (some (V.ref l)) => (match H' l with | some (HO.lst xs) => xs.length | _ => 0) | _ => 0) ⟨[], even, l0, [], none, rfl, hg0, fun _ => .nil, hl0', hne0.symm, lok, by simp, by simp, by simp, x0⟩ ?_
    rintro σ' H1 ⟨rr, L, l, xs, s4, rfl, hG, rx, hL, hne, lo, ring, per, len, x1⟩
    have xl : xs.length = rr.length := by have := (rx []).length; rw [List.length_map] at this; exact this
    refine ⟨_, rfl, l, _, rfl, .inl (SqL.of hL), _, _, rfl, rfl, _, rfl, ?_⟩
    cases L with
    | nil =>
      refine ite2 (fun z => absurd (of_decide_eq_true z) (by simp)) (fun _ => ?_)
      refine ⟨_, rfl, lg, _, rfl, .inl ⟨SqL.of hG, fun p hp => ?_⟩⟩
      refine q rr _ _ (fun S' => .tup upd_same (anyReps rx (Ext.new (S := []) hp) S')) ring (by simpa using per) (x1.trans (.new hp))
    | cons L0 Lr =>
      refine ite2 (fun _ => ?_) (fun z => absurd (decide_eq_true (by simp)) z)
      refine ⟨_, rfl, _, rfl, S, many, ts, _, l, L0 :: Lr, rfl, rw0.ext (x1.mono (by simp)), hL, wf, lo, by simp, by omega, fun x r p pq H2 hp hpq ringx sub x2 => ?_⟩
      have y2 := x1.trans x2
      have hG2 := x2.keep _ _ (by simp) hG
      have hL2 := x2.keep _ _ (by simp) hL
      have rx2 := anyReps rx x2
      refine ⟨_, rfl, .inl ⟨rfl, _, SqL.of hG2⟩, _, rfl, lg, _, _, rfl, rfl, hG2, by omega, ?_⟩
      have y3 : Ext [] H (upd H2 lg (.lst (xs ++ [.ref p]))) := y2.set' hlg hG2
      have z3 : Ext [lg] H2 (upd H2 lg (.lst (xs ++ [.ref p]))) := .set (by simp) hG2
      have hG3 : (upd H2 lg (.lst (xs ++ [.ref p]))) lg = some (.lst (xs ++ [.ref p])) := upd_same
      have hL3 : (upd H2 lg (.lst (xs ++ [.ref p]))) l = some (.lst ((L0 :: Lr).map V.int)) := by rw [upd_ne hne]; exact hL2
      have hp3 := z3.tup _ _ hp
      have hpq3 := z3.tup _ _ hpq
      have rx3 : ∀ S', Reps S' (upd H2 lg (.lst (xs ++ [.ref p]))) ((rr ++ [(x, r)]).map ringD) (xs ++ [.ref p]) := fun S' => by
        rw [List.map_append]
        exact (anyReps rx2 z3 S').append (.cons (.tup hp3 (.cons (.int _) (.cons (.tup hpq3 (.ints _)) .nil))) .nil)
      generalize upd H2 lg (.lst (xs ++ [.ref p])) = H3 at y3 z3 hG3 hL3 hp3 hpq3 rx3 ⊢
      refine ⟨_, rfl, l, rfl, ⟨_, SqL.of hL3⟩, comp_list (K := K) (a := l) (xs := (L0 :: Lr).map V.int) (fun i ys σ' H' => (∃ y, σ' = [y, some (.ref p)]) ∧ H' = H3 ∧ ys = (((L0 :: Lr).take i).filter fun k => decide (k ∉ r)).map V.int) ⟨⟨none, rfl⟩, rfl, rfl⟩
        (fun i ys σ' H' e => by rw [e.2.1]; exact SqL.of hL3) ?_ ?_⟩
      · rintro i y ys σ' H' hy ⟨⟨z, rfl⟩, rfl, rfl⟩
        obtain ⟨k, hk, rfl⟩ := int_nth hy
        have fl := List.length_filter_le (fun k => decide (k ∉ r)) ((L0 :: Lr).take i)
        rw [List.length_take] at fl
        refine ⟨by rw [List.length_map]; omega, _, rfl, _, rfl, p, _, 1, _, rfl, rfl, SqT.of hp3, rfl, pq, _, rfl, .inr (SqT.of hpq3), rfl, flat_ints _, _, rfl, ?_⟩
        rw [if_pos rfl, inV_ints]
        have en : (!decide (k ∈ r)) = decide (k ∉ r) := by by_cases c : k ∈ r <;> simp [c]
        rw [en]
        refine ite2 (fun hc => ⟨_, rfl, ⟨_, rfl⟩, rfl, ?_⟩) (fun hc => ⟨⟨_, rfl⟩, rfl, ?_⟩)
        · rw [filter_snoc _ _ _ hk, if_pos hc, List.map_append]
          rfl
        · rw [filter_snoc _ _ _ hk, if_neg hc, List.append_nil]
      · rintro ys σ' H' ⟨⟨z, rfl⟩, rfl, rfl⟩
        have fl := List.length_filter_le (fun k => decide (k ∉ r)) (L0 :: Lr)
        rw [List.take_of_length_le (by rw [List.length_map]; exact Nat.le_refl _)]
        have pm := left_perm lo.nd ringx.nd sub
        have pl := pm.length_eq
        rw [List.length_append] at pl
        have two := ringx.two
        refine ⟨by rw [List.length_map]; omega, fun l' hl' => ?_⟩
        have y4 : Ext [] H' (upd H' l' (.lst (((L0 :: Lr).filter fun k => decide (k ∉ r)).map V.int))) := .new hl'
        refine ⟨⟨rr ++ [(x, r)], (L0 :: Lr).filter fun k => decide (k ∉ r), l', _, _, rfl, y4.keep _ _ (by simp) hG3, anyReps rx3 y4, upd_same, (fun z => by rw [z, hG3] at hl'; cases hl'), ⟨lo.nd.filter _, fun k hk => lo.bd k (List.mem_filter.mp hk).1, left_even lo.nd ringx.nd sub lo.ev (walk_even ringx.walk)⟩, fun z hz => ?_, ?_, ?_, y3.trans y4⟩, ?_⟩
        · rcases List.mem_append.mp hz with c | c
          · exact ring z c
          · have : z = (x, r) := by simpa using c
            rw [this]
            exact ringx
        · rw [List.flatMap_append, List.append_assoc]
          refine .trans (List.Perm.append_left _ ?_) per
          simpa using pm
        · rw [List.length_append, List.length_singleton]
          omega
        · show (match (upd H' l' _) l' with | some (HO.lst xs) => xs.length | _ => 0) < (match H1 l with | some (HO.lst xs) => xs.length | _ => 0)
          rw [upd_same, hL]
          show (List.map V.int _).length < (List.map V.int _).length
          rw [List.length_map, List.length_map]
          omega
theorem d_law_is_ring (F : Fun K "_law_is_ring" "_law_is_ring" (top 22) f fd) (hm : mg "_law_is_ring" = some (.ref f)) (B : Bt mg) (B2 : Bt2 mg) (D_law_whole : DefOk P w K mg base 1 "_law_whole" ["_law_thing", "_law_least", "_law_most"] spWhole) (D_law_ahead : DefOk P w K mg base 1 "_law_ahead" ["_law_web_here", "_law_number", "_law_here"] spAhead) : DefOk P w K mg base 2 "_law_is_ring" ["_law_web_here", "_law_thing"] spIsRing := by
  refine ⟨f, fd, ?_, hm, F.kp, F.binds fun _ _ _ _ _ _ us hl => match us, hl with | [_, _], _ => rfl⟩
  have sc : FnScope ["_law_web_here", "_law_thing", "_law_here", "_law_met", "_law_k", "_law_number"] ["_law_web_here", "_law_thing"] (defScope (top 22)) := ⟨rfl, rfl, rfl, by decide +kernel, rfl, by decide +kernel, by decide +kernel⟩
  refine F.okQ sc (fun vs H Q E h => ?_) (fun cdv A outer s H vs Q E hr h => ?_)
  · obtain ⟨S, many, ts, v, u, x, r, rfl, _⟩ := h
    rfl
  · obtain ⟨S, many, ts, v, u, x, r, rfl, rw0, ru, wf, ring, rl, q⟩ := h
    have hsz : sizeLine = 16777216 := by decide
    obtain ⟨wa, wt, txs, rfl, ha, hb, rt⟩ := web_of rw0
    have hxl := rt.length
    rw [List.length_map] at hxl
    obtain ⟨p, pq, rfl, hp, hq⟩ := ring_of ru
    have rq : ∀ {H' : Hp}, Ext [] H H' → Rep S H' (.tuple (r.map .int)) (.ref pq) := fun x => .tup (x.tup _ _ hq) (.ints _)
    obtain ⟨t0, ht0, hx0⟩ := ring_at ring
    have o0 := wf.ok t0 ht0
    have xb : 0 ≤ x ∧ x < many := by
      have o1 := o0.a0
      have o2 := o0.ab
      have o3 := o0.bm
      rcases hx0 with z | z <;> omega
    have two := ring.two
    have bd := walk_in ring.walk
    refine ⟨_, (qss_cons (qs_if (QW.pt (qw_or (qt_not (qt_val (qe_callB (isiK K) (by rfl) B.isinstance (by decide +kernel) (qa_c (qv 1) (qa_c (qe_ty "tuple" (by rfl) B.tuple (by decide +kernel)) qa_nil))))) (qw_or (qt_cmpR op_ne (qe_callB (lenK K) (by rfl) B.len (by decide +kernel) (qa_c (qv 1) qa_nil)) qe_int (nomark _)) (qw_or1 (qt_not (qt_val (qe_callD D_law_whole (hr.mono (by decide)) (qa_c (qe_ix (ixT K) (qv 1) qe_int (fun _ _ => rfl)) (qa_c qe_int (qa_c (qe_op op_sub (qe_ix (ixT K) (qv 0) qe_int (fun _ _ => rfl)) qe_int) qa_nil)))))))))) (qss_one (qs_ret qe_bl)) qss_nil)
      (qss_cons (qs_if (QW.pt (qw_or (qt_not (qt_val (qe_callB (isiK K) (by rfl) B.isinstance (by decide +kernel) (qa_c (qe_ix (ixT K) (qv 1) qe_int (fun _ _ => rfl)) (qa_c (qe_ty "tuple" (by rfl) B.tuple (by decide +kernel)) qa_nil))))) (qw_or1 (qt_cmpR op_lt (qe_callB (lenK K) (by rfl) B.len (by decide +kernel) (qa_c (qe_ix (ixT K) (qv 1) qe_int (fun _ _ => rfl)) qa_nil)) qe_int (nomark _))))) (qss_one (qs_ret qe_bl)) qss_nil)
      (qss_cons (qs_set (i := 2) sc.nd rfl (Or.inl rfl) (qe_ix (ixT K) (qv 1) qe_int (fun _ _ => rfl)))
      (qss_cons (qs_set (i := 3) sc.nd rfl (Or.inl rfl) (qe_lst qa_nil))
      (qss_cons (qs_for PassesOwn.never rfl (qi_range1 (by rfl) B2.range (qa_c (qe_callB (lenK K) (by rfl) B.len (by decide +kernel) (qa_c (qe_ix (ixT K) (qv 1) qe_int (fun _ _ => rfl)) qa_nil)) qa_nil)) (qg_name (i := 4) sc.nd rfl (Or.inl rfl)) (qss_cons (qs_set (i := 5) sc.nd rfl (Or.inl rfl) (qe_ix (ixT K) (qe_ix (ixT K) (qv 1) qe_int (fun _ _ => rfl)) (qv 4) (fun _ _ => rfl)))
      (qss_cons (qs_if (QW.pt (qw_or (qt_not (qt_val (qe_callD D_law_whole (hr.mono (by decide)) (qa_c (qv 5) (qa_c qe_int (qa_c (qe_op op_sub (qe_callB (lenK K) (by rfl) B.len (by decide +kernel) (qa_c (qe_ix (ixT K) (qv 0) qe_int (fun _ _ => rfl)) qa_nil)) qe_int) qa_nil)))))) (qw_or (qt_cmpR (inK K) (qv 5) (qe_slice (slT K) (qe_ix (ixT K) (qv 1) qe_int (fun _ _ => rfl)) qo_none (qo_some (qv 4))) rfl) (qw_or1 (qt_cmpR (ninK K) (qv 2) (qe_slice (slT K) (qe_ix (ixT K) (qe_ix (ixT K) (qv 0) qe_int (fun _ _ => rfl)) (qv 5) (fun _ _ => rfl)) qo_none (qo_some qe_int)) rfl))))) (qss_one (qs_ret qe_bl)) qss_nil)
      (qss_cons (qs_set (i := 2) sc.nd rfl (Or.inl rfl) (qe_callD D_law_ahead (hr.mono (by decide)) (qa_c (qv 0) (qa_c (qv 5) (qa_c (qv 2) qa_nil)))))
      (qss_cons (qs_if (qt_cmpR (inK K) (qv 2) (qv 3) rfl) (qss_one (qs_ret qe_bl)) qss_nil)
      (qss_one (qs_expr (qe_bmK K PySem.F.plainAttrs_list PySem.F.slot_list_append PySem.F.type_list_append mt_append (qv 3) (qa_c (qv 2) qa_nil)))))))))
      (qss_one (qs_ret (qe_cmpR op_eq (qv 2) (qe_ix (ixT K) (qv 1) qe_int (fun _ _ => rfl)) (nomark _))))))))), ?_⟩
    refine ⟨_, rfl, _, _, _, _, rfl, ru.ty, kit3 _, _, rfl, iteF ⟨_, rfl, p, _, rfl, .inr (SqT.of hp), rfl, _, rfl, int_no rfl ⟨_, rfl, p, _, 0, _, rfl, rfl, SqT.of hp, rfl, _, rfl, wa, _, 0, _, rfl, rfl, SqT.of ha, rfl, _, _, rfl, rfl, S, .int x, _, 0, many - 1, rfl, .int x, _, rfl, ?_⟩⟩⟩
    rw [whole_int (by omega) (by omega)]
    refine ⟨_, rfl, p, _, 1, _, rfl, rfl, SqT.of hp, rfl, _, _, _, _, rfl, (rq (.refl _ _)).ty, kit3 _, _, rfl, iteF ⟨_, rfl, p, _, 1, _, rfl, rfl, SqT.of hp, rfl, pq, _, rfl, .inr (SqT.of hq), _, _, rfl, rfl, _, rfl, ite2 (fun z => absurd (of_decide_eq_true z) (by rw [List.length_map]; omega)) (fun _ => ?_)⟩⟩
    refine ⟨_, rfl, p, _, 0, _, rfl, rfl, SqT.of hp, rfl, Nat.zero_le _, fun lm hlm => ?_⟩
    have x0 : Ext [] H (upd H lm (.lst [])) := .new hlm
    have hm0 : (upd H lm (.lst [])) lm = some (.lst ((((pathOf ts x r).tail).take 0).map V.int)) := by rw [upd_same]; rfl
    generalize upd H lm (.lst []) = J0 at x0 hm0 ⊢
    refine ⟨_, rfl, p, _, 1, _, rfl, rfl, SqT.of (x0.tup _ _ hp), rfl, pq, _, rfl, .inr (SqT.of (x0.tup _ _ hq)), _, rfl, by rw [List.length_map]; omega, by rw [List.length_map]; omega, for_range (D := { nx := _, rt := Q }) (fun i σ' H' => (∃ (h : Int) (s4 s5 : Option V), σ' = [some (.ref wa), some (.ref p), some (.int h), some (.ref lm), s4, s5] ∧ Walk ts h (r.drop i) x ∧ pathOf ts h (r.drop i) = (pathOf ts x r).drop i) ∧ H' lm = some (.lst ((((pathOf ts x r).tail).take i).map V.int)) ∧ i ≤ r.length ∧ Ext [] H H')
      ⟨⟨x, none, none, rfl, ring.walk, rfl⟩, hm0, Nat.zero_le _, x0⟩ ?_ ?_⟩
    · rintro i σ' H1 hi ⟨⟨h, s4, s5, rfl, hwk, hpa⟩, hM, hir, x1⟩
      have hi' : i < r.length := by
        rw [List.length_map] at hi
        omega
      have hri : r[i]? = some r[i] := by simp [hi']
      have hdr : r.drop i = r[i] :: r.drop (i + 1) := List.drop_eq_getElem_cons hi'
      rw [hdr] at hwk hpa
      obtain ⟨t, n0, ht, hxt, hwn⟩ := hwk
      have est : stepTo ts h r[i] = otherEnd t h := by unfold stepTo; rw [ht]
      have hpa' : pathOf ts (otherEnd t h) (r.drop (i + 1)) = (pathOf ts x r).drop (i + 1) := by
        have := congrArg List.tail hpa
        rw [List.tail_drop] at this
        rw [← est]
        exact this
      have hb0 := bd r[i] (List.getElem_mem hi')
      -- the next place
      have hnx : ((pathOf ts x r).tail)[i]? = some (otherEnd t h) := by
        rw [← List.drop_one, List.getElem?_drop, Nat.add_comm]
        have : ((pathOf ts x r).drop (i + 1))[0]? = some (otherEnd t h) := by
          rw [← hpa']
          cases r.drop (i + 1) <;> rfl
        rw [List.getElem?_drop] at this
        exact this
      have hnm : otherEnd t h ∉ ((pathOf ts x r).tail).take i := by
        intro hc
        obtain ⟨j, hj⟩ := List.getElem?_of_mem hc
        have hji : j < i := by
          have := (List.getElem?_eq_some_iff.mp hj).1
          rw [List.length_take] at this
          omega
        rw [List.getElem?_take_of_lt hji] at hj
        have hjl := (List.getElem?_eq_some_iff.mp hj)
        have hil := (List.getElem?_eq_some_iff.mp hnx)
        have := (List.getElem_inj (h₀ := hjl.1) (h₁ := hil.1) ring.pl).mp (by rw [hjl.2, hil.2])
        omega
      have rt1 := rt.ext (x1.mono (S' := S) (by simp))
      have hr1 : atI (r.map V.int) (0 + (i : Int)) = some (.int r[i]) := by
        rw [Int.zero_add]
        exact atI_nat (by rw [List.getElem?_map, hri]; rfl)
      refine ⟨_, rfl, p, _, 1, _, rfl, rfl, SqT.of (x1.tup _ _ hp), rfl, _, rfl, pq, _, _, _, rfl, rfl, SqT.of (x1.tup _ _ hq), hr1, ?_⟩
      refine ⟨_, rfl, _, rfl, wa, _, 1, _, rfl, rfl, SqT.of (x1.tup _ _ ha), rfl, wt, txs, rfl, .inr (SqT.of (x1.tup _ _ hb)), _, _, rfl, rfl, S, .int r[i], _, 0, _, rfl, .int _, _, rfl, ?_⟩
      rw [whole_int (by omega) (by omega)]
      refine ⟨_, rfl, _, rfl, p, _, 1, _, rfl, rfl, SqT.of (x1.tup _ _ hp), rfl, _, rfl, _, rfl, sl_rep (rq x1) fun v2 H2 x2 r2 => ?_⟩
      rw [cutL_to _ _ (by omega), ← List.map_take] at r2
      obtain ⟨b2, rfl, hb2⟩ := rep_ints r2
      refine ⟨b2, _, rfl, .inr (SqT.of hb2), rfl, flat_ints _, _, rfl, ?_⟩
      have hnr : r[i] ∉ r.take (0 + (i : Int)).toNat := by
        rw [show (0 + (i : Int)).toNat = i by omega]
        intro hc
        obtain ⟨j, hj⟩ := List.getElem?_of_mem hc
        have hji : j < i := by
          have := (List.getElem?_eq_some_iff.mp hj).1
          rw [List.length_take] at this
          omega
        rw [List.getElem?_take_of_lt hji] at hj
        have hjl := (List.getElem?_eq_some_iff.mp hj)
        have := (List.getElem_inj (h₀ := hjl.1) (h₁ := hi') ring.nd).mp hjl.2
        omega
      rw [if_neg Bool.false_ne_true, inV_ints, decide_eq_false hnr]
      have y2 := x1.trans x2
      obtain ⟨pt, e3, e4, e5⟩ := tie_there (rt.ext (y2.mono (S' := S) (by simp))) n0 ht
      refine ⟨_, rfl, _, rfl, wa, _, 1, _, rfl, rfl, SqT.of (y2.tup _ _ ha), rfl, _, rfl, wt, txs, _, _, rfl, rfl, SqT.of (y2.tup _ _ hb), e3, 2, rfl, sl_rep e4 fun v3 H3 x3 r3 => ?_⟩
      rw [cutL_to _ 2 (by decide)] at r3
      obtain ⟨b3, hbv, hb3⟩ := rep_ints (ns := [t.1, t.2.1]) r3
      subst hbv
      refine ⟨b3, _, rfl, .inr (SqT.of hb3), rfl, flat_ints _, _, rfl, ?_⟩
      have hin : h ∈ [t.1, t.2.1] := by
        rcases hxt with z | z
        · rw [← z]; simp
        · rw [← z]; simp
      rw [if_pos rfl, inV_ints, decide_eq_true hin]
      have y3 := y2.trans x3
      refine ⟨_, rfl, _, rfl, _, rfl, S, many, ts, _, r[i], h, t, rfl, rw0.ext (y3.mono (by simp)), n0, ht, ?_⟩
      rw [ahead_other hxt]
      have hM3 := (x2.trans x3).keep _ _ (by simp) hM
      refine ⟨_, rfl, _, rfl, lm, _, rfl, .inl (SqL.of hM3), rfl, flat_ints _, _, rfl, ?_⟩
      rw [if_neg Bool.false_ne_true, inV_ints, decide_eq_false hnm]
      have hpl := path_len ts r x
      refine ⟨_, rfl, .inl ⟨rfl, _, SqL.of hM3⟩, _, rfl, lm, _, _, rfl, rfl, hM3, by rw [List.length_map, List.length_take, List.length_tail]; omega, ⟨otherEnd t h, _, _, rfl, hwn, hpa'⟩, ?_, by omega, y3.set' hlm hM3⟩
      rw [upd_same, List.take_add_one, hnx, List.map_append]
      rfl
    · rintro σ' H1 ⟨⟨h, s4, s5, rfl, hwk, hpa⟩, hM, hir, x1⟩
      rw [List.drop_of_length_le (by rw [List.length_map]; omega)] at hwk
      have e : h = x := hwk
      subst e
      refine ⟨_, rfl, _, rfl, p, _, 0, _, rfl, rfl, SqT.of (x1.tup _ _ hp), rfl, rfl, ?_⟩
      have : decide (V.int h = V.int h) = true := by simp
      rw [this]
      exact q _ x1
end
end Odj

set_option Elab.async false
set_option linter.all false
set_option maxRecDepth 100000
set_option maxHeartbeats 8000000
namespace Odj
open PySem L2
def spLawRing : Sp := fun vs H Q _ => ∃ (fa sa : Addr) (n many : Int) (ts : List Tie) (v : V), vs = [.ref fa, v] ∧ Feed H fa sa n ∧ Rep [fa] H (webD many (ts.map tieD)) v ∧ 1 ≤ many ∧ many ≤ 60 ∧ ts.length ≤ 200 ∧ n + 300 ≤ most ∧
  (∀ (n' : Int) (H' : Hp), n ≤ n' → n' ≤ n + 202 → Feed H' fa sa n' → Ext [fa] H H' → Q .non H') ∧
  (∀ (x : Int) (r : List Int) (p q : Addr) (n' : Int) (H' : Hp), H' p = some (.tup [.int x, .ref q]) → H' q = some (.tup (r.map V.int)) → Walk ts x r x → r.Nodup → (1 ≤ r.length ∧ r.length ≤ ts.length) → n ≤ n' → n' ≤ n + 202 → Feed H' fa sa n' → Ext [fa] H H' → Q (.ref p) H')
section
variable {P : Program} {w : World} {K : PySem.W.Frag} {mg : Str → Option Value} {base : Heap} {f : Addr} {fd : FuncData}
theorem d_law_ring (F : Fun K "_law_ring" "_law_ring" (top 21) f fd) (hm : mg "_law_ring" = some (.ref f)) (B : Bt mg) (B2 : Bt2 mg) (D_law_draw : DefOk P w K mg base 1 "_law_draw" ["_law_feed_here", "_law_many"] spDraw)
    (D_law_ahead : DefOk P w K mg base 1 "_law_ahead" ["_law_web_here", "_law_number", "_law_here"] spAhead) : DefOk P w K mg base 2 "_law_ring" ["_law_feed_here", "_law_web_here"] spLawRing := by
  refine ⟨f, fd, ?_, hm, F.kp, F.binds fun _ _ _ _ _ _ us hl => match us, hl with | [_, _], _ => rfl⟩
  have sc : FnScope ["_law_feed_here", "_law_web_here", "_law_places", "_law_row", "_law_k", "_law_here", "_law_some", "_law_at"] ["_law_feed_here", "_law_web_here"] (defScope (top 21)) := ⟨rfl, rfl, rfl, by decide +kernel, rfl, by decide +kernel, by decide +kernel⟩
  refine F.okQ sc (fun vs H Q E h => ?_) (fun cdv A outer s H vs Q E hr h => ?_)
  · obtain ⟨fa, sa, n, many, ts, v, rfl, _⟩ := h
    rfl
  · obtain ⟨fa, sa, n, many, ts, v, rfl, fe, rw0, m0, m1, tlen, nm, q0, q1⟩ := h
    have hsz : sizeLine = 16777216 := by decide
    have hmo : most = 1099511627776 := rfl
    have n0 := fe.lo
    obtain ⟨wa, wt, txs, rfl, ha, hb, rt⟩ := web_of rw0
    have hxl := rt.length
    rw [List.length_map] at hxl
    refine ⟨_, (qss_cons (qs_set (i := 2) sc.nd rfl (Or.inl rfl) (qe_lst (qa_c (qe_callD D_law_draw (hr.mono (by decide)) (qa_c (qv 0) (qa_c (qe_ix (ixT K) (qv 1) qe_int (fun _ _ => rfl)) qa_nil))) qa_nil)))
      (qss_cons (qs_set (i := 3) sc.nd rfl (Or.inr rfl) (qe_lst qa_nil))
      (qss_cons (qs_for PassesOwn.never rfl (qi_range1 (by rfl) B2.range (qa_c (qe_callB (lenK K) (by rfl) B.len (by decide +kernel) (qa_c (qe_ix (ixT K) (qv 1) qe_int (fun _ _ => rfl)) qa_nil)) qa_nil)) (qg_name (i := 4) sc.nd rfl (Or.inl rfl)) (qss_cons (qs_set (i := 5) sc.nd rfl (Or.inr rfl) (qe_ix (ixL K) (qv 2) (qe_un un_neg qe_int) (fun _ _ => rfl)))
      (qss_cons (qs_comp (i := 6) sc.nd rfl rfl (N := ["_law_number", "_law_row", "_law_here", "_law_web_here"]) (mp := [none, some 3, some 5, some 1]) rfl (qi_range1 (by rfl) B2.range (qa_c (qe_callB (lenK K) (by rfl) B.len (by decide +kernel) (qa_c (qe_ix (ixT K) (qv 1) qe_int (fun _ _ => rfl)) qa_nil)) qa_nil)) rfl (by show compOk ["_law_feed_here", "_law_web_here", "_law_places", "_law_row", "_law_k", "_law_here", "_law_some", "_law_at"] (defScope (top 21)) _ _ _ = true; decide +kernel) fun _ _ _ _ _ => ⟨(qg_name (i := 0) (by show List.Nodup [("_law_number" : Str), ("_law_row" : Str), ("_law_here" : Str), ("_law_web_here" : Str)]; decide +kernel) rfl (Or.inl rfl)), (qk_one (QW.pt (qw_and (qt_cmpR (ninK K) (qv 0) (qv 1) rfl) (qw_and1 (qt_cmpR (inK K) (qv 2) (qe_slice (slT K) (qe_ix (ixT K) (qe_ix (ixT K) (qv 3) qe_int (fun _ _ => rfl)) (qv 0) (fun _ _ => rfl)) qo_none (qo_some qe_int)) rfl))))), (qv 0)⟩)
      (qss_cons (qs_if (qt_cmpR (op_eqD hr) (qv 6) (qe_lst qa_nil) (nomark _)) (qss_one (qs_ret qe_non)) qss_nil)
      (qss_cons (qs_expr (qe_bmK K PySem.F.plainAttrs_list PySem.F.slot_list_append PySem.F.type_list_append mt_append (qv 3) (qa_c (qe_ix (ixL K) (qv 6) (qe_callD D_law_draw (hr.mono (by decide)) (qa_c (qv 0) (qa_c (qe_callB (lenK K) (by rfl) B.len (by decide +kernel) (qa_c (qv 6) qa_nil)) qa_nil))) (fun _ _ => rfl)) qa_nil)))
      (qss_cons (qs_expr (qe_bmK K PySem.F.plainAttrs_list PySem.F.slot_list_append PySem.F.type_list_append mt_append (qv 2) (qa_c (qe_callD D_law_ahead (hr.mono (by decide)) (qa_c (qv 1) (qa_c (qe_ix (ixL K) (qv 3) (qe_un un_neg qe_int) (fun _ _ => rfl)) (qa_c (qv 5) qa_nil)))) qa_nil)))
      (qss_one (qs_if (qt_cmpR (inK K) (qe_ix (ixL K) (qv 2) (qe_un un_neg qe_int) (fun _ _ => rfl)) (qe_slice (slL K) (qv 2) qo_none (qo_some (qe_un un_neg qe_int))) rfl) (qss_cons (qs_set (i := 7) sc.nd rfl (Or.inl rfl) (qe_bmK K PySem.F.plainAttrs_list PySem.F.slot_list_index PySem.F.type_list_index mt_indexL (qv 2) (qa_c (qe_ix (ixL K) (qv 2) (qe_un un_neg qe_int) (fun _ _ => rfl)) qa_nil)))
      (qss_one (qs_ret (qe_tup (qa_c (qe_ix (ixL K) (qv 2) (qv 7) (fun _ _ => rfl)) (qa_c (qe_callTy (tupleK K) (by rfl) B.tuple (by decide +kernel) (qa_c (qe_slice (slL K) (qv 3) (qo_some (qv 7)) qo_none) qa_nil)) qa_nil)))))) qss_nil))))))))
      (qss_one (qs_ret qe_non))))), ?_⟩
    refine ⟨_, rfl, _, rfl, wa, _, 0, _, rfl, rfl, SqT.of ha, rfl, fa, sa, n, many, rfl, fe, by omega, by omega, by omega, fun x0 H1 c0 c1 f1 x1 => ⟨by show 1 ≤ sizeLine; decide, fun lp hlp => ⟨Nat.zero_le _, fun lw hlw => ?_⟩⟩⟩
    have hne : lp ≠ lw := fun z => by rw [← z, upd_same] at hlw; cases hlw
    have hlw2 : H1 lw = none := by rw [upd_ne hne.symm] at hlw; exact hlw
    have hpf := f1.has hlp
    have hwf := f1.has hlw2
    have x2 : Ext [] H1 (upd (upd H1 lp (.lst [.int x0])) lw (.lst [])) := (Ext.new hlp).trans (.new hlw)
    have hp2 : (upd (upd H1 lp (.lst [.int x0])) lw (.lst [])) lp = some (.lst ((([] : List Int) ++ [x0]).map V.int)) := by rw [upd_ne hne, upd_same]; rfl
    have hw2 : (upd (upd H1 lp (.lst [.int x0])) lw (.lst [])) lw = some (.lst (([] : List Int).map V.int)) := by rw [upd_same]; rfl
    have f2 := f1.ext x2 (by simp) (by simp)
    generalize upd (upd H1 lp (.lst [.int x0])) lw (.lst []) = H2 at x2 hp2 hw2 f2 ⊢
    have y2 := x1.trans (x2.mono (S' := [fa]) (by simp))
    have g1 : ∀ {o : HO} {J : Hp} {m : Int}, Feed J fa sa m → Feed (upd J lp o) fa sa m := fun {o J m} g => by
      obtain ⟨ns, i, c, g1, g2⟩ := g.ex
      exact ⟨⟨ns, i, c, by rw [upd_ne hpf.1.symm]; exact g1, by rw [upd_ne hpf.2.symm]; exact g2⟩, g.ne, g.lo⟩
    have g2 : ∀ {o : HO} {J : Hp} {m : Int}, Feed J fa sa m → Feed (upd J lw o) fa sa m := fun {o J m} g => by
      obtain ⟨ns, i, c, g1, g2⟩ := g.ex
      exact ⟨⟨ns, i, c, by rw [upd_ne hwf.1.symm]; exact g1, by rw [upd_ne hwf.2.symm]; exact g2⟩, g.ne, g.lo⟩
    refine ⟨_, rfl, wa, _, 1, _, rfl, rfl, SqT.of (y2.tup _ _ ha), rfl, wt, txs, rfl, .inr (SqT.of (y2.tup _ _ hb)), _, rfl, by omega, by omega, for_range (D := { nx := _, rt := Q }) (fun i σ' H' => ∃ (ps rs : List Int) (y m : Int) (s4 s5 s6 s7 : Option V), σ' = [some (.ref fa), some (.ref wa), some (.ref lp), some (.ref lw), s4, s5, s6, s7] ∧ H' lp = some (.lst ((ps ++ [y]).map V.int)) ∧ H' lw = some (.lst (rs.map V.int)) ∧ Walk ts x0 rs y ∧ pathOf ts x0 rs = ps ++ [y] ∧ rs.Nodup ∧ rs.length ≤ i ∧ Feed H' fa sa m ∧ n + 1 ≤ m ∧ m ≤ n + 1 + i ∧ i ≤ txs.length ∧ Ext [fa] H1 H')
      ⟨[], [], x0, n + 1, none, none, none, none, rfl, hp2, hw2, rfl, rfl, List.nodup_nil, Nat.le_refl _, f2, by omega, by omega, Nat.zero_le _, x2.mono (by simp)⟩ ?_ ?_⟩
    · rintro i σ' H3 hi ⟨ps, rs, y, m, s4, s5, s6, s7, rfl, hP, hW, hwk, hpa, rnd, rl, f3, k0, k1, il, x3⟩
      have y3 := x1.trans x3
      have hpl : ps.length = rs.length := by
        have := congrArg List.length hpa
        rw [path_len] at this
        simpa using this.symm
      have hP' : H3 lp = some (.lst (ps.map V.int ++ [.int y])) := by rw [hP, List.map_append]; rfl
      refine ⟨_, rfl, 1, rfl, lp, _, -1, _, rfl, rfl, SqL.of hP', atI_last _ _, ?_⟩
      refine ⟨_, rfl, wa, _, 1, _, rfl, rfl, SqT.of (y3.tup _ _ ha), rfl, wt, txs, rfl, .inr (SqT.of (y3.tup _ _ hb)), _, rfl, by omega, by omega, comp_range (fun j ys σ' H4 => (∃ z, σ' = [z, some (.ref lw), some (.int y), some (.ref wa)]) ∧ Ext [] H3 H4 ∧ ∃ ms : List Int, ys = ms.map V.int ∧ ms.length ≤ j ∧ ∀ k ∈ ms, 0 ≤ k ∧ k ∉ rs ∧ ∃ t, ts[k.toNat]? = some t ∧ (t.1 = y ∨ t.2.1 = y))
        ⟨⟨none, rfl⟩, .refl _ _, [], rfl, Nat.le_refl _, by simp⟩ ?_ ?_⟩
      · rintro j ys σ' H4 hj ⟨⟨z, rfl⟩, x4, ms, rfl, hml, hms⟩
        have y4 := y3.trans (x4.mono (S' := [fa]) (by simp))
        obtain ⟨t, p, ht1, ht2, ht3, ht4, ht5⟩ := tie_at (rt.ext y4) (i := 0 + (j : Int)) (by omega) (by omega)
        refine ⟨by rw [List.length_map]; omega, _, rfl, _, rfl, lw, _, rfl, .inl (SqL.of (x4.keep _ _ (by simp) hW)), rfl, flat_ints _, _, rfl, ?_⟩
        rw [if_pos rfl, inV_ints]
        by_cases hkr : (0 + (j : Int)) ∈ rs
        · rw [decide_eq_true hkr]
          exact ⟨⟨_, rfl⟩, x4, ms, rfl, by omega, hms⟩
        · rw [decide_eq_false hkr]
          refine ⟨_, rfl, _, rfl, wa, _, 1, _, rfl, rfl, SqT.of (y4.tup _ _ ha), rfl, _, rfl, wt, txs, _, _, rfl, rfl, SqT.of (y4.tup _ _ hb), ht3, 2, rfl, sl_rep ht4 fun v2 H5 x5 r5 => ?_⟩
          rw [cutL_to _ 2 (by decide)] at r5
          obtain ⟨b, hbv, hbb⟩ := rep_ints (ns := [t.1, t.2.1]) r5
          subst hbv
          refine ⟨b, _, rfl, .inr (SqT.of hbb), rfl, flat_ints _, _, rfl, ?_⟩
          rw [if_neg Bool.false_ne_true, inV_ints]
          refine ite2 (fun hc => ⟨_, rfl, ⟨_, rfl⟩, x4.trans x5, ms ++ [0 + (j : Int)], by simp, by simp; omega, fun k hk => ?_⟩) (fun hc => ⟨⟨_, rfl⟩, x4.trans x5, ms, rfl, by omega, hms⟩)
          rcases List.mem_append.mp hk with z | z
          · exact hms k z
          · have e : k = 0 + (j : Int) := by simpa using z
            subst e
            refine ⟨by omega, hkr, t, ht1, ?_⟩
            have hc' : y ∈ [t.1, t.2.1] := of_decide_eq_true hc
            simp only [List.mem_cons, List.not_mem_nil, or_false] at hc'
            exact hc'.imp Eq.symm Eq.symm
      rintro ys σ' H4 ⟨⟨z, rfl⟩, x4, ms, rfl, hml, hms⟩
      refine ⟨by rw [List.length_map]; omega, fun D hD => ?_⟩
      have x5 : Ext [] H3 (upd H4 D (.lst (ms.map V.int))) := x4.trans (.new hD)
      have a5 : (upd H4 D (.lst (ms.map V.int))) D = some (.lst (ms.map V.int)) := upd_same
      have hDf : D ∉ [fa] := by simpa using ((f3.ext x4 (by simp) (by simp)).has hD).1
      have hDp : D ≠ lp := fun z => by rw [z, x4.keep _ _ (by simp) hP] at hD; cases hD
      have hDw : D ≠ lw := fun z => by rw [z, x4.keep _ _ (by simp) hW] at hD; cases hD
      generalize upd H4 D (.lst (ms.map V.int)) = H5 at x5 a5 ⊢
      refine ⟨_, rfl, Nat.zero_le _, fun pp hpp => ?_⟩
      have x6 : Ext [] H3 (upd H5 pp (.lst [])) := x5.trans (.new hpp)
      have a6 : (upd H5 pp (.lst [])) D = some (.lst (ms.map V.int)) := (Ext.new (S := []) hpp).keep _ _ (by simp) a5
      have b6 : (upd H5 pp (.lst [])) pp = some (.lst []) := upd_same
      generalize upd H5 pp (.lst []) = H6 at x6 a6 b6 ⊢
      have f6 := f3.ext x6 (by simp) (by simp)
      have y6 := y3.trans (x6.mono (S' := [fa]) (by simp))
      refine ⟨[], .list (ms.map .int), .list [], .lst a6 (by simp) (.ints _), .lst b6 (by simp) .nil, canLay_ints _, rfl, by simp [PyData.depth, depth_ints], _, rfl, ?_⟩
      rw [if_neg Bool.false_ne_true, eqv_nil]
      cases ms with
      | nil => exact q0 m H6 (by omega) (by omega) f6 y6
      | cons m0' mr =>
        have hP6 := x6.keep _ _ (by simp) hP'
        have hW6 := x6.keep _ _ (by simp) hW
        refine ⟨_, rfl, .inl ⟨rfl, _, SqL.of hW6⟩, _, rfl, _, rfl, _, rfl, D, _, rfl, .inl (SqL.of a6), fa, sa, m, _, rfl, f6, by simp, by rw [List.length_map]; omega, by omega, fun r7 H7 c7 d7 f7 x7 => ?_⟩
        have a7 := x7.keep _ _ hDf a6
        have hP7 := x7.keep _ _ (by simpa using hpf.1) hP6
        have hW7 := x7.keep _ _ (by simpa using hwf.1) hW6
        have y7 := y6.trans x7
        obtain ⟨v7, e7, g7⟩ := atI_ex (xs := (m0' :: mr).map V.int) c7 d7
        obtain ⟨k, hk, rfl⟩ := int_nth g7
        obtain ⟨kk0, kk1, t, ht, hty⟩ := hms k (List.mem_of_getElem? hk)
        refine ⟨D, _, _, _, rfl, rfl, SqL.of a7, e7, lw, _, _, rfl, rfl, hW7, by rw [List.length_map]; omega, ?_⟩
        have hsw : (rs.map V.int ++ [.int k]) = (rs ++ [k]).map V.int := by simp
        rw [hsw]
        have x13 : Ext [fa] H1 H7 := (x3.trans (x6.mono (by simp))).trans x7
        have y8 : Ext [fa] H1 (upd H7 lw (.lst ((rs ++ [k]).map V.int))) := x13.set' hlw2 hW7
        have hW8 : (upd H7 lw (.lst ((rs ++ [k]).map V.int))) lw = some (.lst (rs.map V.int ++ [.int k])) := by rw [upd_same, hsw]
        have hP8 : (upd H7 lw (.lst ((rs ++ [k]).map V.int))) lp = some (.lst (ps.map V.int ++ [.int y])) := by rw [upd_ne hne]; exact hP7
        have f8 := g2 (o := .lst ((rs ++ [k]).map V.int)) f7
        generalize upd H7 lw (.lst ((rs ++ [k]).map V.int)) = H8 at y8 hW8 hP8 f8 ⊢
        have z8 := x1.trans y8
        refine ⟨_, rfl, .inl ⟨rfl, _, SqL.of hP8⟩, _, rfl, _, rfl, 1, rfl, lw, _, -1, _, rfl, rfl, SqL.of hW8, atI_last _ _, _, rfl, [fa], many, ts, _, k, y, t, rfl, rw0.ext z8, kk0, ht, ?_⟩
        rw [ahead_other hty]
        refine ⟨lp, _, _, rfl, rfl, hP8, by rw [List.length_append, List.length_map]; show ps.length + 1 < sizeLine; omega, ?_⟩
        have est : stepTo ts y k = otherEnd t y := by unfold stepTo; rw [ht]
        have wk2 := walk_snoc hwk kk0 ht hty
        have pa2 : pathOf ts x0 (rs ++ [k]) = (ps ++ [y]) ++ [otherEnd t y] := by rw [path_snoc ts k rs _ _ hwk, hpa, est]
        have rnd2 : (rs ++ [k]).Nodup := by
          rw [List.nodup_append]
          exact ⟨rnd, by simp, fun a ha b hb e => kk1 ((show b = k by simpa using hb) ▸ e ▸ ha)⟩
        have hsp : (ps.map V.int ++ [.int y] ++ [.int (otherEnd t y)]) = (ps ++ [y]).map V.int ++ [.int (otherEnd t y)] := by simp
        rw [hsp]
        have y9 : Ext [fa] H1 (upd H8 lp (.lst ((ps ++ [y]).map V.int ++ [.int (otherEnd t y)]))) := y8.set' hlp hP8
        have hP9 : (upd H8 lp (.lst ((ps ++ [y]).map V.int ++ [.int (otherEnd t y)]))) lp = some (.lst ((ps ++ [y]).map V.int ++ [.int (otherEnd t y)])) := upd_same
        have hW9 : (upd H8 lp (.lst ((ps ++ [y]).map V.int ++ [.int (otherEnd t y)]))) lw = some (.lst ((rs ++ [k]).map V.int)) := by rw [upd_ne hne.symm, hW8, hsw]
        have f9 := g1 (o := .lst ((ps ++ [y]).map V.int ++ [.int (otherEnd t y)])) f8
        generalize upd H8 lp (.lst ((ps ++ [y]).map V.int ++ [.int (otherEnd t y)])) = H9 at y9 hP9 hW9 f9 ⊢
        have z9 := x1.trans y9
        refine ⟨_, rfl, 1, rfl, lp, _, -1, _, rfl, rfl, SqL.of hP9, atI_last _ _, _, rfl, 1, rfl, _, rfl, lp, _, rfl, SqL.of hP9, fun ls hls => ?_⟩
        rw [cut_last]
        have xA : Ext [] H9 (upd H9 ls (.lst ((ps ++ [y]).map V.int))) := .new hls
        have hA : (upd H9 ls (.lst ((ps ++ [y]).map V.int))) ls = some (.lst ((ps ++ [y]).map V.int)) := upd_same
        generalize upd H9 ls (.lst ((ps ++ [y]).map V.int)) = HA at xA hA ⊢
        have hPA := xA.keep _ _ (by simp) hP9
        have hWA := xA.keep _ _ (by simp) hW9
        have fA := f9.ext xA (by simp) (by simp)
        have zA := z9.trans (xA.mono (S' := [fa]) (by simp))
        have yA := y9.trans (xA.mono (S' := [fa]) (by simp))
        refine ⟨ls, _, rfl, .inl (SqL.of hA), rfl, flat_ints _, _, rfl, ?_⟩
        rw [if_neg Bool.false_ne_true, inV_ints]
        have hPi : HA lp = some (.lst (((ps ++ [y]) ++ [otherEnd t y]).map V.int)) := by rw [hPA]; simp
        by_cases hy : otherEnd t y ∈ ps ++ [y]
        · rw [decide_eq_true hy]
          obtain ⟨j, hj, hfirst⟩ := first_at hy
          have hjl : j < (ps ++ [y]).length := (List.getElem?_eq_some_iff.mp hj).1
          have hj2 : ((ps ++ [y]) ++ [otherEnd t y])[j]? = some (otherEnd t y) := by rw [List.getElem?_append_left hjl]; exact hj
          refine ⟨_, rfl, .inl ⟨rfl, _, SqL.of hPA⟩, _, rfl, 1, rfl, lp, _, -1, _, rfl, rfl, SqL.of hPA, atI_last _ _, lp, (ps ++ [y]) ++ [otherEnd t y], otherEnd t y, j, rfl, rfl, hPi, hj2, fun i hi z => ?_, ?_⟩
          · rw [List.getElem?_append_left (by omega)] at z
            exact hfirst i hi z
          have hjm : atI (((ps ++ [y]) ++ [otherEnd t y]).map V.int) (j : Int) = some (.int (otherEnd t y)) := atI_nat (by rw [List.getElem?_map, hj2]; rfl)
          refine ⟨_, rfl, _, rfl, lp, _, _, _, rfl, rfl, SqL.of hPi, hjm, _, rfl, _, rfl, _, rfl, lw, _, rfl, SqL.of hWA, fun lr hlr => ?_⟩
          rw [cutV_from, ← List.map_drop]
          refine ⟨lr, _, rfl, .inl ⟨SqL.of upd_same, fun pt hpt => ⟨by show 2 ≤ sizeLine; decide, fun pr hpr => ?_⟩⟩⟩
          have xB : Ext [] HA (upd HA lr (.lst (((rs ++ [k]).drop j).map V.int))) := .new hlr
          generalize upd HA lr (.lst (((rs ++ [k]).drop j).map V.int)) = HB at xB hpt hpr ⊢
          have xC : Ext [] HB (upd HB pt (.tup (((rs ++ [k]).drop j).map V.int))) := .new hpt
          have hC : (upd HB pt (.tup (((rs ++ [k]).drop j).map V.int))) pt = some (.tup (((rs ++ [k]).drop j).map V.int)) := upd_same
          generalize upd HB pt (.tup (((rs ++ [k]).drop j).map V.int)) = HC at xC hC hpr ⊢
          have xD : Ext [] HC (upd HC pr (.tup [.int (otherEnd t y), .ref pt])) := .new hpr
          have xAD := (xB.trans xC).trans xD
          obtain ⟨z, za, zb, zc⟩ := path_drop ts _ _ _ wk2 j (by rw [List.length_append] at hjl ⊢; simp at hjl ⊢; omega)
          have ez : z = otherEnd t y := by
            rw [pa2, hj2] at za
            exact (Option.some.inj za).symm
          rw [ez] at zb
          refine q1 (otherEnd t y) ((rs ++ [k]).drop j) pr pt (m + 1) _ upd_same (xD.tup _ _ hC) zb (rnd2.sublist (List.drop_sublist _ _)) ?_ (by omega) (by omega) (fA.ext xAD (by simp) (by simp)) (zA.trans (xAD.mono (by simp)))
          rw [List.length_drop, List.length_append, List.length_singleton]
          rw [List.length_append, List.length_singleton] at hjl
          omega
        · rw [decide_eq_false hy]
          exact ⟨ps ++ [y], rs ++ [k], otherEnd t y, m + 1, _, _, _, _, rfl, hPi, hWA, wk2, pa2, rnd2, by rw [List.length_append, List.length_singleton]; omega, fA, by omega, by omega, by omega, yA⟩
    · rintro σ' H3 ⟨ps, rs, y, m, s4, s5, s6, s7, rfl, hP, hW, hwk, hpa, rnd, rl, f3, k0, k1, il, x3⟩
      exact q0 m H3 (by omega) (by omega) f3 (x1.trans x3)
end
end Odj

set_option Elab.async false
set_option linter.all false
set_option maxRecDepth 100000
set_option maxHeartbeats 8000000
namespace Odj
open PySem L2
theorem eqv_lst (ns : List Int) : PyData.eqv (.list (ns.map .int)) (.list (ns.map .int)) = true := by
  have : PyData.eqvAll (ns.map .int) (ns.map .int) = true := by
    induction ns with
    | nil => simp [PyData.eqvAll]
    | cons n ns ih => simpa [PyData.eqvAll, PyData.eqv] using ih
  simpa [PyData.eqv] using this
def spRightR : Sp := fun vs H Q _ => ∃ (S : List Addr) (many : Int) (ts : List Tie) (v u : V) (even : List Int), vs = [v, u] ∧ Rep S H (webD many (ts.map tieD)) v ∧ Rep S H (.tuple (even.map .int)) u ∧ WebFn many ts ∧ ts.length ≤ 16 ∧ Rise even ∧ (∀ k ∈ even, 0 ≤ k ∧ k < (ts.length : Int)) ∧ EvenSet ts even ∧ ∀ H', Ext [] H H' → Q (.bl true) H'
theorem inV_true : ∀ n : Nat, inV (.bl false) (List.replicate n (V.bl true)) = false
  | 0 => rfl
  | n + 1 => by
    have ih := inV_true n
    simp only [List.replicate_succ]
    unfold inV at *
    simp only [List.any_cons, ih, Bool.or_false]
    rfl
theorem flat_true : ∀ n : Nat, (List.replicate n (V.bl true)).all flatV = true
  | 0 => rfl
  | n + 1 => by
    have ih := flat_true n
    simp only [List.replicate_succ, List.all_cons, ih, Bool.and_true]
    rfl
theorem rings_len {ts : List Tie} : ∀ {rr : List (Int × List Int)}, (∀ z ∈ rr, RingOk ts z.1 z.2) → rr.length ≤ (rr.flatMap (·.2)).length
  | [], _ => by simp
  | z :: rr, h => by
    have ih := rings_len (rr := rr) fun y hy => h y (List.mem_cons_of_mem _ hy)
    have := (h z (List.mem_cons_self ..)).two
    simp only [List.length_cons, List.flatMap_cons, List.length_append]
    omega
section
variable {P : Program} {w : World} {K : PySem.W.Frag} {mg : Str → Option Value} {base : Heap} {f : Addr} {fd : FuncData}
theorem d_law_right (F : Fun K "_law_right" "_law_right" (top 23) f fd) (hm : mg "_law_right" = some (.ref f)) (B : Bt mg) (B2 : Bt2 mg) (B3 : Bt3 mg) (B5 : Bt5 mg) (B7 : Bt7 mg) (D_rings_of : DefOk P w K mg base 8 "rings_of" ["web", "even"] spRings) (D_law_is_ring : DefOk P w K mg base 2 "_law_is_ring" ["_law_web_here", "_law_thing"] spIsRing) : DefOk P w K mg base 9 "_law_right" ["_law_web_here", "_law_even"] spRightR := by
  refine ⟨f, fd, ?_, hm, F.kp, F.binds fun _ _ _ _ _ _ us hl => match us, hl with | [_, _], _ => rfl⟩
  have sc : FnScope ["_law_web_here", "_law_even", "_law_kept", "_law_turn", "_law_found", "_law_met", "_law_start", "_law_row"] ["_law_web_here", "_law_even"] (defScope (top 23)) := ⟨rfl, rfl, rfl, by decide +kernel, rfl, by decide +kernel, by decide +kernel⟩
  refine F.okQ sc (fun vs H Q E h => ?_) (fun cdv A outer s H vs Q E hr h => ?_)
  · obtain ⟨S, many, ts, v, u, even, rfl, _⟩ := h
    rfl
  · obtain ⟨S, many, ts, v, u, even, rfl, rw0, ru, wf, t16, re, be, ee, q⟩ := h
    have hsz : sizeLine = 16777216 := by decide
    have hdq : ∀ z : Str, (!decide (V.str z = V.str z)) = false := fun z => by simp
    obtain ⟨ua, rfl, hua⟩ := rep_ints ru
    have le := nodup_le re.nd be
    have lok : LeftOk ts even := ⟨re.nd, be, ee⟩
    have hg : Good (.tuple [webD many (ts.map tieD), .tuple (even.map .int)]) := good_tup (fun d hd => by
      simp only [List.mem_cons, List.not_mem_nil, or_false] at hd
      rcases hd with rfl | rfl
      · exact sm_web wf
      · exact sm_ints (fun i hi => by have := be i hi; omega) (by omega)) (by simp)
    refine ⟨_, (qss_cons (qs_set (i := 2) sc.nd rfl (Or.inl rfl) (qe_callB (call_reprD hr) (by rfl) B5.repr (by decide +kernel) (qa_c (qe_tup (qa_c (qv 0) (qa_c (qv 1) qa_nil))) qa_nil)))
      (qss_cons (qs_for PassesOwn.never rfl (qi_range1 (by rfl) B2.range (qa_c qe_int qa_nil)) (qg_name (i := 3) sc.nd rfl (Or.inl rfl)) (qss_cons (qs_set (i := 4) sc.nd rfl (Or.inl rfl) (qe_callD D_rings_of (hr.mono (by decide)) (qa_c (qv 0) (qa_c (qv 1) qa_nil))))
      (qss_cons (qs_if (QW.pt (qw_or (qt_not (qt_val (qe_callB (isiK K) (by rfl) B.isinstance (by decide +kernel) (qa_c (qv 4) (qa_c (qe_ty "tuple" (by rfl) B.tuple (by decide +kernel)) qa_nil))))) (qw_or1 (qt_cmpR (inK K) qe_bl (qe_comp (N := ["_law_ring_here", "_law_web_here"]) (mp := [none, some 0]) rfl (qi_tupK K (qv 4)) rfl (by show compOk ["_law_web_here", "_law_even", "_law_kept", "_law_turn", "_law_found", "_law_met", "_law_start", "_law_row"] (defScope (top 23)) _ _ _ = true; decide +kernel) fun _ _ _ _ _ => ⟨(qg_name (i := 0) (by show List.Nodup [("_law_ring_here" : Str), ("_law_web_here" : Str)]; decide +kernel) rfl (Or.inl rfl)), qk_nil, (qe_callD D_law_is_ring (hr.mono (by decide)) (qa_c (qv 1) (qa_c (qv 0) qa_nil)))⟩) rfl)))) (qss_one (qs_ret qe_bl)) qss_nil)
      (qss_cons (qs_set (i := 5) sc.nd rfl (Or.inl rfl) (qe_lst qa_nil))
      (qss_cons (qs_for PassesOwn.never rfl (qi_tupK K (qv 4)) (qg_tupK (n := 2) K rfl (qgs_cons (qg_name (i := 6) sc.nd rfl (Or.inl rfl)) (qgs_cons (qg_name (i := 7) sc.nd rfl (Or.inl rfl)) qgs_nil))) (qss_one (qs_expr (qe_bmK K PySem.F.plainAttrs_list PySem.F.slot_list_extend PySem.F.type_list_extend (mt_extendT K) (qv 5) (qa_c (qv 7) qa_nil)))))
      (qss_one (qs_if (QW.pt (qw_or (qt_cmpR (op_neD hr) (qe_callB (call_sortedL K) (by rfl) B7.sorted (by decide +kernel) (qa_c (qv 5) qa_nil)) (qe_callTy (listK K) (by rfl) B3.list (by decide +kernel) (qa_c (qv 1) qa_nil)) (nomark _)) (qw_or1 (qt_cmpR op_ne (qe_callB (call_reprD hr) (by rfl) B5.repr (by decide +kernel) (qa_c (qe_tup (qa_c (qv 0) (qa_c (qv 1) qa_nil))) qa_nil)) (qv 2) (nomark _))))) (qss_one (qs_ret qe_bl)) qss_nil)))))))
      (qss_one (qs_ret qe_bl)))), ?_⟩
    refine ⟨_, rfl, _, rfl, by show 2 ≤ sizeLine; decide, fun p0 hp0 => ?_⟩
    have y0 : Ext [] H (upd H p0 (.tup [v, .ref ua])) := .new hp0
    have h0 : (upd H p0 (.tup [v, .ref ua])) p0 = some (.tup [v, .ref ua]) := upd_same
    generalize upd H p0 (.tup [v, .ref ua]) = J0 at y0 h0 ⊢
    refine ⟨S, _, _, rfl, .tup h0 (.cons (rw0.ext (y0.mono (by simp))) (.cons (ru.ext (y0.mono (by simp))) .nil)), hg, ?_⟩
    refine ⟨2, rfl, by decide, by decide, for_range (n := 2) (D := { nx := _, rt := Q }) (fun i σ' H' => (∃ s3 s4 s5 s6 s7, σ' = [some v, some (.ref ua), some (.str (PyData.tuple [webD many (ts.map tieD), .tuple (even.map .int)]).shown), s3, s4, s5, s6, s7]) ∧ Ext [] H H') ⟨⟨_, _, _, _, _, rfl⟩, y0⟩ ?_ (fun σ' H' e => q _ e.2)⟩
    rintro i σ' J1 hi ⟨⟨s3, s4, s5, s6, s7, rfl⟩, y1⟩
    refine ⟨_, rfl, _, rfl, S, many, ts, _, _, even, rfl, rw0.ext (y1.mono (by simp)), ru.ext (y1.mono (by simp)), wf, lok, by omega, fun rr u2 J2 r2 ring per x2 => ?_⟩
    have y2 := y1.trans x2
    obtain ⟨pf, xs, rfl, hpf, rx⟩ := Rep.of_tup (r2 [])
    have rxa : ∀ S', Reps S' J2 (rr.map ringD) xs := fun S' => by
      obtain ⟨pf', xs', e, hpf', rx'⟩ := Rep.of_tup (r2 S')
      cases e
      rw [hpf] at hpf'
      cases hpf'
      exact rx'
    have xl : xs.length = rr.length := by have := rx.length; rw [List.length_map] at this; exact this
    have pl := per.length_eq
    have rl := rings_len ring
    have ringAt : ∀ {i : Nat} {x : V}, xs[i]? = some x → ∃ z, rr[i]? = some z ∧ z ∈ rr ∧ ∀ S', Rep S' J2 (ringD z) x := fun {i x} hx => by
      obtain ⟨d, hd, rd⟩ := rx.get hx
      rw [List.getElem?_map] at hd
      cases e : rr[i]? with
      | none => rw [e] at hd; cases hd
      | some z =>
        refine ⟨z, rfl, List.mem_of_getElem? e, fun S' => ?_⟩
        obtain ⟨d', hd', rd'⟩ := (rxa S').get hx
        rw [List.getElem?_map, e] at hd'
        have : ringD z = d' := Option.some.inj hd'
        rw [this]
        exact rd'
    have short : ∀ z ∈ rr, z.2.length ≤ even.length := fun z hz => by
      rw [← pl]
      exact (List.sublist_flatten_of_mem (List.mem_map.mpr ⟨z, hz, rfl⟩)).length_le
    refine ⟨_, rfl, _, _, _, _, rfl, (r2 []).ty, kit3 _, _, rfl, iteF ?_⟩
    refine ⟨_, rfl, pf, rfl, ⟨_, SqT.of hpf⟩, comp_tup (K := K) (a := pf) (xs := xs) (fun j ys σ' H' => (∃ y, σ' = [y, some v]) ∧ Ext [] J2 H' ∧ ys = List.replicate j (V.bl true) ∧ j ≤ xs.length) ⟨⟨none, rfl⟩, .refl _ _, rfl, Nat.zero_le _⟩
      (fun j ys σ' H' e => SqT.of (e.2.1.tup _ _ hpf)) ?_ ?_⟩
    · rintro j x ys σ' H' hx ⟨⟨y, rfl⟩, x3, rfl, hj⟩
      obtain ⟨z, hz1, hz2, rz⟩ := ringAt hx
      have hjl : j < xs.length := (List.getElem?_eq_some_iff.mp hx).1
      have sh := short z hz2
      refine ⟨by rw [List.length_replicate]; omega, _, rfl, _, rfl, S, many, ts, _, _, z.1, z.2, rfl, rw0.ext ((y2.trans x3).mono (by simp)), (rz S).ext (x3.mono (by simp)), wf, ring z hz2, by omega, fun J4 x4 => ⟨⟨_, rfl⟩, x3.trans x4, ?_, by omega⟩⟩
      rw [List.replicate_succ']
    rintro ys σ' J3 ⟨⟨y, rfl⟩, x3, rfl, _⟩
    refine ⟨by rw [List.length_replicate]; omega, fun D hD => ?_⟩
    have x4 : Ext [] J2 (upd J3 D (.lst (List.replicate xs.length (V.bl true)))) := x3.trans (.new hD)
    have h4 : (upd J3 D (.lst (List.replicate xs.length (V.bl true)))) D = some (.lst (List.replicate xs.length (V.bl true))) := upd_same
    generalize upd J3 D (.lst (List.replicate xs.length (V.bl true))) = J4 at x4 h4 ⊢
    refine ⟨D, _, rfl, .inl (SqL.of h4), rfl, flat_true _, _, rfl, ?_⟩
    rw [if_neg Bool.false_ne_true, inV_true]
    -- all ties
    refine ⟨Nat.zero_le _, fun lm hlm => ?_⟩
    have x5 : Ext [] J2 (upd J4 lm (.lst [])) := x4.trans (.new hlm)
    have h5 : (upd J4 lm (.lst [])) lm = some (.lst ((((rr.take 0).flatMap (·.2))).map V.int)) := by rw [upd_same]; rfl
    have y4 := y2.trans x4
    generalize upd J4 lm (.lst []) = J5 at x5 h5 ⊢
    have hlm2 : J2 lm = none := x4.fresh (by simp) hlm
    refine ⟨_, rfl, pf, rfl, ⟨_, SqT.of (x5.tup _ _ hpf)⟩, for_tup (K := K) (a := pf) (xs := xs) (D := { nx := _, rt := Q }) (fun j σ' H' => (∃ s6 s7, σ' = [some v, some (.ref ua), some (.str (PyData.tuple [webD many (ts.map tieD), .tuple (even.map .int)]).shown), some (.int (0 + (i : Int))), some (.ref pf), some (.ref lm), s6, s7]) ∧ H' lm = some (.lst ((((rr.take j).flatMap (·.2))).map V.int)) ∧ Ext [] J2 H')
      ⟨⟨_, _, rfl⟩, h5, x5⟩ (fun j σ' H' _ e => SqT.of (e.2.2.tup _ _ hpf)) ?_ ?_⟩
    · rintro j x σ' J6 hx ⟨⟨s6, s7, rfl⟩, h6, x6⟩
      obtain ⟨z, hz1, hz2, rz⟩ := ringAt hx
      obtain ⟨p, pq, rfl, hp, hq⟩ := ring_of (x := z.1) (r := z.2) (rz [])
      have sub : (((rr.take j).flatMap (·.2)) ++ z.2).length ≤ even.length := by
        rw [← pl]
        have e : ((rr.take j).flatMap (·.2)) ++ z.2 = (rr.take (j + 1)).flatMap (·.2) := by
          rw [List.take_add_one, hz1, List.flatMap_append]
          simp
        rw [e]
        have : rr.flatMap (·.2) = (rr.take (j + 1)).flatMap (·.2) ++ (rr.drop (j + 1)).flatMap (·.2) := by rw [← List.flatMap_append, List.take_append_drop]
        rw [this, List.length_append]
        omega
      rw [List.length_append] at sub
      refine ⟨p, _, rfl, SqT.of (x6.tup _ _ hp), rfl, _, _, rfl, _, _, rfl, rfl, _, rfl, .inl ⟨rfl, _, SqL.of h6⟩, _, rfl, lm, pq, _, _, rfl, rfl, h6, SqT.of (x6.tup _ _ hq), by rw [List.length_map, List.length_map]; omega, ⟨_, _, rfl⟩, ?_, x6.set' hlm2 h6⟩
      rw [upd_same, List.take_add_one, hz1, List.flatMap_append, List.map_append]
      simp
    · rintro σ' J6 ⟨⟨s6, s7, rfl⟩, h6, x6⟩
      rw [xl, List.take_length] at h6
      have y6 := y2.trans x6
      refine ⟨_, rfl, lm, _, rfl, SqL.of h6, by omega, fun ls ms pm rs hls => ?_⟩
      have ems : ms = even := sorted_unique (pm.trans per) rs (re.imp fun h => by omega)
      subst ems
      have x7 : Ext [] J6 (upd J6 ls (.lst (ms.map V.int))) := .new hls
      have h7 : (upd J6 ls (.lst (ms.map V.int))) ls = some (.lst (ms.map V.int)) := upd_same
      generalize upd J6 ls (.lst (ms.map V.int)) = J7 at x7 h7 ⊢
      refine ⟨_, rfl, ua, _, rfl, .inr (SqT.of ((y6.trans x7).tup _ _ hua)), fun l8 hl8 => ?_⟩
      have x8 : Ext [] J7 (upd J7 l8 (.lst (ms.map V.int))) := .new hl8
      have h8 : (upd J7 l8 (.lst (ms.map V.int))) l8 = some (.lst (ms.map V.int)) := upd_same
      generalize upd J7 l8 (.lst (ms.map V.int)) = J8 at x8 h8 ⊢
      refine ⟨[], .list (ms.map .int), .list (ms.map .int), .lst (x8.keep _ _ (by simp) h7) (by simp) (.ints _), .lst h8 (by simp) (.ints _), canLay_ints _, canLay_ints _, by simp [PyData.depth, depth_ints], _, rfl, ?_⟩
      rw [if_pos rfl, eqv_lst]
      have y8 := (y6.trans x7).trans x8
      refine ⟨_, rfl, _, rfl, by show 2 ≤ sizeLine; decide, fun p9 hp9 => ?_⟩
      have x9 : Ext [] J8 (upd J8 p9 (.tup [v, .ref ua])) := .new hp9
      have h9 : (upd J8 p9 (.tup [v, .ref ua])) p9 = some (.tup [v, .ref ua]) := upd_same
      generalize upd J8 p9 (.tup [v, .ref ua]) = J9 at x9 h9 ⊢
      have y9 := y8.trans x9
      refine ⟨S, _, _, rfl, .tup h9 (.cons (rw0.ext (y9.mono (by simp))) (.cons (ru.ext (y9.mono (by simp))) .nil)), hg, _, rfl, rfl, _, rfl, ?_⟩
      rw [hdq]
      exact ⟨⟨_, _, _, _, _, rfl⟩, y9⟩
theorem d_law (F : Fun K "law" "law" (top 24) f fd) (B : Bt mg) (B2 : Bt2 mg) (D_law_feed : DefOk P w K mg base 1 "_law_feed" ["_law_script"] (spFeed K)) (D_law_draw : DefOk P w K mg base 1 "_law_draw" ["_law_feed_here", "_law_many"] spDraw) (D_law_web : DefOk P w K mg base 3 "_law_web" ["_law_feed_here", "_law_most", "_law_ties", "_law_signed"] spWeb)
    (D_law_right : DefOk P w K mg base 9 "_law_right" ["_law_web_here", "_law_even"] spRightR) (D_law_ring : DefOk P w K mg base 2 "_law_ring" ["_law_feed_here", "_law_web_here"] spLawRing) (D_law_turns : DefOk P w K mg base 1 "_law_turns" ["_law_one", "_law_other"] spTurnsL) : FnOk P w K mg base CX0 20 f fd ["_law_script"] (spLaw K) := by
  have sc : FnScope ["_law_script", "_law_feed_here", "_law_k", "_law_web_here", "_law_even", "_law_j", "_law_ring_here"] ["_law_script"] (defScope (top 24)) := ⟨rfl, rfl, rfl, by decide +kernel, rfl, by decide +kernel, by decide +kernel⟩
  refine F.okQ (k := 19) sc (fun vs H Q E h => ?_) (fun cdv A outer s H vs Q E hr h => ?_)
  · obtain ⟨_, _, rfl, _⟩ := h
    rfl
  obtain ⟨a, ns, rfl, hsq, hlen, q⟩ := h
  have hsz : sizeLine = 16777216 := by decide
  have hmo : most = 1099511627776 := rfl
  refine ⟨_, (qss_cons (qs_set (i := 1) sc.nd rfl (Or.inl rfl) (qe_callD D_law_feed (hr.mono (by decide)) (qa_c (qv 0) qa_nil)))
      (qss_cons (qs_for PassesOwn.never rfl (qi_range1 (by rfl) B2.range (qa_c qe_int qa_nil)) (qg_name (i := 2) sc.nd rfl (Or.inl rfl)) (qss_cons (qs_set (i := 3) sc.nd rfl (Or.inl rfl) (qe_callD D_law_web (hr.mono (by decide)) (qa_c (qv 1) (qa_c (qe_ix (ixL K) (qe_lst (qa_c qe_int (qa_c qe_int (qa_c qe_int qa_nil)))) (qe_op op_mod (qv 2) qe_int) (fun _ _ => rfl)) (qa_c qe_int (qa_c qe_bl qa_nil))))))
      (qss_cons (qs_set (i := 4) sc.nd rfl (Or.inl rfl) (qe_tup qa_nil))
      (qss_cons (qs_if (qt_not (qt_val (qe_callD D_law_right (hr.mono (by decide)) (qa_c (qv 3) (qa_c (qv 4) qa_nil))))) (qss_one (qs_ret qe_bl)) qss_nil)
      (qss_one (qs_for PassesOwn.never rfl (qi_range1 (by rfl) B2.range (qa_c (qe_op op_add qe_int (qe_callD D_law_draw (hr.mono (by decide)) (qa_c (qv 1) (qa_c qe_int qa_nil)))) qa_nil)) (qg_name (i := 5) sc.nd rfl (Or.inl rfl)) (qss_cons (qs_set (i := 6) sc.nd rfl (Or.inl rfl) (qe_callD D_law_ring (hr.mono (by decide)) (qa_c (qv 1) (qa_c (qv 3) qa_nil))))
      (qss_one (qs_if (qt_cmpR op_notN (qv 6) qe_non (nomark _)) (qss_cons (qs_set (i := 4) sc.nd rfl (Or.inl rfl) (qe_callD D_law_turns (hr.mono (by decide)) (qa_c (qv 4) (qa_c (qe_ix (ixT K) (qv 6) qe_int (fun _ _ => rfl)) qa_nil))))
      (qss_one (qs_if (qt_not (qt_val (qe_callD D_law_right (hr.mono (by decide)) (qa_c (qv 3) (qa_c (qv 4) qa_nil))))) (qss_one (qs_ret qe_bl)) qss_nil))) qss_nil)))))))))
      (qss_one (qs_ret qe_bl)))), ?_⟩
  refine ⟨_, rfl, a, ns, rfl, hsq, fun fa sa H1 f1 x1 e1 e2 => ?_⟩
  refine ⟨5, rfl, by decide, by decide, for_range (n := 5) (fun i σ' H' => (∃ s2 s3 s4 s5 s6, σ' = [some (.ref a), some (.ref fa), s2, s3, s4, s5, s6]) ∧ ∃ n', Feed H' fa sa n' ∧ n' ≤ 10000 * i) ⟨⟨_, _, _, _, _, rfl⟩, 0, f1, by omega⟩ ?_ (fun σ' H' _ => q H')⟩
  rintro i σ' H2 hi ⟨⟨s2, s3, s4, s5, s6, rfl⟩, n2, f2, hn2⟩
  have nlo := f2.lo
  refine ⟨_, rfl, by show 3 ≤ sizeLine; decide, fun l0 hl0 => ?_⟩
  have xl : Ext [] H2 (upd H2 l0 (.lst [.int 9, .int 5, .int 3])) := .new hl0
  have f2' := f2.ext xl (by simp) (by simp)
  have hl0' : (upd H2 l0 (.lst [.int 9, .int 5, .int 3])) l0 = some (.lst [.int 9, .int 5, .int 3]) := upd_same
  generalize upd H2 l0 (.lst [.int 9, .int 5, .int 3]) = H2' at xl f2' hl0' ⊢
  have hmod : (0 + (i : Int)) % 3 = 0 ∨ (0 + (i : Int)) % 3 = 1 ∨ (0 + (i : Int)) % 3 = 2 := by omega
  obtain ⟨mp, hmp, mp0, mp1⟩ : ∃ mp : Int, atI [V.int 9, V.int 5, V.int 3] ((0 + (i : Int)) % 3) = some (.int mp) ∧ 0 < mp ∧ mp ≤ 9 := by
    rcases hmod with e | e | e <;> rw [e]
    · exact ⟨9, rfl, by decide, by decide⟩
    · exact ⟨5, rfl, by decide, by decide⟩
    · exact ⟨3, rfl, by decide, by decide⟩
  refine ⟨_, rfl, _, _, rfl, rfl, (show (0 : Int) < 3 by decide), l0, _, _, _, rfl, rfl, SqL.of hl0', hmp, fa, sa, n2, mp, 16, true, rfl, f2', by omega, by omega, by decide, by decide, by omega, fun many ts v n3 H3 rv m0 m1 tl tok k0 k1 f3 x3 => ?_⟩
  have tl' : ts.length ≤ 16 := by omega
  have wf : WebFn many ts := ⟨m0, by omega, by omega, fun t ht => ⟨(tok t ht).a0, (tok t ht).ab, (tok t ht).bm, (tok t ht).p0, (tok t ht).p1⟩⟩
  have n3lo := f3.lo
  refine ⟨Nat.zero_le _, fun pe hpe => ?_⟩
  have x4 : Ext [] H3 (upd H3 pe (.tup [])) := .new hpe
  have h4 : (upd H3 pe (.tup [])) pe = some (.tup (([] : List Int).map V.int)) := upd_same
  have f4 := f3.ext x4 (by simp) (by simp)
  have rv4 := rv.ext (x4.mono (S' := [fa]) (by simp))
  generalize upd H3 pe (.tup []) = H4 at x4 h4 f4 rv4 ⊢
  refine ⟨_, rfl, _, rfl, [fa], many, ts, _, _, [], rfl, rv4, .tup h4 (.ints []), wf, tl', List.Pairwise.nil, by simp, fun p => by simp [endsOf], fun H5 x5 => ⟨_, rfl, ?_⟩⟩
  have f5 := f4.ext x5 (by simp) (by simp)
  have rv5 := rv4.ext (x5.mono (S' := [fa]) (by simp))
  refine ⟨_, rfl, fa, sa, n3, 6, rfl, f5, by decide, by decide, by omega, fun r6 H6 c0 c1 f6 x6 => ⟨_, _, rfl, rfl, _, rfl, by omega, by omega, ?_⟩⟩
  refine for_range (D := { nx := _, rt := Q }) (fun j σ' H' => (∃ (pe : Addr) (even : List Int) (s5 s6 : Option V), σ' = [some (.ref a), some (.ref fa), some (.int (0 + (i : Int))), some v, some (.ref pe), s5, s6] ∧ H' pe = some (.tup (even.map V.int)) ∧ Rise even ∧ (∀ k ∈ even, 0 ≤ k ∧ k < (ts.length : Int)) ∧ EvenSet ts even) ∧ Rep [fa] H' (webD many (ts.map tieD)) v ∧ (∃ n', Feed H' fa sa n' ∧ n' ≤ n3 + 1 + 300 * j) ∧ j ≤ (1 + r6).toNat)
    ⟨⟨pe, [], _, _, rfl, (x5.mono (S' := [fa]) (by simp)).trans x6 |>.tup _ _ h4, List.Pairwise.nil, by simp, fun p => by simp [endsOf]⟩, rv5.ext x6, ⟨n3 + 1, f6, by omega⟩, Nat.zero_le _⟩ ?_ ?_
  · rintro j σ' J0 hj ⟨⟨pe, even, s5, s6, rfl, hE, re, be, ee⟩, wJ, ⟨nJ, fJ, hnJ⟩, hjl⟩
    have jlo := fJ.lo
    have bound : nJ + 300 ≤ most := by omega
    have le := nodup_le re.nd be
    refine ⟨_, rfl, _, rfl, fa, sa, nJ, many, ts, _, rfl, fJ, wJ, m0, by omega, by omega, bound, fun n7 H7 k7 k7' f7 x7 => ?_, fun x r p pq n7 H7 hp hpq wk rnd rl k7 k7' f7 x7 => ?_⟩
    · refine ⟨_, rfl, rfl, _, rfl, ?_⟩
      have : (!decide (V.non = V.non)) = false := by simp
      rw [this]
      exact ⟨⟨pe, even, _, _, rfl, x7.tup _ _ hE, re, be, ee⟩, wJ.ext x7, ⟨n7, f7, by omega⟩, by omega⟩
    · refine ⟨_, rfl, rfl, _, rfl, ?_⟩
      have : (!decide (V.ref p = V.non)) = true := by simp
      rw [this]
      have bd := walk_in wk
      refine ⟨_, rfl, _, rfl, p, _, 1, _, rfl, rfl, SqT.of hp, rfl, [fa], _, _, even, r, rfl, .tup (x7.tup _ _ hE) (.ints _), .tup hpq (.ints _), re.nd, rnd, by omega, fun ms p8 H8 o8 h8 x8 => ?_⟩
      have b8 := odd_bound (m := ts.length) o8 fun k hk => by
        rcases List.mem_append.mp hk with h | h
        · exact be k h
        · exact bd k h
      have e8 : EvenSet ts ms := fun k => by
        have h1 := ends_same ts (fun z => o8.count z) k
        rw [ends_app, List.count_append] at h1
        have h2 := ee k
        have h3 := walk_even wk k
        omega
      have w8 := (wJ.ext x7).ext (x8.mono (S' := [fa]) (by simp))
      refine ⟨_, rfl, _, rfl, [fa], many, ts, _, _, ms, rfl, w8, .tup h8 (.ints _), wf, tl', o8.1, b8.1, e8, fun H9 x9 => ⟨_, rfl, ?_⟩⟩
      exact ⟨⟨p8, ms, _, _, rfl, x9.tup _ _ h8, o8.1, b8.1, e8⟩, w8.ext (x9.mono (by simp)), ⟨n7, f7.ext (x8.trans x9) (by simp) (by simp), by omega⟩, by omega⟩
  · rintro σ' J0 ⟨⟨pe, even, s5, s6, rfl, hE, re, be, ee⟩, wJ, ⟨nJ, fJ, hnJ⟩, hjl⟩
    exact ⟨⟨_, _, _, _, _, rfl⟩, nJ, fJ, by omega⟩
end
end Odj

set_option Elab.async false
set_option linter.all false
set_option maxRecDepth 100000
set_option maxHeartbeats 8000000
namespace Odj
open PySem L2
theorem all_mk {l : PySem.W.OpenLaw} {w : World} {K : PySem.W.Frag} {h : Heap} {mg : Str → Option Value} {fa : Addr} {f1 f2 f3 f5 f6 f8 f9 f11 f12 f14 f15 f16 f17 f18 f19 f20 f21 f22 f23 f24 : Addr} {od1 an1 od2 an2 od3 an3 od5 an5 od6 an6 od8 an8 od9 an9 od11 an11 od12 an12 od14 an14 od15 an15 od16 an16 od17 an17 od18 an18 od19 an19 od20 an20 od21 an21 od22 an22 od23 an23 od24 an24 : Option Addr} {sl1 sl2 sl3 sl5 sl6 sl8 sl9 sl11 sl12 sl14 sl15 sl16 sl17 sl18 sl19 sl20 sl21 sl22 sl23 sl24 : Array (Option Value)} {oc1 kV1 dc1 pm1 cd1 ct1 oc2 kV2 dc2 pm2 cd2 ct2 oc3 kV3 dc3 pm3 cd3 ct3 oc5 kV5 dc5 pm5 cd5 ct5 oc6 kV6 dc6 pm6 cd6 ct6 oc8 kV8 dc8 pm8 cd8 ct8 oc9 kV9 dc9 pm9 cd9 ct9 oc11 kV11 dc11 pm11 cd11 ct11 oc12 kV12 dc12 pm12 cd12 ct12 oc14 kV14 dc14 pm14 cd14 ct14 oc15 kV15 dc15 pm15 cd15 ct15 oc16 kV16 dc16 pm16 cd16 ct16 oc17 kV17 dc17 pm17 cd17 ct17 oc18 kV18 dc18 pm18 cd18 ct18 oc19 kV19 dc19 pm19 cd19 ct19 oc20 kV20 dc20 pm20 cd20 ct20 oc21 kV21 dc21 pm21 cd21 ct21 oc22 kV22 dc22 pm22 cd22 ct22 oc23 kV23 dc23 pm23 cd23 ct23 oc24 kV24 dc24 pm24 cd24 ct24 : Value} (X : K.In h) (G : h.Ns mainGlobals mg) (hfa : mg "law" = some (.ref fa))
    (a1 : PySem.W.nsIn K mainGlobals "is_whole" = some (some (.ref f1))) (l1 : K.lookup f1 = some ⟨oc1, od1, .func (PySem.W.fnOf "is_whole" "is_whole" (defArgs (top 1)) (defBody (top 1)) (defScope (top 1)) .none kV1 dc1 pm1 an1 cd1 ct1), sl1⟩) (c1 : PySem.W.codeIn K cd1 "is_whole" = true) (k1 : PySem.W.keepIn K (.ref f1) = true)
    (a2 : PySem.W.nsIn K mainGlobals "is_rising" = some (some (.ref f2))) (l2 : K.lookup f2 = some ⟨oc2, od2, .func (PySem.W.fnOf "is_rising" "is_rising" (defArgs (top 2)) (defBody (top 2)) (defScope (top 2)) .none kV2 dc2 pm2 an2 cd2 ct2), sl2⟩) (c2 : PySem.W.codeIn K cd2 "is_rising" = true) (k2 : PySem.W.keepIn K (.ref f2) = true)
    (a3 : PySem.W.nsIn K mainGlobals "is_rising_below" = some (some (.ref f3))) (l3 : K.lookup f3 = some ⟨oc3, od3, .func (PySem.W.fnOf "is_rising_below" "is_rising_below" (defArgs (top 3)) (defBody (top 3)) (defScope (top 3)) .none kV3 dc3 pm3 an3 cd3 ct3), sl3⟩) (c3 : PySem.W.codeIn K cd3 "is_rising_below" = true) (k3 : PySem.W.keepIn K (.ref f3) = true)
    (a5 : PySem.W.nsIn K mainGlobals "is_set" = some (some (.ref f5))) (l5 : K.lookup f5 = some ⟨oc5, od5, .func (PySem.W.fnOf "is_set" "is_set" (defArgs (top 5)) (defBody (top 5)) (defScope (top 5)) .none kV5 dc5 pm5 an5 cd5 ct5), sl5⟩) (c5 : PySem.W.codeIn K cd5 "is_set" = true) (k5 : PySem.W.keepIn K (.ref f5) = true)
    (a6 : PySem.W.nsIn K mainGlobals "is_tie_number" = some (some (.ref f6))) (l6 : K.lookup f6 = some ⟨oc6, od6, .func (PySem.W.fnOf "is_tie_number" "is_tie_number" (defArgs (top 6)) (defBody (top 6)) (defScope (top 6)) .none kV6 dc6 pm6 an6 cd6 ct6), sl6⟩) (c6 : PySem.W.codeIn K cd6 "is_tie_number" = true) (k6 : PySem.W.keepIn K (.ref f6) = true)
    (a8 : PySem.W.nsIn K mainGlobals "other_end" = some (some (.ref f8))) (l8 : K.lookup f8 = some ⟨oc8, od8, .func (PySem.W.fnOf "other_end" "other_end" (defArgs (top 8)) (defBody (top 8)) (defScope (top 8)) .none kV8 dc8 pm8 an8 cd8 ct8), sl8⟩) (c8 : PySem.W.codeIn K cd8 "other_end" = true) (k8 : PySem.W.keepIn K (.ref f8) = true)
    (a9 : PySem.W.nsIn K mainGlobals "is_step" = some (some (.ref f9))) (l9 : K.lookup f9 = some ⟨oc9, od9, .func (PySem.W.fnOf "is_step" "is_step" (defArgs (top 9)) (defBody (top 9)) (defScope (top 9)) .none kV9 dc9 pm9 an9 cd9 ct9), sl9⟩) (c9 : PySem.W.codeIn K cd9 "is_step" = true) (k9 : PySem.W.keepIn K (.ref f9) = true)
    (a11 : PySem.W.nsIn K mainGlobals "rings_of" = some (some (.ref f11))) (l11 : K.lookup f11 = some ⟨oc11, od11, .func (PySem.W.fnOf "rings_of" "rings_of" (defArgs (top 11)) (defBody (top 11)) (defScope (top 11)) .none kV11 dc11 pm11 an11 cd11 ct11), sl11⟩) (c11 : PySem.W.codeIn K cd11 "rings_of" = true) (k11 : PySem.W.keepIn K (.ref f11) = true)
    (a12 : PySem.W.nsIn K mainGlobals "ring_within" = some (some (.ref f12))) (l12 : K.lookup f12 = some ⟨oc12, od12, .func (PySem.W.fnOf "ring_within" "ring_within" (defArgs (top 12)) (defBody (top 12)) (defScope (top 12)) .none kV12 dc12 pm12 an12 cd12 ct12), sl12⟩) (c12 : PySem.W.codeIn K cd12 "ring_within" = true) (k12 : PySem.W.keepIn K (.ref f12) = true)
    (a14 : PySem.W.nsIn K mainGlobals "_law_feed" = some (some (.ref f14))) (l14 : K.lookup f14 = some ⟨oc14, od14, .func (PySem.W.fnOf "_law_feed" "_law_feed" (defArgs (top 14)) (defBody (top 14)) (defScope (top 14)) .none kV14 dc14 pm14 an14 cd14 ct14), sl14⟩) (c14 : PySem.W.codeIn K cd14 "_law_feed" = true) (k14 : PySem.W.keepIn K (.ref f14) = true)
    (a15 : PySem.W.nsIn K mainGlobals "_law_draw" = some (some (.ref f15))) (l15 : K.lookup f15 = some ⟨oc15, od15, .func (PySem.W.fnOf "_law_draw" "_law_draw" (defArgs (top 15)) (defBody (top 15)) (defScope (top 15)) .none kV15 dc15 pm15 an15 cd15 ct15), sl15⟩) (c15 : PySem.W.codeIn K cd15 "_law_draw" = true) (k15 : PySem.W.keepIn K (.ref f15) = true)
    (a16 : PySem.W.nsIn K mainGlobals "_law_price" = some (some (.ref f16))) (l16 : K.lookup f16 = some ⟨oc16, od16, .func (PySem.W.fnOf "_law_price" "_law_price" (defArgs (top 16)) (defBody (top 16)) (defScope (top 16)) .none kV16 dc16 pm16 an16 cd16 ct16), sl16⟩) (c16 : PySem.W.codeIn K cd16 "_law_price" = true) (k16 : PySem.W.keepIn K (.ref f16) = true)
    (a17 : PySem.W.nsIn K mainGlobals "_law_web" = some (some (.ref f17))) (l17 : K.lookup f17 = some ⟨oc17, od17, .func (PySem.W.fnOf "_law_web" "_law_web" (defArgs (top 17)) (defBody (top 17)) (defScope (top 17)) .none kV17 dc17 pm17 an17 cd17 ct17), sl17⟩) (c17 : PySem.W.codeIn K cd17 "_law_web" = true) (k17 : PySem.W.keepIn K (.ref f17) = true)
    (a18 : PySem.W.nsIn K mainGlobals "_law_whole" = some (some (.ref f18))) (l18 : K.lookup f18 = some ⟨oc18, od18, .func (PySem.W.fnOf "_law_whole" "_law_whole" (defArgs (top 18)) (defBody (top 18)) (defScope (top 18)) .none kV18 dc18 pm18 an18 cd18 ct18), sl18⟩) (c18 : PySem.W.codeIn K cd18 "_law_whole" = true) (k18 : PySem.W.keepIn K (.ref f18) = true)
    (a19 : PySem.W.nsIn K mainGlobals "_law_ahead" = some (some (.ref f19))) (l19 : K.lookup f19 = some ⟨oc19, od19, .func (PySem.W.fnOf "_law_ahead" "_law_ahead" (defArgs (top 19)) (defBody (top 19)) (defScope (top 19)) .none kV19 dc19 pm19 an19 cd19 ct19), sl19⟩) (c19 : PySem.W.codeIn K cd19 "_law_ahead" = true) (k19 : PySem.W.keepIn K (.ref f19) = true)
    (a20 : PySem.W.nsIn K mainGlobals "_law_turns" = some (some (.ref f20))) (l20 : K.lookup f20 = some ⟨oc20, od20, .func (PySem.W.fnOf "_law_turns" "_law_turns" (defArgs (top 20)) (defBody (top 20)) (defScope (top 20)) .none kV20 dc20 pm20 an20 cd20 ct20), sl20⟩) (c20 : PySem.W.codeIn K cd20 "_law_turns" = true) (k20 : PySem.W.keepIn K (.ref f20) = true)
    (a21 : PySem.W.nsIn K mainGlobals "_law_ring" = some (some (.ref f21))) (l21 : K.lookup f21 = some ⟨oc21, od21, .func (PySem.W.fnOf "_law_ring" "_law_ring" (defArgs (top 21)) (defBody (top 21)) (defScope (top 21)) .none kV21 dc21 pm21 an21 cd21 ct21), sl21⟩) (c21 : PySem.W.codeIn K cd21 "_law_ring" = true) (k21 : PySem.W.keepIn K (.ref f21) = true)
    (a22 : PySem.W.nsIn K mainGlobals "_law_is_ring" = some (some (.ref f22))) (l22 : K.lookup f22 = some ⟨oc22, od22, .func (PySem.W.fnOf "_law_is_ring" "_law_is_ring" (defArgs (top 22)) (defBody (top 22)) (defScope (top 22)) .none kV22 dc22 pm22 an22 cd22 ct22), sl22⟩) (c22 : PySem.W.codeIn K cd22 "_law_is_ring" = true) (k22 : PySem.W.keepIn K (.ref f22) = true)
    (a23 : PySem.W.nsIn K mainGlobals "_law_right" = some (some (.ref f23))) (l23 : K.lookup f23 = some ⟨oc23, od23, .func (PySem.W.fnOf "_law_right" "_law_right" (defArgs (top 23)) (defBody (top 23)) (defScope (top 23)) .none kV23 dc23 pm23 an23 cd23 ct23), sl23⟩) (c23 : PySem.W.codeIn K cd23 "_law_right" = true) (k23 : PySem.W.keepIn K (.ref f23) = true)
    (a24 : PySem.W.nsIn K mainGlobals "law" = some (some (.ref f24))) (l24 : K.lookup f24 = some ⟨oc24, od24, .func (PySem.W.fnOf "law" "law" (defArgs (top 24)) (defBody (top 24)) (defScope (top 24)) .none kV24 dc24 pm24 an24 cd24 ct24), sl24⟩) (c24 : PySem.W.codeIn K cd24 "law" = true) (k24 : PySem.W.keepIn K (.ref f24) = true)
    (z_isinstance : PySem.W.nsIn K mainGlobals "isinstance" = some none)
    (z_int : PySem.W.nsIn K mainGlobals "int" = some none)
    (z_bool : PySem.W.nsIn K mainGlobals "bool" = some none)
    (z_tuple : PySem.W.nsIn K mainGlobals "tuple" = some none)
    (z_len : PySem.W.nsIn K mainGlobals "len" = some none)
    (z_range : PySem.W.nsIn K mainGlobals "range" = some none)
    (z_list : PySem.W.nsIn K mainGlobals "list" = some none)
    (z_min : PySem.W.nsIn K mainGlobals "min" = some none)
    (z_max : PySem.W.nsIn K mainGlobals "max" = some none)
    (z_repr : PySem.W.nsIn K mainGlobals "repr" = some none)
    (z_sorted : PySem.W.nsIn K mainGlobals "sorted" = some none)
    (z_sum : PySem.W.nsIn K mainGlobals "sum" = some none)
    (z_enumerate : PySem.W.nsIn K mainGlobals "enumerate" = some none)
    (z_set : PySem.W.nsIn K mainGlobals "set" = some none) :
    ∃ fd : FuncData, (∀ (s : Shared) (v : Value), BindsTo s fd ⟨[v], []⟩ [("_law_script", v)]) ∧ ∀ base : Heap, K.In base → base.Ns mainGlobals mg → FnOk l.prog w K mg base CX0 20 fa fd ["_law_script"] (spLaw K) := by
  have e := hfa.symm.trans (PySem.W.mg_of X G a24)
  cases e
  have F1 := fun_mk (st := top 1) l1 c1 k1
  have m1 := PySem.W.mg_of X G a1
  have F2 := fun_mk (st := top 2) l2 c2 k2
  have m2 := PySem.W.mg_of X G a2
  have F3 := fun_mk (st := top 3) l3 c3 k3
  have m3 := PySem.W.mg_of X G a3
  have F5 := fun_mk (st := top 5) l5 c5 k5
  have m5 := PySem.W.mg_of X G a5
  have F6 := fun_mk (st := top 6) l6 c6 k6
  have m6 := PySem.W.mg_of X G a6
  have F8 := fun_mk (st := top 8) l8 c8 k8
  have m8 := PySem.W.mg_of X G a8
  have F9 := fun_mk (st := top 9) l9 c9 k9
  have m9 := PySem.W.mg_of X G a9
  have F11 := fun_mk (st := top 11) l11 c11 k11
  have m11 := PySem.W.mg_of X G a11
  have F12 := fun_mk (st := top 12) l12 c12 k12
  have m12 := PySem.W.mg_of X G a12
  have F14 := fun_mk (st := top 14) l14 c14 k14
  have m14 := PySem.W.mg_of X G a14
  have F15 := fun_mk (st := top 15) l15 c15 k15
  have m15 := PySem.W.mg_of X G a15
  have F16 := fun_mk (st := top 16) l16 c16 k16
  have m16 := PySem.W.mg_of X G a16
  have F17 := fun_mk (st := top 17) l17 c17 k17
  have m17 := PySem.W.mg_of X G a17
  have F18 := fun_mk (st := top 18) l18 c18 k18
  have m18 := PySem.W.mg_of X G a18
  have F19 := fun_mk (st := top 19) l19 c19 k19
  have m19 := PySem.W.mg_of X G a19
  have F20 := fun_mk (st := top 20) l20 c20 k20
  have m20 := PySem.W.mg_of X G a20
  have F21 := fun_mk (st := top 21) l21 c21 k21
  have m21 := PySem.W.mg_of X G a21
  have F22 := fun_mk (st := top 22) l22 c22 k22
  have m22 := PySem.W.mg_of X G a22
  have F23 := fun_mk (st := top 23) l23 c23 k23
  have m23 := PySem.W.mg_of X G a23
  have F24 := fun_mk (st := top 24) l24 c24 k24
  have m24 := PySem.W.mg_of X G a24
  have B : Bt mg := ⟨PySem.W.mg_none_of X G z_isinstance, PySem.W.mg_none_of X G z_int, PySem.W.mg_none_of X G z_bool, PySem.W.mg_none_of X G z_tuple, PySem.W.mg_none_of X G z_len⟩
  have B2 : Bt2 mg := ⟨PySem.W.mg_none_of X G z_range⟩
  have B3 : Bt3 mg := ⟨PySem.W.mg_none_of X G z_list, PySem.W.mg_none_of X G z_min, PySem.W.mg_none_of X G z_max⟩
  have B5 : Bt5 mg := ⟨PySem.W.mg_none_of X G z_repr⟩
  have B7 : Bt7 mg := ⟨PySem.W.mg_none_of X G z_sorted, PySem.W.mg_none_of X G z_sum, PySem.W.mg_none_of X G z_enumerate⟩
  have B8 : Bt8 mg := ⟨PySem.W.mg_none_of X G z_set, PySem.W.mg_none_of X G z_sorted, PySem.W.mg_none_of X G z_enumerate⟩
  exact ⟨PySem.W.fnOf "law" "law" (defArgs (top 24)) (defBody (top 24)) (defScope (top 24)) .none kV24 dc24 pm24 an24 cd24 ct24, fun s v => .of_eq rfl, fun base _ _ => (by
    have dr := d_draw (P := l.prog) (w := w) (base := base) F15 m15 B
    have dp := d_price F16 m16 dr
    have iw := d_is_whole (P := l.prog) (w := w) (base := base) F1 m1 B
    have tn := d_is_tie_number F6 m6 (d_is_set F5 m5 B (d_is_rising_below F3 m3 B (d_is_rising F2 m2 B iw)))
    have la := d_law_ahead (P := l.prog) (w := w) (base := base) F19 m19
    have wi := d_ring_within F12 m12 B (d_is_stepG F9 m9 tn) (d_other_end F8 m8)
    exact d_law F24 B B2 (d_feed F14 m14) dr (d_web F17 m17 B B2 dr dp) (d_law_right F23 m23 B B2 B3 B5 B7 (d_rings_of F11 m11 B B3 wi) (d_law_is_ring F22 m22 B B2 (d_whole F18 m18 B) la)) (d_law_ring F21 m21 B B2 dr la) (d_law_turns F20 m20 B B8))⟩
theorem walk {l : PySem.W.OpenLaw} {q : Program} {loose : List Str} {XP : (Str → Option Value) → Heap → Prop} {YP : World → Heap → Prop} {d : DefRec} {K : Params → PySem.W.Frag} (hn : l.most = some 63) (hdf : d.params.defaults = [])
    (hY : ∀ (w : World) (h : Heap), YP w h → (K w.params).In h)
    (F : ∀ (w : World) (mg : Str → Option Value) (fa : Addr) (h : Heap), (K w.params).In h → h.Ns mainGlobals mg → mg d.name = some (.ref fa) →
      ∃ fd : FuncData, (∀ (s : Shared) (u : Value), BindsTo s fd ⟨[u], []⟩ [("_law_script", u)]) ∧ ∀ base : Heap, (K w.params).In base → base.Ns mainGlobals mg → FnOk l.prog w (K w.params) mg base CX0 20 fa fd ["_law_script"] (spLaw (K w.params))) :
    PySem.W.WalkO q loose XP YP l.row.toRowW d [] (fun f vs => PySem.call f vs) :=
  L2.walk_of (n := 63) (k := 20) (x := "_law_script") (CX := fun _ => CX0) (sp := fun w => spLaw (K w.params)) hn (by decide) hdf ⟨rfl, by decide, by decide, rfl⟩ hY F (fun _ _ a ns hl _ hS => ⟨a, ns, rfl, hS, hl, fun _ => rfl⟩) fun _ _ _ _ _ z => z
end Odj
open PySem PySem.W PyProof.Rows
set_option maxRecDepth 100000 in
set_option maxHeartbeats 0 in
theorem PySem.Challenge.cw_oddjoins_k09_even_sets_as_rings_holds : PySem.Challenge.rw_oddjoins_k09_even_sets_as_rings.Holds := by
  w_on; o_law; k_head; (case hw => w_witness2)
  k_fill
  refine Odj.walk (l := PySem.Challenge.rw_oddjoins_k09_even_sets_as_rings) rfl rfl (fun w h Y => PySem.W.kIn_of Y) ?F
  case F =>
    intro w mg fa h KX G hmg
    refine' Odj.all_mk KX G hmg ?a1 ?l1 ?c1 ?k1 ?a2 ?l2 ?c2 ?k2 ?a3 ?l3 ?c3 ?k3 ?a5 ?l5 ?c5 ?k5 ?a6 ?l6 ?c6 ?k6 ?a8 ?l8 ?c8 ?k8 ?a9 ?l9 ?c9 ?k9 ?a11 ?l11 ?c11 ?k11 ?a12 ?l12 ?c12 ?k12 ?a14 ?l14 ?c14 ?k14 ?a15 ?l15 ?c15 ?k15 ?a16 ?l16 ?c16 ?k16 ?a17 ?l17 ?c17 ?k17 ?a18 ?l18 ?c18 ?k18 ?a19 ?l19 ?c19 ?k19 ?a20 ?l20 ?c20 ?k20 ?a21 ?l21 ?c21 ?k21 ?a22 ?l22 ?c22 ?k22 ?a23 ?l23 ?c23 ?k23 ?a24 ?l24 ?c24 ?k24 ?z_isinstance ?z_int ?z_bool ?z_tuple ?z_len ?z_range ?z_list ?z_min ?z_max ?z_repr ?z_sorted ?z_sum ?z_enumerate ?z_set
    (case a1 => k_is); (case l1 => k_is); (case c1 => k_is); (case k1 => k_is)
    (case a2 => k_is); (case l2 => k_is); (case c2 => k_is); (case k2 => k_is)
    (case a3 => k_is); (case l3 => k_is); (case c3 => k_is); (case k3 => k_is)
    (case a5 => k_is); (case l5 => k_is); (case c5 => k_is); (case k5 => k_is)
    (case a6 => k_is); (case l6 => k_is); (case c6 => k_is); (case k6 => k_is)
    (case a8 => k_is); (case l8 => k_is); (case c8 => k_is); (case k8 => k_is)
    (case a9 => k_is); (case l9 => k_is); (case c9 => k_is); (case k9 => k_is)
    (case a11 => k_is); (case l11 => k_is); (case c11 => k_is); (case k11 => k_is)
    (case a12 => k_is); (case l12 => k_is); (case c12 => k_is); (case k12 => k_is)
    (case a14 => k_is); (case l14 => k_is); (case c14 => k_is); (case k14 => k_is)
    (case a15 => k_is); (case l15 => k_is); (case c15 => k_is); (case k15 => k_is)
    (case a16 => k_is); (case l16 => k_is); (case c16 => k_is); (case k16 => k_is)
    (case a17 => k_is); (case l17 => k_is); (case c17 => k_is); (case k17 => k_is)
    (case a18 => k_is); (case l18 => k_is); (case c18 => k_is); (case k18 => k_is)
    (case a19 => k_is); (case l19 => k_is); (case c19 => k_is); (case k19 => k_is)
    (case a20 => k_is); (case l20 => k_is); (case c20 => k_is); (case k20 => k_is)
    (case a21 => k_is); (case l21 => k_is); (case c21 => k_is); (case k21 => k_is)
    (case a22 => k_is); (case l22 => k_is); (case c22 => k_is); (case k22 => k_is)
    (case a23 => k_is); (case l23 => k_is); (case c23 => k_is); (case k23 => k_is)
    (case a24 => k_is); (case l24 => k_is); (case c24 => k_is); (case k24 => k_is)
    (case z_isinstance => k_is); (case z_int => k_is); (case z_bool => k_is); (case z_tuple => k_is)
    (case z_len => k_is); (case z_range => k_is); (case z_list => k_is); (case z_min => k_is)
    (case z_max => k_is); (case z_repr => k_is); (case z_sorted => k_is); (case z_sum => k_is)
    (case z_enumerate => k_is); (case z_set => k_is)

