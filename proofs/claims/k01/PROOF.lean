import PyProof.Rows.All
import Wide.All
import OpenK.AllK
import Wide.FinOn
import Lean
import PyProof.EqAt
import PyProof.EqKinds
import PyProof.TupleCall
import PyProof.P3Statements
import PySem.Challenge.RW_oddjoins_k01_what_is_a_web
set_option Elab.async false
set_option linter.all false
set_option maxRecDepth 100000
/-! THE HAND LAYER, for ints, bools, texts, own classes, LISTS and tuples (index, slices, in, append, pop ..), calls, loops. Paste it whole ahead of your own text; what your proof does not reach may be deleted. -/
namespace L2
open PySem PySem.Spec PyProof.Rows

/-- a key: an int or a str -/
abbrev Key := Sum Int Str
def keyIs : Key → Value → Bool
  | .inl k, v => Value.isInt k v
  | .inr x, v => Value.isStrOf x v
def keyH (w : World) : Key → Int
  | .inl k => hashInt k
  | .inr x => hashStr w x
theorem keyIs_shape : ∀ {k : Key} {v : Value}, keyIs k v = true → (∃ i t, k = Sum.inl i ∧ v = Value.int i t) ∨ (∃ x t, k = Sum.inr x ∧ v = Value.str x t)
  | .inl i, v, h => by
    obtain ⟨t, e⟩ := Value.isInt_shape (k := i) (v := v) h
    exact .inl ⟨i, t, rfl, e⟩
  | .inr x, v, h => by
    obtain ⟨t, e⟩ := Value.isStrOf_shape (x := x) (v := v) h
    exact .inr ⟨x, t, rfl, e⟩
theorem key_ll (a b : Int) : decide ((Sum.inl a : Key) = Sum.inl b) = (a == b) := by
  by_cases e : a = b
  · subst e; simp
  · have h : ¬ (Sum.inl a : Key) = Sum.inl b := fun q => e (Sum.inl.inj q)
    rw [decide_eq_false h]
    exact (beq_eq_false_iff_ne.mpr e).symm
theorem key_rr (a b : Str) : decide ((Sum.inr a : Key) = Sum.inr b) = decide (a = b) := by
  by_cases e : a = b
  · subst e; simp
  · have h : ¬ (Sum.inr a : Key) = Sum.inr b := fun q => e (Sum.inr.inj q)
    rw [decide_eq_false h, decide_eq_false e]
theorem key_lr (a : Int) (b : Str) : decide ((Sum.inl a : Key) = Sum.inr b) = false := decide_eq_false (fun q => nomatch q)
theorem key_rl (a : Str) (b : Int) : decide ((Sum.inr a : Key) = Sum.inl b) = false := decide_eq_false (fun q => nomatch q)

def mixKind (prog : Program) (w : World) : PySem.KeyKind prog w Key where
  is := keyIs
  hash := keyH w
  inj := fun v a b ha hb => by
    rcases keyIs_shape ha with ⟨i, t, rfl, rfl⟩ | ⟨x, t, rfl, rfl⟩
    · rcases keyIs_shape hb with ⟨j, u, rfl, e⟩ | ⟨y, u, rfl, e⟩
      · injection e with e1 _; rw [e1]
      · exact nomatch e
    · rcases keyIs_shape hb with ⟨j, u, rfl, e⟩ | ⟨y, u, rfl, e⟩
      · exact nomatch e
      · injection e with e1 _; rw [e1]
  byValue := fun k v h => by
    rcases keyIs_shape h with ⟨i, t, rfl, rfl⟩ | ⟨x, t, rfl, rfl⟩ <;> rfl
  pyHash := fun hv h => by
    rcases keyIs_shape hv with ⟨i, t, rfl, rfl⟩ | ⟨x, t, rfl, rfl⟩
    · exact wpAny_pyHash_int h
    · exact wpAny_pyHash_str h
  eqBool := fun hu hv h => by
    rcases keyIs_shape hu with ⟨i, t, rfl, rfl⟩ | ⟨x, t, rfl, rfl⟩
    · rcases keyIs_shape hv with ⟨j, u, rfl, rfl⟩ | ⟨y, u, rfl, rfl⟩
      · rw [key_ll] at h; exact wpAny_eqBool_int h
      · rw [key_lr] at h; exact SeqAt.EqAt.int_str i t y u _ _ _ _ h
    · rcases keyIs_shape hv with ⟨j, u, rfl, rfl⟩ | ⟨y, u, rfl, rfl⟩
      · rw [key_rl] at h; exact SeqAt.EqAt.str_int x t j u _ _ _ _ h
      · rw [key_rr] at h; exact wpAny_eqBool_str h
  «strs» := fun k x t v h => by
    rcases keyIs_shape h with ⟨i, u, rfl, e⟩ | ⟨y, u, rfl, e⟩
    · exact nomatch e
    · injection e with e1 _
      subst e1
      cases v <;> rfl

end L2

namespace L2
open PySem PySem.Spec PyProof.Rows

/-- a value, without the heap -/
inductive V where
  | non | bl (b : Bool) | int (i : Int) | str (x : Str) | byt (b : Array UInt8) | flt (b : UInt64) | ref (a : Addr) | ty (n : String)
  deriving DecidableEq

def RelV : V → Value → Prop
  | .non, u => u = Value.none
  | .bl b, u => u = Value.bool b
  | .int i, u => ∃ t, u = Value.int i t
  | .str x, u => ∃ t, u = Value.str x t
  | .byt b, u => ∃ t, u = Value.bytes b t
  | .flt b, u => ∃ t, u = Value.float b t
  | .ref a, u => u = Value.ref a
  | .ty n, u => u = Value.type n

abbrev Vals : List V → List Value → Prop := Paired RelV
theorem Vals.length {xs : List V} {us : List Value} (r : Vals xs us) : xs.length = us.length := Paired.length r
theorem Vals.get : ∀ {xs : List V} {us : List Value} {i : Nat} {x : V}, Vals xs us → xs[i]? = some x → ∃ u, us[i]? = some u ∧ RelV x u
  | _, _, _, _, .nil, e => by simp at e
  | _, _, 0, _, .cons r _, e => by simp at e; subst e; exact ⟨_, rfl, r⟩
  | _, _, i + 1, x, .cons _ t, e => by
    obtain ⟨u, h1, h2⟩ := Vals.get (i := i) (x := x) t (by simpa using e)
    exact ⟨u, by simpa using h1, h2⟩
theorem Vals.set {x : V} {u : Value} (r : RelV x u) : ∀ {xs : List V} {us : List Value} (i : Nat), Vals xs us → Vals (xs.set i x) (us.set i u)
  | _, _, _, .nil => .nil
  | _, _, 0, .cons _ t => .cons r t
  | _, _, i + 1, .cons q t => .cons q (Vals.set r i t)
theorem Vals.append : ∀ {xs ys : List V} {us ws : List Value}, Vals xs us → Vals ys ws → Vals (xs ++ ys) (us ++ ws)
  | _, _, _, _, .nil, s => s
  | _, _, _, _, .cons r t, s => .cons r (Vals.append t s)
theorem Vals.take : ∀ {xs : List V} {us : List Value} (n : Nat), Vals xs us → Vals (xs.take n) (us.take n)
  | _, _, 0, _ => .nil
  | _, _, _ + 1, .nil => .nil
  | _, _, n + 1, .cons r t => .cons r (Vals.take n t)
theorem Vals.drop : ∀ {xs : List V} {us : List Value} (n : Nat), Vals xs us → Vals (xs.drop n) (us.drop n)
  | _, _, 0, r => r
  | _, _, _ + 1, .nil => .nil
  | _, _, n + 1, .cons _ t => Vals.drop n t
def RelO : Option V → Option Value → Prop
  | some v, some u => RelV v u
  | none, none => True
  | _, _ => False
def KV {κ : Type} : List (κ × V) → List (κ × Value) → Prop := Paired fun (p : κ × V) (q : κ × Value) => p.1 = q.1 ∧ RelV p.2 q.2

/-- a key of a dict (00_mix): an int or a text -/
def kV : Key → V
  | .inl i => .int i
  | .inr x => .str x

/-- what stands at a tracked address -/
inductive HO where
  /-- a list -/
  | lst (xs : List V)
  /-- a tuple (never changes) -/
  | tup (xs : List V)
  /-- a dict whose keys are ints and texts; one whose keys are tuples of ints and texts (the empty one is both) -/
  | dK (kvs : List (Key × V)) | dT (kvs : List (List Key × V))
  /-- a set of ints: its members, its size -/
  | set (S : Int → Bool) (n : Nat)
  /-- an instance of the class at C, its dict at dx, its attributes -/
  | ins (C dx : Addr) (fs : List (Str × V))
  /-- the dict of the instance at x -/
  | own (x : Addr)
  /-- the dict of an exception -/
  | xd (fs : List (Str × V))
  /-- a bound method, f of x -/
  | met (f x : Addr)
  /-- a range object lo, lo + 1, .. below hi -/
  | rng (lo hi : Int)
  /-- a thing that is known to the object (the script; a dict while a loop walks it): read, never written while it is so -/
  | frz (o : Obj) (u : HO)
  /-- a code object's table -/
  | tbl (ps : Array Value)
  /-- any other thing, by what is true of its one object (a def of one's own: SetO a S n := HO.ext fun h => ..) -/
  | ext (φ : Heap → Prop)

abbrev Hp := Addr → Option HO
def upd (H : Hp) (a : Addr) (o : HO) : Hp := fun b => if b = a then some o else H b
theorem upd_same {H : Hp} {a : Addr} {o : HO} : upd H a o a = some o := by unfold upd; rw [if_pos rfl]
theorem upd_ne {H : Hp} {a b : Addr} {o : HO} (h : b ≠ a) : upd H a o b = H b := by unfold upd; rw [if_neg h]
theorem ne_of_none {H : Hp} {a b : Addr} {o : HO} (h : H a = some o) (h' : H b = none) : a ≠ b := by
  intro e; subst e; rw [h] at h'; cases h'

section
variable (P : Program) (w : World)
def ObjOk (H : Hp) (h : Heap) (a : Addr) : HO → Prop
  | .lst xs => xs.length ≤ sizeLine ∧ ∃ (its : List Value) (n : Nat), Vals xs its ∧ h.get? a = some { cls := .type "list", data := .seq its.toArray n }
  | .tup xs => xs.length ≤ sizeLine ∧ ∃ its : List Value, Vals xs its ∧ IsTup h a its.toArray
  | .dK kvs => kvs.length ≤ sizeLine ∧ (a == sysModules) = false ∧ ∃ vs, KV kvs vs ∧ h.DictOf (mixKind P w) a vs
  | .dT kvs => kvs.length ≤ sizeLine ∧ (a == sysModules) = false ∧ ∃ xs : List (List Key × Addr × Value),
      Paired (fun (p : List Key × V) (q : List Key × Addr × Value) => p.1 = q.1 ∧ H q.2.1 = some (.tup (p.1.map kV)) ∧ RelV p.2 q.2.2) kvs xs ∧
      ∃ o es ep, h.get? a = some o ∧ o.ExactDict ∧ o.data = .dict es ep ∧ es.toList = xs.map (entryOfKey (tupleKind (mixKind P w))) ∧ (xs.map (·.1)).Nodup
  | .set S n => h.SetOf (intKind P w) a S n
  | .ins C dx fs => H dx = some (.own a) ∧ fs.length ≤ 1000 ∧ dx ≠ a ∧ h.get? a = some (PySem.W.instObj C dx) ∧
      ∃ mA, h.Ns1 dx mA ∧ (∀ f, RelO (fs.lookup f) (mA f)) ∧ PySem.Within mA (fs.map (·.1))
  | .own _ => ∃ o, h.get? a = some o
  | .xd fs => ∃ mA, h.Ns1 a mA ∧ ∀ f, RelO (fs.lookup f) (mA f)
  | .rng lo hi => ∃ t u v, h.get? a = some { cls := .type "range", data := .fields #[.int lo t, .int hi u, .int 1 v] }
  | .frz o u => h.get? a = some o ∧ ObjOk H h a u
  | .tbl ps => h.get? a = some { cls := .none, data := .fields ps }
  | .met f x => h.get? a = some (PySem.W.methodObj (.ref f) (.ref x))
  | .ext φ => φ h ∧ (∃ o, h.get? a = some o) ∧ ∀ h1 h2 : Heap, φ h1 → (∀ o, h1.get? a = some o → h2.get? a = some o) → φ h2
/-- the abstract heap is held -/
def HOk (H : Hp) (h : Heap) : Prop := ∀ a o, H a = some o → ObjOk P w H h a o
end

section
variable {P : Program} {w : World} {H H' : Hp} {h h' : Heap} {a : Addr} {o : HO}
theorem ObjOk.lt (x : ObjOk P w H h a o) : a < h.objs.size := by
  cases o with
  | lst xs => obtain ⟨_, _, _, _, e⟩ := x; exact Heap.lt_size e
  | tup xs => obtain ⟨_, _, _, p⟩ := x; exact p.lt
  | dK kvs => obtain ⟨_, _, _, _, o, _, _, e, _⟩ := x; exact Heap.lt_size e
  | dT kvs => obtain ⟨_, _, _, _, o, _, _, e, _⟩ := x; exact Heap.lt_size e
  | set S n => obtain ⟨o, _, _, _, e, _⟩ := x; exact Heap.lt_size e
  | ins C dx fs => obtain ⟨_, _, _, e, _⟩ := x; exact Heap.lt_size e
  | own y => obtain ⟨_, e⟩ := x; exact Heap.lt_size e
  | xd fs => obtain ⟨_, ⟨_, _, _, e, _⟩, _⟩ := x; exact Heap.lt_size e
  | rng lo hi => obtain ⟨_, _, _, e⟩ := x; exact Heap.lt_size e
  | frz ob u => obtain ⟨e, _⟩ := x; exact Heap.lt_size e
  | tbl ps => exact Heap.lt_size (show h.get? a = some _ from x)
  | met f y => exact Heap.lt_size (show h.get? a = some _ from x)
  | ext φ => obtain ⟨_, ⟨_, e⟩, _⟩ := x; exact Heap.lt_size e
theorem Paired.mapP {α β : Type} {F G : α → β → Prop} : ∀ {l₁ : List α} {l₂ : List β}, Paired F l₁ l₂ → (∀ a b, F a b → G a b) → Paired G l₁ l₂
  | _, _, .nil, _ => .nil
  | _, _, .cons r t, f => .cons (f _ _ r) (Paired.mapP t f)
/-- what an object's description leans on: its own object, its own dict, the tuples -/
theorem ObjOk.stay (x : ObjOk P w H h a o) (k : ∀ b u, (b = a ∨ H b = some (.own a)) → h.get? b = some u → h'.get? b = some u)
    (ho : ∀ b, H b = some (.own a) → H' b = some (.own a)) (ht : ∀ b xs, H b = some (.tup xs) → H' b = some (.tup xs)) : ObjOk P w H' h' a o := by
  induction o with
  | lst xs => obtain ⟨z, its, n, r, e⟩ := x; exact ⟨z, its, n, r, k _ _ (.inl rfl) e⟩
  | tup xs => obtain ⟨z, its, r, ob, e, c⟩ := x; exact ⟨z, its, r, ob, k _ _ (.inl rfl) e, c⟩
  | dK kvs => obtain ⟨z, y, vs, r, ob, es, ep, e, c⟩ := x; exact ⟨z, y, vs, r, ob, es, ep, k _ _ (.inl rfl) e, c⟩
  | dT kvs =>
    obtain ⟨z, y, xs, r, ob, es, ep, e, c⟩ := x
    exact ⟨z, y, xs, Paired.mapP r fun p q z => ⟨z.1, ht _ _ z.2.1, z.2.2⟩, ob, es, ep, k _ _ (.inl rfl) e, c⟩
  | set S n => obtain ⟨ob, es, ep, t, e, c⟩ := x; exact ⟨ob, es, ep, t, k _ _ (.inl rfl) e, c⟩
  | ins C dx fs =>
    obtain ⟨d, z, ne, e, mA, ⟨od, es, ep, e2, c⟩, r⟩ := x
    exact ⟨ho _ d, z, ne, k _ _ (.inl rfl) e, mA, ⟨od, es, ep, k _ _ (.inr d) e2, c⟩, r⟩
  | own y => obtain ⟨ob, e⟩ := x; exact ⟨ob, k _ _ (.inl rfl) e⟩
  | xd fs => obtain ⟨mA, ⟨od, es, ep, e, c⟩, r⟩ := x; exact ⟨mA, ⟨od, es, ep, k _ _ (.inl rfl) e, c⟩, r⟩
  | rng lo hi => obtain ⟨t, u, v, e⟩ := x; exact ⟨t, u, v, k _ _ (.inl rfl) e⟩
  | frz ob u ih => obtain ⟨e, q⟩ := x; exact ⟨k _ _ (.inl rfl) e, ih q⟩
  | tbl ps =>
    have e : h.get? a = some { cls := .none, data := .fields ps } := x
    show h'.get? a = some { cls := .none, data := .fields ps }
    exact k a _ (.inl rfl) e
  | met f y =>
    have e : h.get? a = some (PySem.W.methodObj (.ref f) (.ref y)) := x
    show h'.get? a = some (PySem.W.methodObj (.ref f) (.ref y))
    exact k a _ (.inl rfl) e
  | ext φ => obtain ⟨p, ⟨o, e⟩, st⟩ := x; exact ⟨st _ _ p fun o q => k _ _ (.inl rfl) q, ⟨o, k _ _ (.inl rfl) e⟩, st⟩
theorem HOk.lt (x : HOk P w H h) (e : H a = some o) : a < h.objs.size := (x a o e).lt
theorem HOk.fresh (x : HOk P w H h) (e : h.objs.size ≤ a) : H a = none := by
  cases q : H a with
  | none => rfl
  | some u => exact absurd (Nat.lt_of_lt_of_le (x.lt q) e) (Nat.lt_irrefl _)
/-- every object of the heap is kept -/
theorem HOk.kept (x : HOk P w H h) (k : ∀ b u, h.get? b = some u → h'.get? b = some u) : HOk P w H h' := fun a o e =>
  (x a o e).stay (fun b u _ q => k b u q) (fun _ q => q) fun _ _ q => q
/-- a new object is laid and tracked -/
theorem HOk.laid (x : HOk P w H h) (k : ∀ b u, h.get? b = some u → h'.get? b = some u) (hp : h.objs.size ≤ a) (new : ObjOk P w (upd H a o) h' a o) : HOk P w (upd H a o) h' := fun b u e => by
  have hn := x.fresh hp
  by_cases hb : b = a
  · subst hb; rw [upd_same] at e; cases e; exact new
  · rw [upd_ne hb] at e
    exact (x b u e).stay (fun c v _ q => k c v q) (fun c q => by rw [upd_ne (ne_of_none q hn)]; exact q) fun c xs q => by rw [upd_ne (ne_of_none q hn)]; exact q
end

/-- what may be read as u: it is u, or a known u -/
def Rd (H : Hp) (a : Addr) (u : HO) : Prop := H a = some u ∨ ∃ o, H a = some (.frz o u)
theorem Rd.of {H : Hp} {a : Addr} {u : HO} (h : H a = some u) : Rd H a u := .inl h
theorem Rd.ok {P : Program} {w : World} {H : Hp} {h : Heap} {a : Addr} {u : HO} (r : Rd H a u) (x : HOk P w H h) : ObjOk P w H h a u := by
  rcases r with r | ⟨o, r⟩
  · exact x a u r
  · obtain ⟨_, q⟩ := x a _ r
    exact q
/-- what may be written -/
def Mut : Option HO → Prop
  | some (.lst _) => True
  | some (.dK _) => True
  | some (.dT _) => True
  | some (.set _ _) => True
  | some (.ins _ _ _) => True
  | some (.ext _) => True
  | _ => False
section
variable {P : Program} {w : World} {H : Hp} {h h' : Heap} {x e : Addr} {o' : HO}
/-- the object at e is changed: x itself, or the dict of the instance x -/
theorem HOk.write (ok : HOk P w H h) (mu : Mut (H x)) (he : e = x ∨ H e = some (.own x)) (k : ∀ b u, b ≠ e → h.get? b = some u → h'.get? b = some u) (heo : ∃ u, h'.get? e = some u)
    (new : ObjOk P w (upd H x o') h' x o') : HOk P w (upd H x o') h' := fun b u q => by
  have nown : ∀ c y, H c = some (.own y) → c ≠ x := fun c y r z => by subst z; rw [r] at mu; exact mu
  have ntup : ∀ c xs, H c = some (.tup xs) → c ≠ x := fun c xs r z => by subst z; rw [r] at mu; exact mu
  by_cases hb : b = x
  · subst hb; rw [upd_same] at q; cases q; exact new
  · rw [upd_ne hb] at q
    by_cases hbe : b = e
    · have q' : H b = some (.own x) := by
        rcases he with z | z
        · exact absurd (hbe.trans z) hb
        · rw [hbe]; exact z
      rw [q] at q'; cases q'
      obtain ⟨v, hv⟩ := heo
      exact ⟨v, by rw [hbe]; exact hv⟩
    · refine (ok b u q).stay (fun c v hc r => k c v ?_ r) (fun c r => by rw [upd_ne (nown c b r)]; exact r) fun c xs r => by rw [upd_ne (ntup c xs r)]; exact r
      rcases hc with rfl | hc
      · exact hbe
      · rintro rfl
        rcases he with z | z
        · exact nown c b hc z
        · rw [hc] at z; cases z; exact hb rfl
end

/-! ### kept unless tracked; of the frames at fs (the callers') the slots may change (an exception that passes writes there); of the records at ex (iterators) nothing is said -/
structure Un (fs ex : List Addr) (H H' : Hp) (h h' : Heap) : Prop where
  keep : ∀ b o, h.get? b = some o → H b = none → b ∉ fs → b ∉ ex → h'.get? b = some o
  slot : ∀ b o, h.get? b = some o → H b = none → b ∈ fs → b ∉ ex → ∃ sl, h'.get? b = some { o with slots := sl }
  free : ∀ b o, h.get? b = some o → H b = none → b ∉ ex → H' b = none
  there : ∀ b o, h.get? b = some o → b ∉ ex → ∃ o', h'.get? b = some o'
  tups : ∀ b xs, H b = some (.tup xs) → H' b = some (.tup xs)
  frzs : ∀ b o u, H b = some (.frz o u) → H' b = some (.frz o u)
  tbls : ∀ b ps, H b = some (.tbl ps) → ∃ more, H' b = some (.tbl (ps ++ more))
section
variable {fs fs' ex ex' : List Addr} {H H1 H2 : Hp} {h h1 h2 h' : Heap} {a x e : Addr} {o : HO}
theorem Un.any (u : Un fs ex H H1 h h1) {b : Addr} {ob : Obj} (q : h.get? b = some ob) (n : H b = none) (hx : b ∉ ex) : ∃ sl, h1.get? b = some { ob with slots := sl } := by
  by_cases hb : b ∈ fs
  · exact u.slot b ob q n hb hx
  · exact ⟨ob.slots, u.keep b ob q n hb hx⟩
theorem Un.trans (a : Un fs ex H H1 h h1) (b : Un fs ex H1 H2 h1 h2) : Un fs ex H H2 h h2 where
  keep := fun c ob q n hc hx => b.keep c ob (a.keep c ob q n hc hx) (a.free c ob q n hx) hc hx
  slot := fun c ob q n hc hx => by
    obtain ⟨sl, e1⟩ := a.slot c ob q n hc hx
    obtain ⟨sl', e2⟩ := b.slot c _ e1 (a.free c ob q n hx) hc hx
    exact ⟨sl', e2⟩
  free := fun c ob q n hx => by
    obtain ⟨o', e1⟩ := a.there c ob q hx
    exact b.free c o' e1 (a.free c ob q n hx) hx
  there := fun c ob q hx => by
    obtain ⟨o', e1⟩ := a.there c ob q hx
    exact b.there c o' e1 hx
  tups := fun c xs q => b.tups c xs (a.tups c xs q)
  frzs := fun c ob xs q => b.frzs c ob xs (a.frzs c ob xs q)
  tbls := fun c ps q => by
    obtain ⟨m1, e1⟩ := a.tbls c ps q
    obtain ⟨m2, e2⟩ := b.tbls c _ e1
    exact ⟨m1 ++ m2, by rw [e2, Array.append_assoc]⟩
theorem Un.kept (k : ∀ b u, h.get? b = some u → h'.get? b = some u) : Un fs ex H H h h' :=
  ⟨fun b ob q _ _ _ => k b ob q, fun b ob q _ _ _ => ⟨ob.slots, k b ob q⟩, fun _ _ _ n _ => n, fun b ob q _ => ⟨ob, k b ob q⟩, fun _ _ q => q, fun _ _ _ q => q, fun _ ps q => ⟨#[], by rw [q]; simp⟩⟩
theorem Un.refl : Un fs ex H H h h := Un.kept fun _ _ q => q
theorem Un.laid (k : ∀ b u, h.get? b = some u → h'.get? b = some u) (hp : h.objs.size ≤ a) (hn : H a = none) : Un fs ex H (upd H a o) h h' where
  keep := fun b u q _ _ _ => k b u q
  slot := fun b u q _ _ _ => ⟨u.slots, k b u q⟩
  free := fun b u q n _ => by rw [upd_ne (Nat.ne_of_lt (Nat.lt_of_lt_of_le (Heap.lt_size q) hp))]; exact n
  there := fun b u q _ => ⟨u, k b u q⟩
  tups := fun b xs q => by rw [upd_ne (ne_of_none q hn)]; exact q
  frzs := fun b u xs q => by rw [upd_ne (ne_of_none q hn)]; exact q
  tbls := fun b ps q => ⟨#[], by rw [upd_ne (ne_of_none q hn), q]; simp⟩
theorem Un.write (mu : Mut (H x)) (he : e = x ∨ H e = some (.own x)) (k : ∀ b u, b ≠ e → h.get? b = some u → h'.get? b = some u) (heo : ∃ u, h'.get? e = some u) : Un fs ex H (upd H x o) h h' := by
  have hx : ∀ b, H b = none → b ≠ x := fun b n z => by subst z; rw [n] at mu; exact mu
  have hb : ∀ b, H b = none → b ≠ e := fun b n z => by
    subst z
    rcases he with r | r
    · exact hx b n r
    · rw [n] at r; cases r
  have hm : ∀ b u, H b = some u → ¬ Mut (some u) → b ≠ x := fun b u q nm z => by subst z; rw [q] at mu; exact nm mu
  refine ⟨fun b u q n _ _ => k b u (hb b n) q, fun b u q n _ _ => ⟨u.slots, k b u (hb b n) q⟩, fun b u q n _ => by rw [upd_ne (hx b n)]; exact n, fun b u q _ => ?_,
    fun b xs q => by rw [upd_ne (hm b _ q fun z => z)]; exact q, fun b u xs q => by rw [upd_ne (hm b _ q fun z => z)]; exact q, fun b ps q => ⟨#[], by rw [upd_ne (hm b _ q fun z => z), q]; simp⟩⟩
  by_cases hbe : b = e
  · subst hbe; exact heo
  · exact ⟨u, k b u hbe q⟩
theorem Un.mono (u : Un fs ex H H1 h h1) (hs : ∀ b ∈ fs, b ∈ fs') (hx : ∀ b ∈ ex, b ∈ ex') : Un fs' ex' H H1 h h1 :=
  ⟨fun b ob q n hb he => u.keep b ob q n (fun z => hb (hs b z)) fun z => he (hx b z), fun _ _ q n _ he => u.any q n fun z => he (hx _ z), fun b ob q n he => u.free b ob q n fun z => he (hx b z), fun b ob q he => u.there b ob q fun z => he (hx b z), u.tups, u.frzs, u.tbls⟩
end

/-! ### the heap without what is tracked -/
def trk (h : Heap) (H : Hp) : List Addr := (List.range h.objs.size).filter fun a => (H a).isSome
def hidT (h : Heap) (H : Hp) : Heap := PySem.W.hideAll h (trk h H)
theorem hidT_size (h : Heap) (H : Hp) : (hidT h H).objs.size = h.objs.size := PySem.W.hideAll_size _ _
theorem hidT_get {h : Heap} {H : Hp} {b : Addr} {o : Obj} (e : h.get? b = some o) (n : H b = none) : (hidT h H).get? b = some o :=
  PySem.W.hideAll_get _ e fun hm => by
    have q : (H b).isSome = true := (List.mem_filter.mp hm).2
    rw [n] at q; simp at q
theorem of_hidT {h : Heap} {H : Hp} {b : Addr} {o : Obj} (e : (hidT h H).get? b = some o) : h.get? b = some o ∧ H b = none := by
  have e' : h.get? b = some o := PySem.W.of_hideAll (trk h H) e
  refine ⟨e', ?_⟩
  cases q : H b with
  | none => rfl
  | some x =>
    have hm : b ∈ trk h H := List.mem_filter.mpr ⟨List.mem_range.mpr (Heap.lt_size e'), by simp [q]⟩
    have z : (hidT h H).get? b = none := PySem.W.hideAll_none (trk h H) hm
    rw [z] at e; cases e

/-! ### OpenK's ledger, filled with every new object but one -/
def allNews (g h : Heap) (L : Addr) : List (Addr × Obj) := (List.range h.objs.size).filterMap fun a => if a = L ∨ (g.get? a).isSome = true then none else (h.get? a).map fun o => (a, o)
def rest (g h : Heap) (L d : Addr) : List (Addr × Obj) := (allNews g h L).filter fun p => decide (p.1 ≠ d)
end L2

namespace L2
open PySem PySem.Spec PyProof.Rows

/-- the module's facts, over the base: the heap at the law's entry without what is tracked there -/
structure Mod (K : PySem.W.Frag) (mg : Str → Option Value) (base : Heap) : Prop where
  kin : K.In base
  glob : base.Ns mainGlobals mg
  blt : ∃ mb, base.Ns builtinsNs mb ∧ ∀ x : Str, x ≠ "__name__" → mb x = bootBuiltins x
  nolimit : base.NoLimit

/-- the context: a def's body (or a comprehension's block) running. base: fixed through the whole law; s₀, H₀: the entry; outer: the frames whose slots others may change (a def's callers); stack: all frames that run;
   ex: iterators that were made ahead of the entry and are walked here (a comprehension's); fn: the names whose cells were made at the entry (a def: all; a comprehension's block: its own); calm: not within an except suite; pn: pins that every state bears; xe: what is wanted of an exception that leaves the code -/
structure Cx where
  prog : Program
  w : World
  K : PySem.W.Frag
  mg : Str → Option Value
  base : Heap
  A : Around
  N : List Str
  s₀ : Shared
  H₀ : Hp
  env : Env
  outer : List Env
  stack : List Env
  ex : List Addr
  fn : Str → Bool
  calm : Bool
  pn : List (Addr × Obj)
  xe : Value → Shared → Prop
/-- the callers' frames -/
def frs (l : List Env) : List Addr := l.filterMap (·.frame)
abbrev Cx.fs (X : Cx) : List Addr := frs X.outer

def Vis (sc : Scope) (x : Str) : Prop := sc.names.lookup x = some .local ∨ sc.names.lookup x = some .cell ∨ sc.names.lookup x = some .free
def Loc (sc : Scope) (x : Str) : Prop := sc.names.lookup x = some .local ∨ sc.names.lookup x = some .cell
def Look (env : Env) (h : Heap) (m : Str → Option Value) (x : Str) (u : Value) : Prop :=
  (env.kindOf x = some .local ∧ m x = some u) ∨ ((env.kindOf x = some .cell ∨ env.kindOf x = some .free) ∧ ∃ c, env.cells.lookup x = some c ∧ h.IsCell c (some u))

structure Cx.Ok (X : Cx) : Prop where
  mod : Mod X.K X.mg X.base
  kind : X.env.scope.kind = .function
  glob : X.env.globals = mainGlobals
  blt : X.env.builtins = builtinsNs
  above : X.s₀.heap.objs.size ≤ X.env.locals
  inj : ∀ x y c, X.env.cells.lookup x = some c → X.env.cells.lookup y = some c → x = y
  has : ∀ x, (X.env.kindOf x = some .cell ∨ X.env.kindOf x = some .free) → ∃ c, X.env.cells.lookup x = some c
  cab : ∀ x c, X.fn x = true → X.env.cells.lookup x = some c → X.s₀.heap.objs.size ≤ c
  hd : X.calm = true → X.A.handled = none
  frames : X.A.frames = some X.stack
  stk : X.stack = X.outer ∨ (X.stack = X.env :: X.outer ∧ X.env.frame = some X.env.locals)
  exf : ∀ b ∈ X.ex, b ≠ X.env.locals ∧ ∀ x c, X.env.cells.lookup x = some c → c ≠ b
  bs : ∀ b o, X.base.get? b = some o → X.s₀.heap.get? b = some o ∧ X.H₀ b = none
  bsz : X.base.objs.size ≤ X.s₀.heap.objs.size
  noex : ∀ b o, X.base.get? b = some o → b ∉ X.ex
  exfs : ∀ b ∈ X.ex, b ∉ X.fs
  funs : X.s₀.heap.FunFrames X.base X.outer
  frf : ∀ b ∈ X.fs, X.H₀ b = none

structure Inv (X : Cx) (pins : List (Addr × Obj)) (σ : List (Option V)) (H : Hp) (s : Shared) : Prop where
  ok : X.Ok
  os : s.os = X.s₀.os
  bare : AllBare s.gens
  base : Un X.fs X.ex X.H₀ H X.s₀.heap s.heap
  loc : ∃ m, s.heap.Ns X.env.locals m ∧ ∀ (i : Nat) (x : Str) (v : V), X.N[i]? = some x → σ[i]? = some (some v) → Vis X.env.scope x → ∃ u, RelV v u ∧ Look X.env s.heap m x u
  cell : ∀ x c, X.env.cells.lookup x = some c → ∃ v, s.heap.IsCell c v
  free : H X.env.locals = none
  freeC : ∀ x c, X.env.cells.lookup x = some c → H c = none
  pin : ∀ p ∈ X.pn ++ pins, s.heap.get? p.1 = some p.2 ∧ H p.1 = none ∧ p.1 ≠ X.env.locals ∧ p.1 ∉ X.fs ∧ ∀ v, p.2.data ≠ .cell v
  hok : HOk X.prog X.w H s.heap
  len : σ.length = X.N.length

section
variable {X : Cx} {pins : List (Addr × Obj)} {σ : List (Option V)} {H H' : Hp} {s : Shared} {h' : Heap}

theorem Cx.Ok.nofr (ok : X.Ok) {b : Addr} {o : Obj} (e : X.base.get? b = some o) : b ∉ X.fs := fun hb => by
  have := (ok.funs.mem hb).1
  rw [e] at this; cases this
theorem Inv.bs (I : Inv X pins σ H s) : ∀ b o, X.base.get? b = some o → s.heap.get? b = some o ∧ H b = none := fun b o e =>
  ⟨I.base.keep b o (I.ok.bs b o e).1 (I.ok.bs b o e).2 (I.ok.nofr e) (I.ok.noex b o e), I.base.free b o (I.ok.bs b o e).1 (I.ok.bs b o e).2 (I.ok.noex b o e)⟩
theorem Inv.bk (I : Inv X pins σ H s) : ∀ b o, X.base.get? b = some o → s.heap.get? b = some o := fun b o e => (I.bs b o e).1
theorem Inv.mod (I : Inv X pins σ H s) : Mod X.K X.mg X.base := I.ok.mod
theorem Inv.kIn (I : Inv X pins σ H s) : X.K.In s.heap := I.ok.mod.kin.keeps I.bk
theorem Inv.nolimit (I : Inv X pins σ H s) : s.heap.NoLimit := I.ok.mod.nolimit.keeps I.bk
theorem Inv.lt (I : Inv X pins σ H s) : X.env.locals < s.heap.objs.size := let ⟨_, hn, _⟩ := I.loc; hn.lt
theorem Inv.sz (I : Inv X pins σ H s) : X.s₀.heap.objs.size ≤ s.heap.objs.size := Nat.le_trans I.ok.above (Nat.le_of_lt I.lt)
theorem Inv.nofs (I : Inv X pins σ H s) {a : Addr} (h : s.heap.objs.size ≤ a) : a ∉ X.fs := fun hb => by
  obtain ⟨_, o, ho, _⟩ := I.ok.funs.mem hb
  exact absurd (Nat.lt_of_lt_of_le (Heap.lt_size ho) (Nat.le_trans I.sz h)) (Nat.lt_irrefl _)
theorem Inv.cne (I : Inv X pins σ H s) : ∀ x c, X.env.cells.lookup x = some c → c ≠ X.env.locals := fun x c e z => by
  obtain ⟨v, o, ho, hd⟩ := I.cell x c e
  obtain ⟨m, ⟨o', es, ep, ho', hd', _⟩, _⟩ := I.loc
  rw [z, ho'] at ho; cases ho; rw [hd'] at hd; cases hd
theorem Inv.funs (I : Inv X pins σ H s) : s.heap.FunFrames X.base X.outer := by
  have all : ∀ (l : List Env), (∀ b ∈ frs l, b ∈ X.fs) → X.s₀.heap.FunFrames X.base l → s.heap.FunFrames X.base l := by
    intro l
    induction l with
    | nil => intro _ _; trivial
    | cons env r ih =>
      intro hs hl
      obtain ⟨hk, ⟨L, o, hf, hn, ho, hd⟩, hr⟩ := hl
      have hL : L ∈ X.fs := hs L (by unfold frs; rw [List.filterMap_cons, hf]; exact List.mem_cons_self)
      obtain ⟨sl, e⟩ := I.base.slot L o ho (I.ok.frf L hL) hL fun z => I.ok.exfs L z hL
      exact ⟨hk, ⟨L, _, hf, hn, e, hd⟩, ih (fun b hb => hs b (by unfold frs; rw [List.filterMap_cons, hf]; exact List.mem_cons_of_mem _ hb)) hr⟩
  exact all X.outer (fun _ hb => hb) I.ok.funs

/-- the frames that run, for a call -/
theorem Inv.stack (I : Inv X pins σ H s) : s.heap.FunFrames X.base X.stack := by
  rcases I.ok.stk with e | ⟨e, hf⟩
  · rw [e]; exact I.funs
  · rw [e]
    obtain ⟨m, hn, _⟩ := I.loc
    refine .cons (by rw [I.ok.kind]; decide) hf hn ?_ I.funs
    exact Heap.get?_none_of_le (Nat.le_trans I.ok.bsz I.ok.above)
theorem Inv.stkSub (I : Inv X pins σ H s) : ∀ b ∈ frs X.stack, b ∈ X.env.locals :: X.fs := fun b hb => by
  rcases I.ok.stk with e | ⟨e, hf⟩
  · rw [e] at hb; exact List.mem_cons_of_mem _ hb
  · rw [e] at hb
    unfold frs at hb
    rw [List.filterMap_cons, hf] at hb
    exact hb
theorem Inv.stkFree (I : Inv X pins σ H s) : ∀ b ∈ frs X.stack, H b = none := fun b hb => by
  rcases List.mem_cons.mp (I.stkSub b hb) with e | hb
  · rw [e]; exact I.free
  · obtain ⟨_, o, ho, _⟩ := I.ok.funs.mem hb
    exact I.base.free b o ho (I.ok.frf b hb) fun z => I.ok.exfs b z hb

/-- THE STEP: the untracked objects but the frame and the records at ch are kept (the callers' frames up to slots), the frame's map is kept, the new abstract heap is held -/
theorem Inv.step {g' : Array GenState} {t' : Nat} {d' : Drawn} {ch : List Addr} (I : Inv X pins σ H s)
    (hch : ∀ b ∈ ch, (b ∈ X.ex ∨ X.s₀.heap.objs.size ≤ b) ∧ b ≠ X.env.locals ∧ (∀ x c, X.env.cells.lookup x = some c → c ≠ b) ∧ ∀ p ∈ X.pn ++ pins, p.1 ≠ b)
    (keep : ∀ b o, b ≠ X.env.locals → b ∉ X.fs → b ∉ ch → s.heap.get? b = some o → H b = none → h'.get? b = some o)
    (slot : ∀ b o, b ≠ X.env.locals → b ∈ X.fs → b ∉ ch → s.heap.get? b = some o → H b = none → ∃ sl, h'.get? b = some { o with slots := sl }) (free : ∀ b o, b ∉ ch → s.heap.get? b = some o → H b = none → H' b = none)
    (there : ∀ b o, b ∉ ch → s.heap.get? b = some o → ∃ o', h'.get? b = some o')
    (tups : ∀ b xs, H b = some (.tup xs) → H' b = some (.tup xs)) (frzs : ∀ b o u, H b = some (.frz o u) → H' b = some (.frz o u)) (tbls : ∀ b ps, H b = some (.tbl ps) → ∃ more, H' b = some (.tbl (ps ++ more)))
    (ns : ∀ m, s.heap.Ns X.env.locals m → h'.Ns X.env.locals m) (hok : HOk X.prog X.w H' h') (hg : AllBare g') :
    Inv X pins σ H' { s with heap := h', gens := g', drawn := d', toks := t' } := by
  have neL : ∀ b o, X.s₀.heap.get? b = some o → b ≠ X.env.locals := fun b o e => Nat.ne_of_lt (Nat.lt_of_lt_of_le (Heap.lt_size e) I.ok.above)
  have neC : ∀ b o, X.s₀.heap.get? b = some o → b ∉ X.ex → b ∉ ch := fun b o e hx hb => by
    rcases (hch b hb).1 with z | z
    · exact hx z
    · exact absurd (Nat.lt_of_lt_of_le (Heap.lt_size e) z) (Nat.lt_irrefl _)
  have cellK : ∀ x c, X.env.cells.lookup x = some c → ∀ v, s.heap.IsCell c v → h'.IsCell c v := fun x c e v ⟨o, ho, hd⟩ => by
    have nch : c ∉ ch := fun z => (hch c z).2.2.1 x c e rfl
    by_cases hc : c ∈ X.fs
    · obtain ⟨sl, q⟩ := slot c o (I.cne x c e) hc nch ho (I.freeC x c e)
      exact ⟨_, q, hd⟩
    · exact ⟨o, keep c o (I.cne x c e) hc nch ho (I.freeC x c e), hd⟩
  refine ⟨I.ok, I.os, hg, ⟨fun b o e n hb hx => ?_, fun b o e n hb hx => ?_, fun b o e n hx => ?_, fun b o e hx => ?_, fun b xs e => tups b xs (I.base.tups b xs e), fun b o xs e => frzs b o xs (I.base.frzs b o xs e), fun b ps e => ?_⟩, ?_, fun x c e => ?_, ?_, fun x c e => ?_, fun p hp => ?_, hok, I.len⟩
  · exact keep b o (neL b o e) hb (neC b o e hx) (I.base.keep b o e n hb hx) (I.base.free b o e n hx)
  · obtain ⟨sl, e1⟩ := I.base.slot b o e n hb hx
    obtain ⟨sl', e2⟩ := slot b _ (neL b o e) hb (neC b o e hx) e1 (I.base.free b o e n hx)
    exact ⟨sl', e2⟩
  · obtain ⟨o', e1⟩ := I.base.there b o e hx
    exact free b o' (neC b o e hx) e1 (I.base.free b o e n hx)
  · obtain ⟨o', e1⟩ := I.base.there b o e hx
    exact there b o' (neC b o e hx) e1
  · obtain ⟨m1, e1⟩ := I.base.tbls b ps e
    obtain ⟨m2, e2⟩ := tbls b _ e1
    exact ⟨m1 ++ m2, by rw [e2, Array.append_assoc]⟩
  · obtain ⟨m, hn, hl⟩ := I.loc
    refine ⟨m, ns m hn, fun i x v e1 e2 e3 => ?_⟩
    obtain ⟨u, r, l⟩ := hl i x v e1 e2 e3
    refine ⟨u, r, ?_⟩
    rcases l with l | ⟨k, c, e, z⟩
    · exact .inl l
    · exact .inr ⟨k, c, e, cellK x c e _ z⟩
  · obtain ⟨v, z⟩ := I.cell x c e
    exact ⟨v, cellK x c e v z⟩
  · obtain ⟨m, ⟨o, _, _, ho, _⟩, _⟩ := I.loc
    exact free _ o (fun z => (hch _ z).2.1 rfl) ho I.free
  · obtain ⟨v, o, ho, hd⟩ := I.cell x c e
    exact free c o (fun z => (hch c z).2.2.1 x c e rfl) ho (I.freeC x c e)
  · obtain ⟨e, n, ne, nf, d⟩ := I.pin p hp
    have nch : p.1 ∉ ch := fun z => (hch p.1 z).2.2.2 p hp rfl
    exact ⟨keep p.1 p.2 ne nf nch e n, free p.1 p.2 nch e n, ne, nf, d⟩
/-- .. where the frame's own object is kept too -/
theorem Inv.un {t' : Nat} (I : Inv X pins σ H s) (u : Un X.fs [] H H' s.heap h') (hok : HOk X.prog X.w H' h') : Inv X pins σ H' { s with heap := h', toks := t' } := by
  obtain ⟨m, ⟨o, es, ep, ho, r⟩, _⟩ := id I.loc
  obtain ⟨sl, hL⟩ := u.any ho I.free (by simp)
  exact I.step (g' := s.gens) (d' := s.drawn) (ch := []) (fun _ z => nomatch z) (fun b o _ hb _ e n => u.keep b o e n hb (by simp)) (fun b o _ hb _ e n => u.slot b o e n hb (by simp)) (fun b o _ e n => u.free b o e n (by simp)) (fun b o _ e => u.there b o e (by simp)) u.tups u.frzs u.tbls (fun m' hm => by
    obtain ⟨o', es', ep', ho', r'⟩ := hm
    rw [ho] at ho'; cases ho'
    exact ⟨_, es', ep', hL, r'⟩) hok I.bare
/-- behind a call (or a comprehension's block): the slots of this frame may have changed too, the records at ch may have turned -/
theorem Inv.call {g' : Array GenState} {t' : Nat} {d' : Drawn} {ch : List Addr} (I : Inv X pins σ H s) (u : Un (frs X.stack) ch H H' s.heap h') (hok : HOk X.prog X.w H' h') (hg : AllBare g')
    (hch : ∀ b ∈ ch, (b ∈ X.ex ∨ X.s₀.heap.objs.size ≤ b) ∧ b ≠ X.env.locals ∧ (∀ x c, X.env.cells.lookup x = some c → c ≠ b) ∧ ∀ p ∈ X.pn ++ pins, p.1 ≠ b) :
    Inv X pins σ H' { s with heap := h', gens := g', drawn := d', toks := t' } := by
  obtain ⟨m, ⟨o, es, ep, ho, r⟩, _⟩ := id I.loc
  obtain ⟨sl, hL⟩ := u.any ho I.free fun z => (hch _ z).2.1 rfl
  exact I.step (ch := ch) hch (fun b o hL hb hc e n => u.keep b o e n (fun z => (List.mem_cons.mp (I.stkSub b z)).elim hL hb) hc) (fun b o _ _ hc e n => u.any e n hc) (fun b o hc e n => u.free b o e n hc) (fun b o hc e => u.there b o e hc) u.tups u.frzs u.tbls (fun m' hm => by
    obtain ⟨o', es', ep', ho', r'⟩ := hm
    rw [ho] at ho'; cases ho'
    exact ⟨_, es', ep', hL, r'⟩) hok hg
/-- an untracked record of ours (an iterator) has turned -/
theorem Inv.turned {t' : Nat} {it : Addr} (I : Inv X pins σ H s) (k : ∀ b o, b ≠ it → s.heap.get? b = some o → h'.get? b = some o) (hn : H it = none) (hL : it ≠ X.env.locals)
    (h1 : it ∈ X.ex ∨ X.s₀.heap.objs.size ≤ it) (h2 : ∀ x c, X.env.cells.lookup x = some c → c ≠ it) (h3 : ∀ p ∈ X.pn ++ pins, p.1 ≠ it) : Inv X pins σ H { s with heap := h', toks := t' } := by
  have nit : ∀ b u, H b = some u → b ≠ it := fun b u e z => by rw [z, hn] at e; cases e
  refine I.step (g' := s.gens) (d' := s.drawn) (ch := [it]) (fun b hb => ?_) (fun b o _ _ hc e _ => k b o (fun z => hc (by simp [z])) e) (fun b o _ _ hc e _ => ⟨o.slots, k b o (fun z => hc (by simp [z])) e⟩) (fun _ _ _ _ n => n)
    (fun b o hc e => ⟨o, k b o (fun z => hc (by simp [z])) e⟩) (fun _ _ e => e) (fun _ _ _ e => e) (fun b ps e => ⟨#[], by rw [e]; simp⟩) (fun m hm => ?_) (fun b u e => ?_) I.bare
  · have e : b = it := by simpa using hb
    subst e
    exact ⟨h1, hL, h2, h3⟩
  · obtain ⟨o, es, ep, ho, r⟩ := hm
    exact ⟨o, es, ep, k _ o (Ne.symm hL) ho, r⟩
  · refine (I.hok b u e).stay (fun c v hc q => k c v ?_ q) (fun _ q => q) fun _ _ q => q
    rcases hc with z | z
    · rw [z]; exact nit b u e
    · exact nit c _ z
theorem Inv.tok (I : Inv X pins σ H s) (t : Nat) : Inv X pins σ H { s with toks := t } := I.un (h' := s.heap) (t' := t) Un.refl I.hok
/-- all objects kept -/
theorem Inv.kept {t' : Nat} (I : Inv X pins σ H s) (k : ∀ b u, s.heap.get? b = some u → h'.get? b = some u) : Inv X pins σ H { s with heap := h', toks := t' } := I.un (Un.kept k) (I.hok.kept k)
/-- a new object laid and tracked -/
theorem Inv.laid {a : Addr} {o : HO} {t' : Nat} (I : Inv X pins σ H s) (k : ∀ b u, s.heap.get? b = some u → h'.get? b = some u) (hp : s.heap.objs.size ≤ a) (new : ObjOk X.prog X.w (upd H a o) h' a o) :
    Inv X pins σ (upd H a o) { s with heap := h', toks := t' } := I.un (Un.laid k hp (I.hok.fresh hp)) (I.hok.laid k hp new)
/-- an object written -/
theorem Inv.write {x e : Addr} {o : HO} {t' : Nat} (I : Inv X pins σ H s) (mu : Mut (H x)) (he : e = x ∨ H e = some (.own x)) (k : ∀ b u, b ≠ e → s.heap.get? b = some u → h'.get? b = some u) (heo : ∃ u, h'.get? e = some u)
    (new : ObjOk X.prog X.w (upd H x o) h' x o) : Inv X pins σ (upd H x o) { s with heap := h', toks := t' } := I.un (Un.write mu he k heo) (I.hok.write mu he k heo new)
theorem Inv.pins_of {pins' : List (Addr × Obj)} (I : Inv X pins σ H s) (h : ∀ p ∈ pins', s.heap.get? p.1 = some p.2 ∧ H p.1 = none ∧ p.1 ≠ X.env.locals ∧ p.1 ∉ X.fs ∧ ∀ v, p.2.data ≠ .cell v) : Inv X pins' σ H s :=
  ⟨I.ok, I.os, I.bare, I.base, I.loc, I.cell, I.free, I.freeC, fun p hp => (List.mem_append.mp hp).elim (fun z => I.pin p (List.mem_append_left _ z)) (h p), I.hok, I.len⟩

theorem nodup_ix {N : List Str} (hN : N.Nodup) {i j : Nat} {x : Str} (a : N[i]? = some x) (b : N[j]? = some x) : i = j := by
  obtain ⟨h1, e1⟩ := List.getElem?_eq_some_iff.mp a
  obtain ⟨h2, e2⟩ := List.getElem?_eq_some_iff.mp b
  exact (List.getElem_inj hN).mp (e1.trans e2.symm)

/-- a name is stored; what changed -/
theorem store_ok2 {M : Model} {A : Around} {E : Value → Shared → Prop} {i : Nat} {x : Str} {v : V} {u : Value} {Q : Unit → Shared → Prop} (I : Inv X pins σ H s) (hN : X.N.Nodup) (hi : X.N[i]? = some x) (hx : Loc X.env.scope x) (r : RelV v u)
    (h : ∀ s', Inv X pins (σ.set i (some v)) H s' → (∃ a, Heap.SameBut a s.heap s'.heap ∧ (a = X.env.locals ∨ X.env.cells.lookup x = some a)) → Q () s') (hf : X.fn x = true ∨ X.env.scope.names.lookup x = some .local := by first | exact .inl rfl | exact .inr rfl | assumption) : wpAny M A (storeName X.env x u) Q E s := by
  obtain ⟨m, hn, hl⟩ := id I.loc
  have hcls : (X.env.scope.kind == .class || (X.env.scope.kind == .module && X.env.locals != X.env.globals)) = false := by rw [I.ok.kind]; rfl
  have hiσ : i < σ.length := by rw [I.len]; exact (List.getElem?_eq_some_iff.mp hi).1
  have cne := I.cne
  have tracked : ∀ {a : Addr} {h' : Heap}, (∃ o, s.heap.get? a = some o ∧ H a = none) → Heap.SameBut a s.heap h' → HOk X.prog X.w H h' := fun {a h'} ha hs b ob e => by
    obtain ⟨_, _, hfree⟩ := ha
    refine (I.hok b ob e).stay (fun c w' hc q => (hs.2 c ?_).trans q) (fun _ q => q) fun _ _ q => q
    rintro rfl
    rcases hc with rfl | hc
    · rw [hfree] at e; cases e
    · rw [hfree] at hc; cases hc
  rcases hx with hk | hk
  · refine wpAny_storeName_local hk hn (fun h' hn' hs => ?_) hcls
    obtain ⟨oL, _, _, hoL, _⟩ := id hn
    refine h _ ⟨I.ok, I.os, I.bare, ⟨fun b o e n hb hx => ?_, fun b o e n hb hx => ?_, I.base.free, fun b o e hx => ?_, I.base.tups, I.base.frzs, I.base.tbls⟩, ⟨_, hn', fun j y v' e1 e2 e3 => ?_⟩, fun y c e => ?_, I.free, I.freeC, fun p hp => ?_, tracked ⟨oL, hoL, I.free⟩ hs, by simpa using I.len⟩ ⟨_, hs, .inl rfl⟩
    · exact (hs.2 b (Nat.ne_of_lt (Nat.lt_of_lt_of_le (Heap.lt_size e) I.ok.above))).trans (I.base.keep b o e n hb hx)
    · obtain ⟨sl, e1⟩ := I.base.slot b o e n hb hx
      exact ⟨sl, (hs.2 b (Nat.ne_of_lt (Nat.lt_of_lt_of_le (Heap.lt_size e) I.ok.above))).trans e1⟩
    · obtain ⟨o', e1⟩ := I.base.there b o e hx
      exact ⟨o', (hs.2 b (Nat.ne_of_lt (Nat.lt_of_lt_of_le (Heap.lt_size e) I.ok.above))).trans e1⟩
    · by_cases hj : j = i
      · subst hj
        rw [hi] at e1; cases e1
        rw [List.getElem?_set_self hiσ] at e2
        cases e2
        exact ⟨u, r, .inl ⟨hk, by simp⟩⟩
      · rw [List.getElem?_set_ne (Ne.symm hj)] at e2
        obtain ⟨u', r', q⟩ := hl j y v' e1 e2 e3
        refine ⟨u', r', ?_⟩
        rcases q with ⟨k, e⟩ | ⟨k, c, e, z⟩
        · refine .inl ⟨k, ?_⟩
          have : y ≠ x := fun e => hj (nodup_ix hN e1 (e ▸ hi))
          simp [this, e]
        · exact .inr ⟨k, c, e, z.sameBut hs (cne y c e)⟩
    · obtain ⟨w', z⟩ := I.cell y c e
      exact ⟨w', z.sameBut hs (cne y c e)⟩
    · obtain ⟨e, n, ne, nf, d⟩ := I.pin p hp
      exact ⟨(hs.2 p.1 ne).trans e, n, ne, nf, d⟩
  · have hfn : X.fn x = true := by
      rcases hf with z | z
      · exact z
      · rw [z] at hk; cases hk
    obtain ⟨c, hc⟩ := I.ok.has x (.inl hk)
    obtain ⟨w', z⟩ := I.cell x c hc
    refine wpAny_storeName_cell I.ok.kind hk hc z (fun h' hc' hs => ?_)
    obtain ⟨oc, hoc, hocd⟩ := id z
    refine h { s with heap := h' } ⟨I.ok, I.os, I.bare, ⟨fun b o e n hb hx => ?_, fun b o e n hb hx => ?_, I.base.free, fun b o e hx => ?_, I.base.tups, I.base.frzs, I.base.tbls⟩, ⟨m, hn.sameBut hs (Ne.symm (cne x c hc)), fun j y v' e1 e2 e3 => ?_⟩, fun y c' e => ?_, I.free, I.freeC, fun p hp => ?_, tracked ⟨oc, hoc, I.freeC x c hc⟩ hs, by simpa using I.len⟩ ⟨c, hs, .inr hc⟩
    · exact (hs.2 b (Nat.ne_of_lt (Nat.lt_of_lt_of_le (Heap.lt_size e) (I.ok.cab x c hfn hc)))).trans (I.base.keep b o e n hb hx)
    · obtain ⟨sl, e1⟩ := I.base.slot b o e n hb hx
      exact ⟨sl, (hs.2 b (Nat.ne_of_lt (Nat.lt_of_lt_of_le (Heap.lt_size e) (I.ok.cab x c hfn hc)))).trans e1⟩
    · obtain ⟨o', e1⟩ := I.base.there b o e hx
      exact ⟨o', (hs.2 b (Nat.ne_of_lt (Nat.lt_of_lt_of_le (Heap.lt_size e) (I.ok.cab x c hfn hc)))).trans e1⟩
    · by_cases hj : j = i
      · subst hj
        rw [hi] at e1; cases e1
        rw [List.getElem?_set_self hiσ] at e2
        cases e2
        exact ⟨u, r, .inr ⟨.inl hk, c, hc, hc'⟩⟩
      · rw [List.getElem?_set_ne (Ne.symm hj)] at e2
        obtain ⟨u', r', q⟩ := hl j y v' e1 e2 e3
        refine ⟨u', r', ?_⟩
        rcases q with q | ⟨k, c', e, z'⟩
        · exact .inl q
        · refine .inr ⟨k, c', e, z'.sameBut hs ?_⟩
          rintro rfl
          exact hj (nodup_ix hN e1 (I.ok.inj _ _ _ e hc ▸ hi))
    · by_cases hcc : c' = c
      · subst hcc; exact ⟨_, hc'⟩
      · obtain ⟨w2, z2⟩ := I.cell y c' e
        exact ⟨w2, z2.sameBut hs hcc⟩
    · obtain ⟨e, n, ne, nf, d⟩ := I.pin p hp
      refine ⟨(hs.2 p.1 ?_).trans e, n, ne, nf, d⟩
      intro q
      rw [q, hoc] at e
      have q' : oc = p.2 := Option.some.inj e
      exact d w' (by rw [← q']; exact hocd)
theorem store_ok {M : Model} {A : Around} {E : Value → Shared → Prop} {i : Nat} {x : Str} {v : V} {u : Value} {Q : Unit → Shared → Prop} (I : Inv X pins σ H s) (hN : X.N.Nodup) (hi : X.N[i]? = some x) (hx : Loc X.env.scope x) (r : RelV v u)
    (h : ∀ s', Inv X pins (σ.set i (some v)) H s' → Q () s') (hf : X.fn x = true ∨ X.env.scope.names.lookup x = some .local := by first | exact .inl rfl | exact .inr rfl | assumption) : wpAny M A (storeName X.env x u) Q E s :=
  store_ok2 I hN hi hx r (fun s' I' _ => h s' I') hf
/-- behind a call or a block, the state as it is -/
theorem Inv.call' {s' : Shared} {ch : List Addr} (I : Inv X pins σ H s) (ho : s'.os = s.os) (u : Un (frs X.stack) ch H H' s.heap s'.heap) (hok : HOk X.prog X.w H' s'.heap) (hg : AllBare s'.gens)
    (hch : ∀ b ∈ ch, (b ∈ X.ex ∨ X.s₀.heap.objs.size ≤ b) ∧ b ≠ X.env.locals ∧ (∀ x c, X.env.cells.lookup x = some c → c ≠ b) ∧ ∀ p ∈ X.pn ++ pins, p.1 ≠ b) : Inv X pins σ H' s' := by
  obtain ⟨h', g', d', t', o'⟩ := s'
  have e : o' = s.os := ho
  subst e
  exact I.call (g' := g') (t' := t') (d' := d') u hok hg hch
end

/-! ### the judgements -/
/-- an exception: its class, its own dict's address (where it has one), the abstract heap behind it -/
abbrev XK := Value → Option Addr → Hp → Prop
abbrev St := List (Option V)
abbrev VK := V → Hp → Prop
/-- an expression's reading; a test's; an argument list's -/
abbrev TE := St → Hp → VK → Prop
abbrev TT := St → Hp → (Bool → Hp → Prop) → Prop
abbrev TA := St → Hp → (List V → Hp → Prop) → Prop
/-- what is wanted behind a statement -/
structure Ends where
  nx : St → Hp → Prop
  rt : VK
  bk : St → Hp → Prop := fun _ _ => False
  ct : St → Hp → Prop := fun _ _ => False
abbrev TS := Ends → St → Hp → Prop

def EP (X : Cx) (pins : List (Addr × Obj)) (σ : St) (Q : VK) (u : Value) (s' : Shared) : Prop := ∃ v H', Inv X pins σ H' s' ∧ RelV v u ∧ Q v H'
def TP (X : Cx) (pins : List (Addr × Obj)) (σ : St) (Q : Bool → Hp → Prop) (b : Bool) (s' : Shared) : Prop := ∃ H', Inv X pins σ H' s' ∧ Q b H'
def AP (X : Cx) (pins : List (Addr × Obj)) (σ : St) (Q : List V → Hp → Prop) (us : List Value) (s' : Shared) : Prop := ∃ vs H', Inv X pins σ H' s' ∧ Vals vs us ∧ Q vs H'
def SP (X : Cx) (pins : List (Addr × Obj)) (D : Ends) (f : Flow) (s' : Shared) : Prop :=
  match f with
  | .next => ∃ σ' H', Inv X pins σ' H' s' ∧ D.nx σ' H'
  | .brk => ∃ σ' H', Inv X pins σ' H' s' ∧ D.bk σ' H'
  | .cont => ∃ σ' H', Inv X pins σ' H' s' ∧ D.ct σ' H'
  | .ret u => ∃ v σ' H', Inv X pins σ' H' s' ∧ RelV v u ∧ D.rt v H'

def PE (X : Cx) (e : Expr) (t : TE) : Prop :=
  ∀ (pins : List (Addr × Obj)) (s : Shared) (σ : St) (H : Hp) (Q : VK), Inv X pins σ H s → t σ H Q → wpAny (model X.prog X.w) X.A (eval e X.env) (EP X pins σ Q) X.xe s
def PT (X : Cx) (e : Expr) (t : TT) : Prop :=
  ∀ (pins : List (Addr × Obj)) (s : Shared) (σ : St) (H : Hp) (Q : Bool → Hp → Prop), Inv X pins σ H s → t σ H Q → wpAny (model X.prog X.w) X.A (isTrue e X.env (eval e X.env)) (TP X pins σ Q) X.xe s
/-- a test whatever its 'whole' is (and, or) -/
def PW (X : Cx) (e : Expr) (t : TT) : Prop :=
  ∀ (whole : Sem Value) (pins : List (Addr × Obj)) (s : Shared) (σ : St) (H : Hp) (Q : Bool → Hp → Prop), Inv X pins σ H s → t σ H Q → wpAny (model X.prog X.w) X.A (isTrue e X.env whole) (TP X pins σ Q) X.xe s
theorem PW.pt {X : Cx} {e : Expr} {t : TT} (h : PW X e t) : PT X e t := h _
/-- an argument list (no star), from the left -/
def PA (X : Cx) (es : List Expr) (t : TA) : Prop :=
  ∀ (pos : Pos) (pins : List (Addr × Obj)) (s : Shared) (σ : St) (H : Hp) (Q : List V → Hp → Prop), Inv X pins σ H s → t σ H Q → wpAny (model X.prog X.w) X.A (spliced (backTo pos (starEach es X.env))) (AP X pins σ Q) X.xe s
def PS (X : Cx) (st : Stmt) (t : TS) : Prop :=
  ∀ (pins : List (Addr × Obj)) (s : Shared) (σ : St) (H : Hp) (D : Ends), Inv X pins σ H s → t D σ H → wpAny (model X.prog X.w) X.A (exec st X.env) (SP X pins D) X.xe s
def PSs (X : Cx) (st : List Stmt) (t : TS) : Prop :=
  ∀ (pins : List (Addr × Obj)) (s : Shared) (σ : St) (H : Hp) (D : Ends), Inv X pins σ H s → t D σ H → wpAny (model X.prog X.w) X.A (execs st X.env) (SP X pins D) X.xe s
/-- weaken the end -/
theorem thn {α : Type} {t : Sem α} {Q Q' : α → Shared → Prop} {M : Model} {A : Around} {E : Value → Shared → Prop} {s : Shared} (h : wpAny M A t Q E s) (hQ : ∀ a s, Q a s → Q' a s) : wpAny M A t Q' E s := wpAny_mono h hQ fun _ _ x => x
end L2

namespace L2
open PySem PySem.Spec PyProof.Rows
section
variable {X : Cx}

/-! ### names and constants -/
def tVar (i : Nat) : TE := fun σ H Q => ∃ v, σ[i]? = some (some v) ∧ Q v H
def tC (v : V) : TE := fun _ H Q => Q v H
theorem pe_var {i : Nat} {x : Str} {pos : Pos} (hN : X.N[i]? = some x) (hv : Vis X.env.scope x) (hd : (x == ("__debug__" : Str)) = false := by decide) (hcd : (x == ("__classdict__" : Str)) = false := by decide) : PE X (.Name x pos) (tVar i) := by
  intro pins s σ H Q I h
  obtain ⟨v, e, h⟩ := h
  obtain ⟨m, hn, hl⟩ := I.loc
  obtain ⟨u, r, l⟩ := hl i x v hN e hv
  have fin : EP X pins σ Q u s := ⟨v, H, I, r, h⟩
  rcases l with ⟨hk, hm⟩ | ⟨hk, c, hc, hcell⟩
  · exact wpAny_Name (wpAny_loadName_local I.ok.kind hk hn hm fin) hd
  · rcases hk with hk | hk
    · exact wpAny_Name (wpAny_loadName_cell I.ok.kind hk hc hcell fin) hd
    · exact wpAny_Name (wpAny_loadName_free I.ok.kind hk hc hcell fin hcd) hd
theorem pe_int {i j pos} : PE X (.Constant (.int i) j pos) (tC (.int i)) := fun _ _ _ H _ I h => wpAny_Constant_int ⟨.int i, H, I.tok _, ⟨_, rfl⟩, h⟩
theorem pe_bl {b j pos} : PE X (.Constant (.bool b) j pos) (tC (.bl b)) := fun _ _ _ H _ I h => Constant_bool ⟨.bl b, H, I, rfl, h⟩
theorem pe_non {j pos} : PE X (.Constant .none j pos) (tC .non) := fun _ _ _ H _ I h => Constant_none ⟨.non, H, I, rfl, h⟩
theorem pe_str {x j pos} : PE X (.Constant (.str x) j pos) (tC (.str x)) := fun _ _ _ H _ I h => Calls.Constant_str ⟨.str x, H, I.tok _, ⟨_, rfl⟩, h⟩

/-- a global name of the def -/
def Gl (X : Cx) (x : Str) : Prop := X.env.kindOf x = some .globalImplicit
theorem ld_glob {E : Value → Shared → Prop} {pins : List (Addr × Obj)} {s : Shared} {σ : St} {H : Hp} {x : Str} {u : Value} {pos : Pos} {Q : Value → Shared → Prop} (I : Inv X pins σ H s) (hg : Gl X x) (hm : X.mg x = some u) (h : Q u s)
    (hd : (x == ("__debug__" : Str)) = false := by decide) : wpAny (model X.prog X.w) X.A (eval (.Name x pos) X.env) Q E s :=
  Calls.Name_function_global I.ok.kind hg (Calls.loadGlobal_global (by rw [I.ok.glob]; exact I.mod.glob.keeps I.bk) hm h) hd
theorem ld_blt {E : Value → Shared → Prop} {pins : List (Addr × Obj)} {s : Shared} {σ : St} {H : Hp} {x : Str} {u : Value} {pos : Pos} {Q : Value → Shared → Prop} (I : Inv X pins σ H s) (hg : Gl X x) (hm : X.mg x = none) (hv : bootBuiltins x = some u) (h : Q u s)
    (hn : x ≠ "__name__" := by decide) (hd : (x == ("__debug__" : Str)) = false := by decide) : wpAny (model X.prog X.w) X.A (eval (.Name x pos) X.env) Q E s := by
  obtain ⟨mb, h1, h2⟩ := I.mod.blt
  exact Calls.Name_function_global I.ok.kind hg (Calls.loadGlobal_builtin (by rw [I.ok.glob]; exact I.mod.glob.keeps I.bk) hm (by rw [I.ok.blt]; exact h1.keeps I.bk) ((h2 x hn).trans hv) h) hd
/-- a module's constant, a class, a function, as a value -/
theorem pe_glob {x : Str} {v : V} {u : Value} {pos : Pos} (hg : Gl X x) (hm : X.mg x = some u) (r : RelV v u) (hd : (x == ("__debug__" : Str)) = false := by decide) : PE X (.Name x pos) (tC v) :=
  fun _ _ _ H _ I h => ld_glob I hg hm ⟨v, H, I, r, h⟩ hd
theorem pe_bltn {x : Str} {v : V} {u : Value} {pos : Pos} (hg : Gl X x) (hm : X.mg x = none) (hv : bootBuiltins x = some u) (r : RelV v u) (hn : x ≠ "__name__" := by decide) (hd : (x == ("__debug__" : Str)) = false := by decide) : PE X (.Name x pos) (tC v) :=
  fun _ _ _ H _ I h => ld_blt I hg hm hv ⟨v, H, I, r, h⟩ hn hd

/-! ### arithmetic -/
variable {a b : Expr} {ta tb : TE} {pos : Pos}
/-! ### comparisons -/
/-- a comparison as a value, as a test -/
def tB (t : TE) : TT := fun σ H Q => t σ H fun x H1 => ∃ c, x = .bl c ∧ Q c H1
/-- an expression whose value is a bool, as a test -/
theorem pt_val {e : Expr} {t : TE} (h : PE X e t) (he : ∀ whole, isTrue e X.env whole = (do let v ← whole; standAt e.pos; holding [v] (truthy v)) := by intro _; rfl) : PT X e (tB t) := by
  intro pins s σ H Q I hw
  refine isTrue_plain (thn (h pins s σ H _ I hw) fun v s1 ⟨x, H1, I1, r1, q1⟩ => ?_) (he _)
  obtain ⟨d, rfl, q⟩ := q1
  cases r1
  exact wpAny_truthy_bool ⟨H1, I1, q⟩

/-! ### and, or, not -/
variable {tA tB' : TT} {rest : List Expr}
def tAnd (t u : TT) : TT := fun σ H Q => t σ H fun c H1 => if c = true then u σ H1 Q else Q false H1
def tOr (t u : TT) : TT := fun σ H Q => t σ H fun c H1 => if c = true then Q true H1 else u σ H1 Q
def tNot (t : TT) : TT := fun σ H Q => t σ H fun c H1 => Q (!c) H1
theorem pw_and1 (ha : PT X a tA) : PW X (.BoolOp .And [a] pos) tA := by
  intro wh pins s σ H Q I h
  refine isTrue_and (thn (ha pins s σ H Q I h) fun c s1 e => ?_)
  cases c with
  | true => exact isTrue_and_nil e
  | false => exact e
theorem pw_or1 (ha : PT X a tA) : PW X (.BoolOp .Or [a] pos) tA := by
  intro wh pins s σ H Q I h
  refine isTrue_or (thn (ha pins s σ H Q I h) fun c s1 e => ?_)
  cases c with
  | false => exact isTrue_or_nil e
  | true => exact e
theorem pw_and (ha : PT X a tA) (hb : PW X (.BoolOp .And (b :: rest) pos) tB') : PW X (.BoolOp .And (a :: b :: rest) pos) (tAnd tA tB') := by
  intro wh pins s σ H Q I h
  refine isTrue_and (thn (ha pins s σ H _ I h) fun c s1 ⟨H1, I1, q1⟩ => ?_)
  cases c with
  | true => exact hb wh pins s1 σ H1 Q I1 q1
  | false => exact ⟨H1, I1, q1⟩
theorem pw_or (ha : PT X a tA) (hb : PW X (.BoolOp .Or (b :: rest) pos) tB') : PW X (.BoolOp .Or (a :: b :: rest) pos) (tOr tA tB') := by
  intro wh pins s σ H Q I h
  refine isTrue_or (thn (ha pins s σ H _ I h) fun c s1 ⟨H1, I1, q1⟩ => ?_)
  cases c with
  | true => exact ⟨H1, I1, q1⟩
  | false => exact hb wh pins s1 σ H1 Q I1 q1
theorem pt_not (ha : PT X a tA) : PT X (.UnaryOp .Not a pos) (tNot tA) := by
  intro pins s σ H Q I h
  exact isTrue_not (ha pins s σ H (fun c H1 => Q (!c) H1) I h)
/-- .. as values (bools) -/
def tAndV (ta tb : TE) : TE := fun σ H Q => ta σ H fun x H1 => ∃ c, x = .bl c ∧ if c = true then tb σ H1 Q else Q (.bl false) H1
def tNotV (ta : TE) : TE := fun σ H Q => ta σ H fun x H1 => ∃ c, x = .bl c ∧ Q (.bl (!c)) H1
theorem pe_one {op} {t : TE} (h : PE X a t) : PE X (.BoolOp op [a] pos) t := fun pins s σ H Q I hw => BoolOp_one (h pins s σ H Q I hw)
theorem pe_and (ha : PE X a ta) (hb : PE X (.BoolOp .And (b :: rest) pos) tb) : PE X (.BoolOp .And (a :: b :: rest) pos) (tAndV ta tb) := by
  intro pins s σ H Q I h
  refine BoolOp_and (thn (ha pins s σ H _ I h) fun v s1 ⟨x, H1, I1, r1, q1⟩ => ?_)
  obtain ⟨c, rfl, q1⟩ := q1
  cases r1
  refine wpAny_truthy_bool ?_
  cases c with
  | true => exact hb pins s1 σ H1 Q I1 q1
  | false => exact ⟨.bl false, H1, I1, rfl, q1⟩
theorem pe_not (ha : PE X a ta) : PE X (.UnaryOp .Not a pos) (tNotV ta) := by
  intro pins s σ H Q I h
  refine UnaryOp_ (thn (ha pins s σ H _ I h) fun v s1 ⟨x, H1, I1, r1, q1⟩ => ?_)
  obtain ⟨c, rfl, q1⟩ := q1
  cases r1
  exact not_of (wpAny_truthy_bool ⟨.bl (!c), H1, I1, rfl, q1⟩)
/-- a if t else b -/
def tIf (t : TT) (ta tb : TE) : TE := fun σ H Q => t σ H fun c H1 => if c = true then ta σ H1 Q else tb σ H1 Q
theorem pe_ifExp {c : Expr} (hc : PT X c tA) (ha : PE X a ta) (hb : PE X b tb) : PE X (.IfExp c a b pos) (tIf tA ta tb) := by
  intro pins s σ H Q I h
  refine wpAny_IfExp (thn (hc pins s σ H _ I h) fun d s1 ⟨H1, I1, q1⟩ => ?_)
  cases d with
  | true => exact ha pins s1 σ H1 Q I1 q1
  | false => exact hb pins s1 σ H1 Q I1 q1
end
end L2

namespace L2
open PySem PySem.Spec PyProof.Rows

/-! ### a list, a tuple that is read: tracked, frozen, or an object of the module -/
def SqL (K : PySem.W.Frag) (H : Hp) (a : Addr) (xs : List V) : Prop :=
  Rd H a (.lst xs) ∨
    ∃ (o : Obj) (its : Array Value) (n : Nat), K.lookup a = some o ∧ o.cls = .type "list" ∧ o.dict = none ∧ o.data = .seq its n ∧ its.size ≤ sizeLine ∧ Vals xs its.toList
def SqT (K : PySem.W.Frag) (H : Hp) (a : Addr) (xs : List V) : Prop :=
  Rd H a (.tup xs) ∨
    ∃ (o : Obj) (its : Array Value) (n : Nat), K.lookup a = some o ∧ o.cls = .type "tuple" ∧ o.data = .seq its n ∧ its.size ≤ sizeLine ∧ Vals xs its.toList
def absV : Value → Option V
  | .none => some .non
  | .bool b => some (.bl b)
  | .int i _ => some (.int i)
  | .str x _ => some (.str x)
  | .bytes b _ => some (.byt b)
  | .float b _ => some (.flt b)
  | .ref a => some (.ref a)
  | .type n => some (.ty n)
  | _ => none
theorem RelV.abs {x : V} {u : Value} (r : RelV x u) : absV u = some x := by
  cases x with
  | non => cases r; rfl
  | bl _ => cases r; rfl
  | int _ => obtain ⟨t, rfl⟩ := r; rfl
  | str _ => obtain ⟨t, rfl⟩ := r; rfl
  | byt _ => obtain ⟨t, rfl⟩ := r; rfl
  | flt _ => obtain ⟨t, rfl⟩ := r; rfl
  | ref _ => cases r; rfl
  | ty _ => cases r; rfl
theorem RelV.inj {x y : V} {u : Value} (r : RelV x u) (q : RelV y u) : x = y := Option.some.inj (r.abs.symm.trans q.abs)
theorem Vals.inj : ∀ {xs ys : List V} {us : List Value}, Vals xs us → Vals ys us → xs = ys
  | _, _, _, .nil, .nil => rfl
  | _, _, _, .cons r t, .cons r' t' => by rw [r.inj r', Vals.inj t t']
section
variable {X : Cx} {pins : List (Addr × Obj)} {σ : St} {H : Hp} {s : Shared} {a : Addr} {xs ys : List V}
theorem SqL.of {K : PySem.W.Frag} (h : H a = some (.lst xs)) : SqL K H a xs := .inl (.inl h)
theorem SqT.of {K : PySem.W.Frag} (h : H a = some (.tup xs)) : SqT K H a xs := .inl (.inl h)
theorem Inv.list (I : Inv X pins σ H s) (h : SqL X.K H a xs) : ∃ its : List Value, Vals xs its ∧ PlainL s.heap a its.toArray ∧ xs.length ≤ sizeLine := by
  rcases h with h | ⟨o, its, n, hk, hc, hd, hs, hz, r⟩
  · obtain ⟨z, its, n, r, e⟩ := h.ok I.hok
    exact ⟨its, r, ⟨_, n, e, rfl, rfl, rfl⟩, z⟩
  · refine ⟨its.toList, r, ⟨o, n, I.kIn a o hk, hc, hd, by simpa using hs⟩, ?_⟩
    have e := r.length
    simp only [Array.length_toList] at e
    omega
theorem Inv.tuple (I : Inv X pins σ H s) (h : SqT X.K H a xs) : ∃ its : List Value, Vals xs its ∧ IsTup s.heap a its.toArray ∧ xs.length ≤ sizeLine := by
  rcases h with h | ⟨o, its, n, hk, hc, hs, hz, r⟩
  · obtain ⟨z, its, r, p⟩ := h.ok I.hok
    exact ⟨its, r, p, z⟩
  · refine ⟨its.toList, r, ⟨o, I.kIn a o hk, hc, n, by simpa using hs⟩, ?_⟩
    have e := r.length
    simp only [Array.length_toList] at e
    omega
theorem Inv.list_inj (I : Inv X pins σ H s) (h : SqL X.K H a xs) (h' : SqL X.K H a ys) : xs = ys := by
  obtain ⟨its, r, ⟨o, n, e, _, _, d⟩, _⟩ := I.list h
  obtain ⟨its', r', ⟨o', n', e', _, _, d'⟩, _⟩ := I.list h'
  rw [e] at e'; cases e'
  rw [d] at d'
  injection d' with d1 _
  have : its = its' := by simpa using congrArg Array.toList d1
  subst this
  exact r.inj r'
theorem Inv.tuple_inj (I : Inv X pins σ H s) (h : SqT X.K H a xs) (h' : SqT X.K H a ys) : xs = ys := by
  obtain ⟨its, r, ⟨o, e, _, n, d⟩, _⟩ := I.tuple h
  obtain ⟨its', r', ⟨o', e', _, n', d'⟩, _⟩ := I.tuple h'
  rw [e] at e'; cases e'
  rw [d] at d'
  injection d' with d1 _
  have : its = its' := by simpa using congrArg Array.toList d1
  subst this
  exact r.inj r'
end

/-! ### another wish about exceptions -/
abbrev Cx.wish (X : Cx) (E : Value → Shared → Prop) : Cx := { X with xe := E }
/-- no exception leaves -/
abbrev Cx.nox (X : Cx) : Cx := X.wish fun _ _ => False
theorem Cx.Ok.wish {X : Cx} (ok : X.Ok) (E : Value → Shared → Prop) : (X.wish E).Ok :=
  ⟨ok.mod, ok.kind, ok.glob, ok.blt, ok.above, ok.inj, ok.has, ok.cab, ok.hd, ok.frames, ok.stk, ok.exf, ok.bs, ok.bsz, ok.noex, ok.exfs, ok.funs, ok.frf⟩
theorem Cx.Ok.unwish {X : Cx} {E : Value → Shared → Prop} (ok : (X.wish E).Ok) : X.Ok :=
  ⟨ok.mod, ok.kind, ok.glob, ok.blt, ok.above, ok.inj, ok.has, ok.cab, ok.hd, ok.frames, ok.stk, ok.exf, ok.bs, ok.bsz, ok.noex, ok.exfs, ok.funs, ok.frf⟩
section
variable {X : Cx} {pins : List (Addr × Obj)} {σ : St} {H : Hp} {s : Shared} {E : Value → Shared → Prop}
theorem Inv.wish (I : Inv X pins σ H s) (E : Value → Shared → Prop) : Inv (X.wish E) pins σ H s := ⟨I.ok.wish E, I.os, I.bare, I.base, I.loc, I.cell, I.free, I.freeC, I.pin, I.hok, I.len⟩
theorem Inv.unwish (I : Inv (X.wish E) pins σ H s) : Inv X pins σ H s := ⟨I.ok.unwish, I.os, I.bare, I.base, I.loc, I.cell, I.free, I.freeC, I.pin, I.hok, I.len⟩
theorem SP.unwish {D : Ends} {f : Flow} {s' : Shared} (h : SP (X.wish E) pins D f s') : SP X pins D f s' := by
  cases f with
  | next => obtain ⟨σ', H', I, q⟩ := h; exact ⟨σ', H', I.unwish, q⟩
  | brk => obtain ⟨σ', H', I, q⟩ := h; exact ⟨σ', H', I.unwish, q⟩
  | cont => obtain ⟨σ', H', I, q⟩ := h; exact ⟨σ', H', I.unwish, q⟩
  | ret u => obtain ⟨v, σ', H', I, r, q⟩ := h; exact ⟨v, σ', H', I.unwish, r, q⟩
theorem PE.nox {e : Expr} {t : TE} (h : PE X.nox e t) : PE X e t := fun pins s σ H Q I hw =>
  wpAny_mono (h pins s σ H Q (I.wish _) hw) (fun _ _ ⟨v, H', I', r, q⟩ => ⟨v, H', I'.unwish, r, q⟩) fun _ _ z => False.elim z
theorem PT.nox {e : Expr} {t : TT} (h : PT X.nox e t) : PT X e t := fun pins s σ H Q I hw =>
  wpAny_mono (h pins s σ H Q (I.wish _) hw) (fun _ _ ⟨H', I', q⟩ => ⟨H', I'.unwish, q⟩) fun _ _ z => False.elim z
theorem PSs.nox {st : List Stmt} {t : TS} (h : PSs X.nox st t) : PSs X st t := fun pins s σ H D I hw =>
  wpAny_mono (h pins s σ H D (I.wish _) hw) (fun _ _ q => q.unwish) fun _ _ z => False.elim z
end

/-! ### blocks and small statements -/
section
variable {X : Cx} {st : Stmt} {rest : List Stmt} {t u : TS} {e : Expr} {te : TE} {pos : Pos}
def tNext : TS := fun D σ H => D.nx σ H
def tSeq (t u : TS) : TS := fun D σ H => t { D with nx := u D } σ H
theorem pss_nil : PSs X [] tNext := fun _ _ σ H _ I h => wpAny_execs_nil ⟨σ, H, I, h⟩
theorem pss_cons (h1 : PS X st t) (h2 : PSs X rest u) : PSs X (st :: rest) (tSeq t u) := by
  intro pins s σ H D I h
  refine wpAny_execs_cons (thn (h1 pins s σ H { D with nx := u D } I h) fun f s1 q => ?_)
  cases f with
  | next =>
    obtain ⟨σ', H', I', q⟩ := q
    exact h2 pins s1 σ' H' D I' q
  | ret v => exact q
  | brk => exact q
  | cont => exact q
theorem pss_one (h1 : PS X st t) : PSs X [st] t := by
  intro pins s σ H D I h
  refine wpAny_execs_cons (thn (h1 pins s σ H D I h) fun f s1 q => ?_)
  cases f with
  | next => exact wpAny_execs_nil q
  | ret v => exact q
  | brk => exact q
  | cont => exact q
/-- in a def's body nothing is shown -/
theorem Inv.quiet {pins : List (Addr × Obj)} {σ : St} {H : Hp} {s : Shared} (I : Inv X pins σ H s) : interactive X.env = false := by simp [interactive, I.ok.kind]
/-- an expression whose value is dropped -/
def tDrop (te : TE) : TS := fun D σ H => te σ H fun _ H1 => D.nx σ H1
theorem ps_expr (he : PE X e te) (hs : swapsWith e none pos.line X.env = pure false := by rfl) : PS X (.Expr e pos) (tDrop te) := by
  intro pins s σ H D I h
  exact wpAny_Expr_any (thn (he pins s σ H _ I h) fun v s1 ⟨x, H1, I1, r1, q1⟩ => ⟨σ, H1, I1, q1⟩) I.quiet hs
def tRet (te : TE) : TS := fun D σ H => te σ H D.rt
theorem ps_ret (he : PE X e te) : PS X (.Return (some e) pos) (tRet te) := by
  intro pins s σ H D I h
  exact wpAny_Return_some (thn (he pins s σ H _ I h) fun v s1 ⟨x, H1, I1, r1, q1⟩ => ⟨x, σ, H1, I1, r1, q1⟩)
def tIfS (c : TT) (t u : TS) : TS := fun D σ H => c σ H fun b H1 => if b = true then t D σ H1 else u D σ H1
theorem ps_if {c : Expr} {a b : List Stmt} {tc : TT} (hc : PT X c tc) (ha : PSs X a t) (hb : PSs X b u) : PS X (.If c a b pos) (tIfS tc t u) := by
  intro pins s σ H D I h
  refine wpAny_If (thn (hc pins s σ H _ I h) fun d s1 ⟨H1, I1, q1⟩ => ?_)
  cases d with
  | true => exact ha pins s1 σ H1 D I1 q1
  | false => exact hb pins s1 σ H1 D I1 q1
end

/-! ### targets -/
abbrev TG := V → St → Hp → (St → Hp → Prop) → Prop
abbrev TGs := List V → St → Hp → (St → Hp → Prop) → Prop
def PG (X : Cx) (target : Expr) (t : TG) : Prop :=
  ∀ (pins : List (Addr × Obj)) (s : Shared) (σ : St) (H : Hp) (v : V) (u : Value) (Q : St → Hp → Prop), Inv X pins σ H s → RelV v u → t v σ H Q →
    wpAny (model X.prog X.w) X.A (assign target X.env u) (fun _ s' => ∃ σ' H', Inv X pins σ' H' s' ∧ Q σ' H') X.xe s
/-- several targets, one after another -/
def PGs (X : Cx) (ts : List Expr) (t : TGs) : Prop :=
  ∀ (pins : List (Addr × Obj)) (s : Shared) (σ : St) (H : Hp) (vs : List V) (us : List Value) (Q : St → Hp → Prop), Inv X pins σ H s → Vals vs us → t vs σ H Q →
    wpAny (model X.prog X.w) X.A (assignInOrder ((assignEach ts X.env).map (·.2)) us) (fun _ s' => ∃ σ' H', Inv X pins σ' H' s' ∧ Q σ' H') X.xe s
/-- o[i] = v, by values -/
abbrev TSet := V → V → V → Hp → (Hp → Prop) → Prop
def PSet (X : Cx) (t : TSet) : Prop :=
  ∀ (pins : List (Addr × Obj)) (s : Shared) (σ : St) (H : Hp) (o i v : V) (ov iv u : Value) (Q : Hp → Prop), Inv X pins σ H s → RelV o ov → RelV i iv → RelV v u → t o i v H Q →
    wpAny (model X.prog X.w) X.A (setItem ov iv u) (fun _ s' => ∃ H', Inv X pins σ H' s' ∧ Q H') X.xe s
section
variable {X : Cx} {pos : Pos}
def gName (i : Nat) : TG := fun v σ H Q => Q (σ.set i (some v)) H
theorem pg_name {i : Nat} {x : Str} (hN : X.N.Nodup) (hi : X.N[i]? = some x) (hx : Loc X.env.scope x) (hf : X.fn x = true ∨ X.env.scope.names.lookup x = some .local := by first | exact .inl rfl | exact .inr rfl | assumption) : PG X (.Name x pos) (gName i) := by
  intro pins s σ H v u Q I r h
  exact wpAny_assign_Name (store_ok I hN hi hx r (fun s' I' => ⟨_, H, I', h⟩) hf)
def gNil : TGs := fun vs σ H Q => vs = [] ∧ Q σ H
def gCons (t : TG) (u : TGs) : TGs := fun vs σ H Q => ∃ v r, vs = v :: r ∧ t v σ H fun σ' H' => u r σ' H' Q
theorem pgs_nil : PGs X [] gNil := by
  intro pins s σ H vs us Q I r h
  obtain ⟨e, h⟩ := h
  subst e
  cases r
  exact assignInOrder_nil ⟨σ, H, I, h⟩
theorem pgs_cons {e : Expr} {es : List Expr} {t : TG} {u : TGs} (h1 : PG X e t) (h2 : PGs X es u)
    (hs : (assignEach (e :: es) X.env).map (·.2) = assign e X.env :: (assignEach es X.env).map (·.2) := by rfl) : PGs X (e :: es) (gCons t u) := by
  intro pins s σ H vs us Q I r h
  obtain ⟨v, vr, e1, h⟩ := h
  subst e1
  cases r with
  | cons r rr =>
    rw [hs]
    refine assignInOrder_cons (thn (h1 pins s σ H _ _ _ I r h) fun _ s1 ⟨σ1, H1, I1, q1⟩ => ?_)
    exact h2 pins s1 σ1 H1 _ _ Q I1 rr q1
/-- (a, b, ..) = a tuple of that length -/
def gTup (K : PySem.W.Frag) (n : Nat) (t : TGs) : TG := fun v σ H Q => ∃ a xs, v = .ref a ∧ SqT K H a xs ∧ xs.length = n ∧ t xs σ H Q
theorem pg_tup {es : List Expr} {k : Nat} {t : TGs} {n : Nat} (hc : X.calm = true) (h : PGs X es t)
    (hn : (assignEach es X.env).length = n := by rfl) (hst : (assignEach es X.env).findIdx? (·.1) = none := by rfl) : PG X (.Tuple es k pos) (gTup X.K n t) := by
  intro pins s σ H v u Q I r hw
  obtain ⟨a, xs, e1, hq, hl, hw⟩ := hw
  subst e1
  cases r
  obtain ⟨its, rv, ht, hz⟩ := I.tuple hq
  refine assign_Tuple_tuple (I.ok.hd hc) ht (by simp [hn, ← hl, rv.length]) hst fun h' hx => ?_
  have I1 : Inv X pins σ H { s with heap := h' } := I.kept (t' := s.toks) fun b o e => hx b o (Nat.ne_of_lt (Heap.lt_size e)) e
  exact h pins _ σ H xs _ Q I1 (by simpa using rv) hw
/-- o[i] = .. -/
def gSub (to ti : TE) (t : TSet) : TG := fun v σ H Q => to σ H fun o H1 => ti σ H1 fun i H2 => t o i v H2 fun H3 => Q σ H3
theorem pg_sub {o i : Expr} {to ti : TE} {t : TSet} (ho : PE X o to) (hi : PE X i ti) (hs : PSet X t)
    (ha : ∀ v, assign (.Subscript o i pos) X.env v = (do
      let ov ← holding [v] (eval o X.env)
      let iv ← holding [v, ov] (eval i X.env)
      standAt pos
      holding [v, ov, iv] (setItem ov iv v)
      release [v, ov, iv] []) := by intro _; rfl) : PG X (.Subscript o i pos) (gSub to ti t) := by
  intro pins s σ H v u Q I r h
  rw [ha]
  refine wpAny_bind (wpAny_holding (thn (ho pins s σ H _ I h) fun ov s1 ⟨x, H1, I1, r1, q1⟩ => ?_))
  refine wpAny_bind (wpAny_holding (thn (hi pins s1 σ H1 _ I1 q1) fun iv s2 ⟨y, H2, I2, r2, q2⟩ => ?_))
  refine wpAny_bind (wpAny_standAt (wpAny_bind (wpAny_holding (thn (hs pins s2 σ H2 x y v ov iv u _ I2 r1 r2 r q2) fun _ s3 ⟨H3, I3, q3⟩ => ?_))))
  exact wpAny_release ⟨σ, H3, I3, q3⟩
/-- target = value -/
def tAsg (te : TE) (g : TG) : TS := fun D σ H => te σ H fun x H1 => g x σ H1 D.nx
theorem ps_asg {tg e : Expr} {te : TE} {g : TG} (he : PE X e te) (hg : PG X tg g) (hs : swapsWithSole [tg] e pos.line X.env = pure false := by rfl) (hw : swappedStores [tg] e X.env = pure none := by rfl)
    (h1 : (assignEach [tg] X.env).map (·.2) = [assign tg X.env] := by rfl) : PS X (.Assign [tg] e pos) (tAsg te g) := by
  intro pins s σ H D I h
  refine wpAny_Assign_stores (thn (he pins s σ H _ I h) fun v s1 ⟨x, H1, I1, r1, q1⟩ => ?_) hs hw
  rw [h1]
  exact thn (hg pins s1 σ H1 x v _ I1 r1 q1) fun _ s2 q => q
/-- name = value -/
theorem ps_set {i : Nat} {x : Str} {e : Expr} {te : TE} {pos' : Pos} (hN : X.N.Nodup) (hi : X.N[i]? = some x) (hx : Loc X.env.scope x) (he : PE X e te) (hs : swapsWith e (some (.Name x pos')) pos.line X.env = pure false := by rfl) (hf : X.fn x = true ∨ X.env.scope.names.lookup x = some .local := by first | exact .inl rfl | exact .inr rfl | assumption) :
    PS X (.Assign [.Name x pos'] e pos) (tAsg te (gName i)) := by
  intro pins s σ H D I h
  refine wpAny_Assign_Name (thn (he pins s σ H _ I h) fun v s1 ⟨y, H1, I1, r1, q1⟩ => ?_) hs
  exact store_ok I1 hN hi hx r1 (fun s2 I2 => ⟨_, H1, I2, q1⟩) hf
end

/-! ### while -/
section
variable {X : Cx} {pos : Pos}
end

/-! ### what a loop or a comprehension walks -/
/-- at turn i: it yields x (the heap may grow), or it stops -/
structure It where
  go : Nat → Hp → Prop
  yld : Nat → Hp → V → Hp → Prop
  stop : Nat → Hp → Prop
/-- the iterator's own objects may turn: they are not the frame's, not pinned, younger than the entry (or a comprehension's own) -/
def FpOk (X : Cx) (pins : List (Addr × Obj)) (H : Hp) (b : Addr) : Prop :=
  H b = none ∧ b ≠ X.env.locals ∧ b ∉ X.fs ∧ (b ∈ X.ex ∨ X.s₀.heap.objs.size ≤ b) ∧ (∀ x c, X.env.cells.lookup x = some c → c ≠ b) ∧ ∀ p ∈ X.pn ++ pins, p.1 ≠ b
theorem Inv.fpOk {X : Cx} {pins : List (Addr × Obj)} {σ : St} {H H' : Hp} {s : Shared} {b : Addr} (I : Inv X pins σ H s) (hb : s.heap.objs.size ≤ b) (hn : H' b = none) : FpOk X pins H' b := by
  refine ⟨hn, Nat.ne_of_gt (Nat.lt_of_lt_of_le I.lt hb), I.nofs hb, .inr (Nat.le_trans I.sz hb), fun x c e z => ?_, fun p hp z => ?_⟩
  · obtain ⟨v, q⟩ := I.cell x c e
    exact absurd (Nat.lt_of_lt_of_le q.lt (by rw [z]; exact hb)) (Nat.lt_irrefl _)
  · exact absurd (Nat.lt_of_lt_of_le (Heap.lt_size (I.pin p hp).1) (by rw [z]; exact hb)) (Nat.lt_irrefl _)
structure Turn (P : Program) (w : World) (K : PySem.W.Frag) (tg : Expr) (J : It) (fp : List Addr) (it : Addr) (tn : Nat → Heap → Prop) : Prop where
  mem : it ∈ fp
  obj : ∀ i h, tn i h → ∀ b ∈ fp, ∃ o, h.get? b = some o ∧ ∀ v, o.data ≠ .cell v
  keep : ∀ i h h', tn i h → (∀ b ∈ fp, ∀ o, h.get? b = some o → h'.get? b = some o) → tn i h'
  item : ∀ (X : Cx), X.prog = P → X.w = w → X.K = K → X.calm = true → ∀ (i : Nat) (pins : List (Addr × Obj)) (s : Shared) (σ : St) (H : Hp) (E : Value → Shared → Prop), Inv X pins σ H s → (∀ b ∈ fp, FpOk X pins H b) → tn i s.heap → J.go i H →
    wpAny (model P w) X.A (pyNext (.ref it)) (fun r s1 => ∃ u, r = some u ∧
      wpAny (model P w) X.A (letOwnedTupleGo tg (.ref it) u) (fun _ s2 => ∃ x H', Inv X pins σ H' s2 ∧ RelV x u ∧ J.yld i H x H' ∧ tn (i + 1) s2.heap ∧ ∀ b ∈ fp, H' b = none) E s1) E s
  done : ∀ (X : Cx), X.prog = P → X.w = w → X.K = K → X.calm = true → ∀ (i : Nat) (pins : List (Addr × Obj)) (s : Shared) (σ : St) (H : Hp) (E : Value → Shared → Prop), Inv X pins σ H s → (∀ b ∈ fp, FpOk X pins H b) → tn i s.heap → J.stop i H →
    wpAny (model P w) X.A (pyNext (.ref it)) (fun r s1 => r = none ∧ Inv X pins σ H s1) E s
  self : ∀ (A : Around) (i : Nat) (s : Shared) (Q : Value → Shared → Prop) (E : Value → Shared → Prop), tn i s.heap → Q (.ref it) s → wpAny (model P w) A (pyIter (.ref it)) Q E s
abbrev TI := St → Hp → (It → Hp → Prop) → Prop
/-- an iterator has come -/
def PIE (X : Cx) (pins : List (Addr × Obj)) (σ : St) (tg : Expr) (R : It → Hp → Prop) (itv : Value) (s2 : Shared) : Prop :=
  ∃ (it : Addr) (fp : List Addr) (tn : Nat → Heap → Prop) (J : It) (H' : Hp), itv = .ref it ∧ Inv X pins σ H' s2 ∧ Turn X.prog X.w X.K tg J fp it tn ∧ tn 0 s2.heap ∧ (∀ b ∈ fp, FpOk X pins H' b) ∧ R J H'
def PI (X : Cx) (tg iter : Expr) (wi : TI) : Prop :=
  ∀ (pins : List (Addr × Obj)) (s : Shared) (σ : St) (H : Hp) (R : It → Hp → Prop), Inv X pins σ H s → wi σ H R →
    wpAny (model X.prog X.w) X.A (eval iter X.env) (fun v s1 => wpAny (model X.prog X.w) X.A (pyIter v) (PIE X pins σ tg R) X.xe s1) X.xe s

/-- the step ahead of the store is nothing for an iterator that keeps no tuple -/
theorem go_of {M : Model} {A : Around} {E : Value → Shared → Prop} {s : Shared} {tg : Expr} {it : Addr} {u : Value} {o : Obj} {n : String} {vs : Array Value} {Q : Unit → Shared → Prop} (ho : s.heap.get? it = some o) (hc : o.cls = .type n) (hd : o.data = .fields vs)
    (hn : ["enumerate", "zip", "dict_itemiterator", "dict_reverseitemiterator", "odict_iterator", "itertools.zip_longest", "itertools.pairwise"].contains n = false) (hQ : Q () s) : wpAny M A (letOwnedTupleGo tg (.ref it) u) Q E s := by
  unfold letOwnedTupleGo
  cases tg <;> first
    | exact wpAny_pure hQ
    | (cases u <;> first
        | exact wpAny_pure hQ
        | (refine wpAny_bind (wpAny_load ho ?_)
           rw [hc, hd]
           show wpAny M A (if (["enumerate", "zip", "dict_itemiterator", "dict_reverseitemiterator", "odict_iterator", "itertools.zip_longest", "itertools.pairwise"].contains n && vs[0]? == some (rawInt _)) = true then _ else _) Q E s
           rw [if_neg (by intro h; rw [hn, Bool.false_and] at h; cases h)]
           exact wpAny_pure hQ))

/-- the list at a, as it stands at each turn (a loop may append to it) -/
def Itl (K : PySem.W.Frag) (a : Addr) : It :=
  ⟨fun i H => ∃ xs x, SqL K H a xs ∧ xs[i]? = some x, fun i H x H' => H' = H ∧ ∀ xs, SqL K H a xs → xs[i]? = some x, fun i H => ∃ xs, SqL K H a xs ∧ xs.length ≤ i⟩
def Itt (K : PySem.W.Frag) (a : Addr) : It :=
  ⟨fun i H => ∃ xs x, SqT K H a xs ∧ xs[i]? = some x, fun i H x H' => H' = H ∧ ∀ xs, SqT K H a xs → xs[i]? = some x, fun i H => ∃ xs, SqT K H a xs ∧ xs.length ≤ i⟩
/-- lo, lo + 1, .. (n of them) -/
def Itr (lo : Int) (n : Nat) : It := ⟨fun i _ => i < n, fun i H x H' => H' = H ∧ x = .int (lo + i), fun i _ => n ≤ i⟩
theorem turn_list {P : Program} {w : World} {K : PySem.W.Frag} {tg : Expr} (a it : Addr) : Turn P w K tg (Itl K a) [it] it (fun i h => h.IsListIter it a i) where
  mem := by simp
  obj := fun i h st b hb => by
    have e : b = it := by simpa using hb
    subst e
    obtain ⟨o, e, c, d⟩ := st
    exact ⟨o, e, fun v z => by rw [d] at z; cases z⟩
  keep := fun i h h' st k => st.at fun o e => k it (by simp) o e
  item := by
    intro X hP hw hK hc i pins s σ H E I hf st hg
    subst hP hw hK
    obtain ⟨xs, x, hq, hx⟩ := hg
    obtain ⟨its, rv, p, hz⟩ := I.list hq
    obtain ⟨u, hu, ru⟩ := rv.get hx
    obtain ⟨f0, f1, f2, f3, f4, f5⟩ := hf it (by simp)
    refine wpAny_pyNext_list_item st p.isList (x := u) (by simpa using hu) fun h' st' sb => ?_
    have I1 : Inv X pins σ H { s with heap := h' } := I.turned (t' := s.toks) (fun b o hb e => (sb.2 b hb).trans e) f0 f1 f3 f4 f5
    obtain ⟨o, e, c, d⟩ := id st'
    exact ⟨u, rfl, go_of (s := { s with heap := h' }) e c d (by decide) ⟨x, H, I1, ru, ⟨rfl, fun ys hy => by rw [I.list_inj hy hq]; exact hx⟩, st', fun b hb => (hf b hb).1⟩⟩
  done := by
    intro X hP hw hK hc i pins s σ H E I hf st hg
    subst hP hw hK
    obtain ⟨xs, hq, hx⟩ := hg
    obtain ⟨its, rv, p, hz⟩ := I.list hq
    obtain ⟨f0, f1, f2, f3, f4, f5⟩ := hf it (by simp)
    have hl := rv.length
    exact wpAny_pyNext_list_end (I.ok.hd hc) st p.isList (by simp; omega) fun h' eb => ⟨rfl, I.turned (t' := s.toks) (fun b o hb e => eb b o hb e) f0 f1 f3 f4 f5⟩
  self := fun _ _ _ _ _ st h => wpAny_pyIter_listiter st h
theorem turn_tuple {P : Program} {w : World} {K : PySem.W.Frag} {tg : Expr} (a it : Addr) : Turn P w K tg (Itt K a) [it] it (fun i h => h.IsTupleIter it a i) where
  mem := by simp
  obj := fun i h st b hb => by
    have e : b = it := by simpa using hb
    subst e
    obtain ⟨o, e, c, d⟩ := st
    exact ⟨o, e, fun v z => by rw [d] at z; cases z⟩
  keep := fun i h h' st k => st.at fun o e => k it (by simp) o e
  item := by
    intro X hP hw hK hc i pins s σ H E I hf st hg
    subst hP hw hK
    obtain ⟨xs, x, hq, hx⟩ := hg
    obtain ⟨its, rv, p, hz⟩ := I.tuple hq
    obtain ⟨u, hu, ru⟩ := rv.get hx
    obtain ⟨f0, f1, f2, f3, f4, f5⟩ := hf it (by simp)
    refine wpAny_pyNext_tuple_item st (show s.heap.IsTuple a its.toArray from p) (x := u) (by simpa using hu) fun h' st' sb => ?_
    have I1 : Inv X pins σ H { s with heap := h' } := I.turned (t' := s.toks) (fun b o hb e => (sb.2 b hb).trans e) f0 f1 f3 f4 f5
    obtain ⟨o, e, c, d⟩ := id st'
    exact ⟨u, rfl, go_of (s := { s with heap := h' }) e c d (by decide) ⟨x, H, I1, ru, ⟨rfl, fun ys hy => by rw [I.tuple_inj hy hq]; exact hx⟩, st', fun b hb => (hf b hb).1⟩⟩
  done := by
    intro X hP hw hK hc i pins s σ H E I hf st hg
    subst hP hw hK
    obtain ⟨xs, hq, hx⟩ := hg
    obtain ⟨its, rv, p, hz⟩ := I.tuple hq
    obtain ⟨f0, f1, f2, f3, f4, f5⟩ := hf it (by simp)
    have hl := rv.length
    exact wpAny_pyNext_tuple_end (I.ok.hd hc) st (show s.heap.IsTuple a its.toArray from p) (by simp; omega) fun h' eb => ⟨rfl, I.turned (t' := s.toks) (fun b o hb e => eb b o hb e) f0 f1 f3 f4 f5⟩
  self := fun _ _ _ _ _ st h => wpAny_pyIter_tupleiter st h
theorem turn_range {P : Program} {w : World} {K : PySem.W.Frag} {tg : Expr} (it : Addr) (lo : Int) (n : Nat) : Turn P w K tg (Itr lo n) [it] it (fun i h => IsRangeIter h it (lo + (i : Nat) * 1) ((n : Int) - (i : Nat)) 1) where
  mem := by simp
  obj := fun i h st b hb => by
    have e : b = it := by simpa using hb
    subst e
    exact ⟨_, st, fun v z => by
      have z' : Data.fields _ = Data.cell v := z
      cases z'⟩
  keep := fun i h h' st k => k it (by simp) _ st
  item := by
    intro X hP hw hK hc i pins s σ H E I hf st hg
    subst hP hw hK
    obtain ⟨f0, f1, f2, f3, f4, f5⟩ := hf it (by simp)
    have W := Walks.range (prog := X.prog) (w := X.w) (I.ok.hd hc) it lo 1 n
    refine W.item i s _ _ hg st fun v h' tk hv st' kk => ?_
    obtain ⟨t, rfl⟩ := hv
    have I1 : Inv X pins σ H { s with heap := h', toks := tk } := I.turned (fun b o hb e => kk b o (by simpa using hb) e) f0 f1 f3 f4 f5
    refine ⟨_, rfl, go_of (s := { s with heap := h', toks := tk }) (n := "range_iterator") st' rfl rfl (by decide) ⟨.int (lo + i), H, I1, ⟨t, ?_⟩, ⟨rfl, rfl⟩, st', fun b hb => (hf b hb).1⟩⟩
    rw [Int.mul_one]
  done := by
    intro X hP hw hK hc i pins s σ H E I hf st hg
    subst hP hw hK
    obtain ⟨f0, f1, f2, f3, f4, f5⟩ := hf it (by simp)
    exact wpAny_pyNext_range_end (I.ok.hd hc) st (by have : n ≤ i := hg; omega) fun h' eb => ⟨rfl, I.turned (t' := s.toks) (fun b o hb e => eb b o hb e) f0 f1 f3 f4 f5⟩
  self := fun _ _ _ _ _ st h => wpAny_pyIter_rangeiter st h
end L2

namespace L2
open PySem PySem.Spec PyProof.Rows
section
variable {X : Cx} {tg : Expr}
def iList (K : PySem.W.Frag) (tl : TE) : TI := fun σ H R => tl σ H fun x H1 => ∃ a, x = .ref a ∧ (∃ xs, SqL K H1 a xs) ∧ R (Itl K a) H1
def iTup (K : PySem.W.Frag) (tl : TE) : TI := fun σ H R => tl σ H fun x H1 => ∃ a, x = .ref a ∧ (∃ xs, SqT K H1 a xs) ∧ R (Itt K a) H1
theorem pi_list {l : Expr} {tl : TE} (hl : PE X l tl) : PI X tg l (iList X.K tl) := by
  intro pins s σ H R I h
  refine thn (hl pins s σ H _ I h) fun v s1 ⟨x, H1, I1, r1, q1⟩ => ?_
  obtain ⟨a, e, ⟨xs, hq⟩, q⟩ := q1
  subst e
  cases r1
  obtain ⟨its, rv, p, hz⟩ := I1.list hq
  refine wpAny_pyIter_list p.isList ?_
  refine ⟨s1.heap.objs.size, [s1.heap.objs.size], _, _, H1, rfl, I1.kept (t' := s1.toks) fun b o e => Heap.get?_push_of_some _ e, turn_list a _, ⟨_, Heap.get?_push_size _ rfl, rfl, rfl⟩, fun b hb => ?_, q⟩
  have e : b = s1.heap.objs.size := by simpa using hb
  subst e
  exact I1.fpOk (Nat.le_refl _) (I1.hok.fresh (Nat.le_refl _))
theorem pi_tup {l : Expr} {tl : TE} (hl : PE X l tl) : PI X tg l (iTup X.K tl) := by
  intro pins s σ H R I h
  refine thn (hl pins s σ H _ I h) fun v s1 ⟨x, H1, I1, r1, q1⟩ => ?_
  obtain ⟨a, e, ⟨xs, hq⟩, q⟩ := q1
  subst e
  cases r1
  obtain ⟨its, rv, p, hz⟩ := I1.tuple hq
  refine wpAny_pyIter_tuple (show s1.heap.IsTuple a its.toArray from p) ?_
  refine ⟨s1.heap.objs.size, [s1.heap.objs.size], _, _, H1, rfl, I1.kept (t' := s1.toks) fun b o e => Heap.get?_push_of_some _ e, turn_tuple a _, ⟨_, Heap.get?_push_size _ rfl, rfl, rfl⟩, fun b hb => ?_, q⟩
  have e : b = s1.heap.objs.size := by simpa using hb
  subst e
  exact I1.fpOk (Nat.le_refl _) (I1.hok.fresh (Nat.le_refl _))
/-- a range object just made, walked -/
theorem range_it {pins : List (Addr × Obj)} {σ : St} {H : Hp} {s : Shared} {R : It → Hp → Prop} {E : Value → Shared → Prop} {lo hi : Int} {t u v : Tok} {tk : Nat} (I : Inv X pins σ H s) (h1 : -(2 ^ 62) ≤ lo) (h2 : lo < 2 ^ 62) (h3 : -(2 ^ 62) ≤ hi) (h4 : hi < 2 ^ 62)
    (q : R (Itr lo (hi - lo).toNat) H) : wpAny (model X.prog X.w) X.A (pyIter (.ref s.heap.objs.size)) (PIE X pins σ tg R) E { s with heap := s.heap.push { cls := .type "range", data := .fields #[.int lo t, .int hi u, .int 1 v] }, toks := tk } := by
  refine wpAny_pyIter_range (IsRange.new ..) (small_one h1 h2 h3 h4) ?_
  have I1 : Inv X pins σ H { s with heap := s.heap.push { cls := .type "range", data := .fields #[.int lo t, .int hi u, .int 1 v] }, toks := tk } := I.kept fun b o e => Heap.get?_push_of_some _ e
  refine ⟨(s.heap.push { cls := .type "range", data := .fields #[.int lo t, .int hi u, .int 1 v] }).objs.size, [(s.heap.push { cls := .type "range", data := .fields #[.int lo t, .int hi u, .int 1 v] }).objs.size], _, _, H, rfl,
    I1.kept (t' := tk) fun b o e => Heap.get?_push_of_some _ e, turn_range _ lo (hi - lo).toNat, ?_, fun b hb => ?_, q⟩
  · have e1 : lo + ((0 : Nat) : Int) * 1 = lo := by simp
    have e2 : (((hi - lo).toNat : Nat) : Int) - ((0 : Nat) : Int) = Builtin.Range.rangeSize lo hi 1 := by rw [rangeSize_one]; split <;> omega
    show IsRangeIter _ _ (lo + ((0 : Nat) : Int) * 1) ((((hi - lo).toNat : Nat) : Int) - ((0 : Nat) : Int)) 1
    rw [e1, e2]
    exact Heap.get?_push_size _ rfl
  · have e : b = (s.heap.push { cls := .type "range", data := .fields #[.int lo t, .int hi u, .int 1 v] }).objs.size := by simpa using hb
    subst e
    exact I1.fpOk (Nat.le_refl _) (I1.hok.fresh (Nat.le_refl _))
def iRng1 (ta : TA) : TI := fun σ H R => ta σ H fun vs H1 => ∃ j : Int, vs = [.int j] ∧ -(2 ^ 62) ≤ j ∧ j < 2 ^ 62 ∧ R (Itr 0 j.toNat) H1
def iRng2 (ta : TA) : TI := fun σ H R => ta σ H fun vs H1 => ∃ i j : Int, vs = [.int i, .int j] ∧ (-(2 ^ 62) ≤ i ∧ i < 2 ^ 62 ∧ -(2 ^ 62) ≤ j ∧ j < 2 ^ 62) ∧ R (Itr i (j - i).toNat) H1
theorem pi_range1 {a : Expr} {ta : TA} {p pos : Pos} (hg : Gl X "range") (hm : X.mg "range" = none) (ha : PA X [a] ta) (hs : starEach [a] X.env = [(false, eval a X.env)] := by rfl) : PI X tg (.Call (.Name "range" p) [a] [] pos) (iRng1 ta) := by
  intro pins s σ H R I h
  refine Call_ (ld_blt I hg hm boot_range (PyProof.Rows.callWith_type1 (thn (ha pos pins s σ H _ I h) fun us s1 ⟨vs, H1, I1, r1, q1⟩ => ?_) hs rfl))
  obtain ⟨j, e, q1, q2, q⟩ := q1
  subst e
  cases r1 with
  | cons r rr =>
    cases rr
    obtain ⟨t, rfl⟩ := r
    exact call_range_1 (range_it I1 (by omega) (by omega) q1 q2 (by simpa using q))
theorem pi_range2 {a b : Expr} {ta : TA} {p pos : Pos} (hg : Gl X "range") (hm : X.mg "range" = none) (ha : PA X [a, b] ta) (hs : starEach [a, b] X.env = [(false, eval a X.env), (false, eval b X.env)] := by rfl) (hs2 : starEach [b] X.env = [(false, eval b X.env)] := by rfl) :
    PI X tg (.Call (.Name "range" p) [a, b] [] pos) (iRng2 ta) := by
  intro pins s σ H R I h
  refine Call_ (ld_blt I hg hm boot_range (PyProof.Rows.callWith_type1 (thn (ha pos pins s σ H _ I h) fun us s1 ⟨vs, H1, I1, r1, q1⟩ => ?_) (by rw [hs, hs2]) (by rw [hs2]; rfl)))
  obtain ⟨i, j, e, ⟨q1, q2, q3, q4⟩, q⟩ := q1
  subst e
  cases r1 with
  | cons r rr =>
    cases rr with
    | cons r' rr =>
      cases rr
      obtain ⟨t, rfl⟩ := r
      obtain ⟨t', rfl⟩ := r'
      exact call_range_2 (range_it I1 q1 q2 q3 q4 q)

/-! ### for -/
/-- W: the invariant by the turn and a measure; N: what the body is to reach -/
def tFor (wi : TI) (g : TG) (tb : TS) : TS := fun D σ H => wi σ H fun J H1 => ∃ W : Nat → Nat → St → Hp → Prop, (∃ m, W 0 m σ H1) ∧ ∀ i m σ H, W i m σ H →
  (J.stop i H ∧ D.nx σ H) ∨ (J.go i H ∧ ∃ N : St → Hp → Prop, (∀ σ' H', N σ' H' → ∃ m', m' < m ∧ W (i + 1) m' σ' H') ∧ ∀ x H', J.yld i H x H' → g x σ H' fun σ2 H2 => tb { D with nx := N, ct := N, bk := D.nx } σ2 H2)
/-- the records at fp as they stand -/
def pinsAt (fp : List Addr) (h : Heap) : List (Addr × Obj) := fp.filterMap fun b => (h.get? b).map fun o => (b, o)
theorem mem_pinsAt {fp : List Addr} {h : Heap} {b : Addr} {o : Obj} (hb : b ∈ fp) (e : h.get? b = some o) : (b, o) ∈ pinsAt fp h := List.mem_filterMap.mpr ⟨b, hb, by rw [e]; rfl⟩
theorem of_pinsAt {fp : List Addr} {h : Heap} {p : Addr × Obj} (hp : p ∈ pinsAt fp h) : p.1 ∈ fp ∧ h.get? p.1 = some p.2 := by
  obtain ⟨b, hb, e⟩ := List.mem_filterMap.mp hp
  cases q : h.get? b with
  | none => rw [q] at e; cases e
  | some o =>
    rw [q] at e
    have e' : (b, o) = p := Option.some.inj e
    subst e'
    exact ⟨hb, q⟩
theorem Inv.pinned {pins : List (Addr × Obj)} {σ : St} {H : Hp} {s : Shared} {fp : List Addr} (I : Inv X pins σ H s) (hf : ∀ b ∈ fp, FpOk X pins H b) (ho : ∀ b ∈ fp, ∃ o, s.heap.get? b = some o ∧ ∀ v, o.data ≠ .cell v) : Inv X (pins ++ pinsAt fp s.heap) σ H s :=
  I.pins_of fun p hp => (List.mem_append.mp hp).elim (fun z => I.pin p (List.mem_append_right _ z)) fun z => by
    obtain ⟨hb, e⟩ := of_pinsAt z
    obtain ⟨f0, f1, f2, _⟩ := hf p.1 hb
    obtain ⟨o, e', d⟩ := ho p.1 hb
    rw [e] at e'; cases e'
    exact ⟨e, f0, f1, f2, d⟩
theorem Inv.unpinned {pins pl : List (Addr × Obj)} {σ : St} {H : Hp} {s : Shared} (I : Inv X (pins ++ pl) σ H s) : Inv X pins σ H s := I.pins_of fun p hp => I.pin p (List.mem_append_right _ (List.mem_append_left _ hp))
theorem ps_for {iter : Expr} {body : List Stmt} {wi : TI} {g : TG} {tb : TS} {pos : Pos} (hp : PassesOwn (model X.prog X.w) X.A X.env X.xe) (hc : X.calm = true) (hi : PI X tg iter wi) (hg : PG X tg g) (hb : PSs X body tb)
    (hs : ∀ x, foldedSetIterable iter X.env x = pure x := by intro _; rfl) : PS X (.For tg iter body [] pos) (tFor wi g tb) := by
  intro pins s σ H D I h
  refine wpAny_For (thn (hi pins s σ H _ I h) fun v s1 h1 => thn h1 fun itv s2 h2 => ?_) hs
  obtain ⟨it, fp, tn, J, H2, e, I2, T, st2, f2, W, ⟨m0, w0⟩, turn⟩ := h2
  subst e
  -- what stays true of the iterator's objects through the loop
  have stat : ∀ {H' : Hp}, (∀ b ∈ fp, H' b = none) → ∀ b ∈ fp, FpOk X pins H' b := fun hn b hb => ⟨hn b hb, (f2 b hb).2⟩
  refine codeAny_forLoop_any (fun n s' => ∃ i σ' H', Inv X pins σ' H' s' ∧ tn i s'.heap ∧ (∀ b ∈ fp, H' b = none) ∧ W i n σ' H') ?_ m0 ⟨0, σ, H2, I2, st2, fun b hb => (f2 b hb).1, w0⟩
  rintro n s3 ⟨i, σ3, H3, I3, st3, fr3, w3⟩
  rcases turn i n σ3 H3 w3 with ⟨stop, qn⟩ | ⟨go, N, hN, step⟩
  · refine wpAny_passesOwn hp (thn (T.done X rfl rfl rfl hc i pins s3 σ3 H3 X.xe I3 (stat fr3) st3 stop) fun r s4 ⟨hr, I4⟩ => ?_)
    subst hr
    exact wpAny_execs_nil ⟨σ3, H3, I4, qn⟩
  · refine wpAny_passesOwn hp (thn (T.item X rfl rfl rfl hc i pins s3 σ3 H3 X.xe I3 (stat fr3) st3 go) fun r s4 ⟨u, hr, h4⟩ => ?_)
    subst hr
    refine wpAny_passesOwn hp (thn h4 fun _ s5 ⟨x, H5, I5, r5, y5, st5, fr5⟩ => ?_)
    have I5' := I5.pinned (stat fr5) (T.obj _ _ st5)
    refine wpAny_passesOwn hp (thn (hg _ s5 σ3 H5 x u _ I5' r5 (step x H5 y5)) fun _ s6 ⟨σ6, H6, I6, q6⟩ => ?_)
    refine wpAny_passesOwn hp (thn (hb _ s6 σ6 H6 _ I6 q6) fun f s7 q7 => ?_)
    have again : ∀ {σ7 : St} {H7 : Hp}, Inv X (pins ++ pinsAt fp s5.heap) σ7 H7 s7 → N σ7 H7 → ∃ m, m < n ∧ ∃ i σ' H', Inv X pins σ' H' s7 ∧ tn i s7.heap ∧ (∀ b ∈ fp, H' b = none) ∧ W i m σ' H' := fun {σ7 H7} I7 n7 => by
      obtain ⟨m', hm, w7⟩ := hN σ7 H7 n7
      refine ⟨m', hm, i + 1, σ7, H7, I7.unpinned, T.keep _ _ _ st5 fun b hb o e => (I7.pin (b, o) (List.mem_append_right _ (List.mem_append_right _ (mem_pinsAt hb e)))).1, fun b hb => ?_, w7⟩
      obtain ⟨o, e, d⟩ := T.obj _ _ st5 b hb
      exact (I7.pin (b, o) (List.mem_append_right _ (List.mem_append_right _ (mem_pinsAt hb e)))).2.1
    cases f with
    | next => obtain ⟨σ7, H7, I7, n7⟩ := q7; exact again I7 n7
    | cont => obtain ⟨σ7, H7, I7, n7⟩ := q7; exact again I7 n7
    | brk => obtain ⟨σ7, H7, I7, q7⟩ := q7; exact ⟨σ7, H7, I7.unpinned, q7⟩
    | ret v => obtain ⟨x7, σ7, H7, I7, r7, q7⟩ := q7; exact ⟨x7, σ7, H7, I7.unpinned, r7, q7⟩
end

/-! ### the forms one uses -/
/-- over a list that the body leaves as it is -/
theorem for_list {K : PySem.W.Frag} {a : Addr} {xs : List V} {g : TG} {tb : TS} {D : Ends} {σ : St} {H : Hp} (Pv : Nat → St → Hp → Prop) (h0 : Pv 0 σ H) (hl : ∀ i σ H, i ≤ xs.length → Pv i σ H → SqL K H a xs)
    (hs : ∀ i x σ H, xs[i]? = some x → Pv i σ H → g x σ H fun σ2 H2 => tb { D with nx := Pv (i + 1), ct := Pv (i + 1), bk := D.nx } σ2 H2) (hd : ∀ σ H, Pv xs.length σ H → D.nx σ H) :
    ∃ W : Nat → Nat → St → Hp → Prop, (∃ m, W 0 m σ H) ∧ ∀ i m σ H, W i m σ H →
      ((Itl K a).stop i H ∧ D.nx σ H) ∨ ((Itl K a).go i H ∧ ∃ N : St → Hp → Prop, (∀ σ' H', N σ' H' → ∃ m', m' < m ∧ W (i + 1) m' σ' H') ∧ ∀ x H', (Itl K a).yld i H x H' → g x σ H' fun σ2 H2 => tb { D with nx := N, ct := N, bk := D.nx } σ2 H2) := by
  refine ⟨fun i m σ H => m = xs.length - i ∧ i ≤ xs.length ∧ Pv i σ H, ⟨xs.length, by simp, Nat.zero_le _, h0⟩, ?_⟩
  rintro i m σ H ⟨rfl, hi, p⟩
  have q := hl i σ H hi p
  by_cases hlt : i < xs.length
  · refine .inr ⟨⟨xs, xs[i], q, by simp [hlt]⟩, Pv (i + 1), fun σ' H' p' => ⟨xs.length - (i + 1), by omega, rfl, hlt, p'⟩, fun x H' y => ?_⟩
    obtain ⟨e, y⟩ := y
    subst e
    exact hs i x σ _ (y xs q) p
  · have e : i = xs.length := by omega
    subst e
    exact .inl ⟨⟨xs, q, Nat.le_refl _⟩, hd σ H p⟩
theorem for_tup {K : PySem.W.Frag} {a : Addr} {xs : List V} {g : TG} {tb : TS} {D : Ends} {σ : St} {H : Hp} (Pv : Nat → St → Hp → Prop) (h0 : Pv 0 σ H) (hl : ∀ i σ H, i ≤ xs.length → Pv i σ H → SqT K H a xs)
    (hs : ∀ i x σ H, xs[i]? = some x → Pv i σ H → g x σ H fun σ2 H2 => tb { D with nx := Pv (i + 1), ct := Pv (i + 1), bk := D.nx } σ2 H2) (hd : ∀ σ H, Pv xs.length σ H → D.nx σ H) :
    ∃ W : Nat → Nat → St → Hp → Prop, (∃ m, W 0 m σ H) ∧ ∀ i m σ H, W i m σ H →
      ((Itt K a).stop i H ∧ D.nx σ H) ∨ ((Itt K a).go i H ∧ ∃ N : St → Hp → Prop, (∀ σ' H', N σ' H' → ∃ m', m' < m ∧ W (i + 1) m' σ' H') ∧ ∀ x H', (Itt K a).yld i H x H' → g x σ H' fun σ2 H2 => tb { D with nx := N, ct := N, bk := D.nx } σ2 H2) := by
  refine ⟨fun i m σ H => m = xs.length - i ∧ i ≤ xs.length ∧ Pv i σ H, ⟨xs.length, by simp, Nat.zero_le _, h0⟩, ?_⟩
  rintro i m σ H ⟨rfl, hi, p⟩
  have q := hl i σ H hi p
  by_cases hlt : i < xs.length
  · refine .inr ⟨⟨xs, xs[i], q, by simp [hlt]⟩, Pv (i + 1), fun σ' H' p' => ⟨xs.length - (i + 1), by omega, rfl, hlt, p'⟩, fun x H' y => ?_⟩
    obtain ⟨e, y⟩ := y
    subst e
    exact hs i x σ _ (y xs q) p
  · have e : i = xs.length := by omega
    subst e
    exact .inl ⟨⟨xs, q, Nat.le_refl _⟩, hd σ H p⟩
theorem for_range {lo : Int} {n : Nat} {g : TG} {tb : TS} {D : Ends} {σ : St} {H : Hp} (Pv : Nat → St → Hp → Prop) (h0 : Pv 0 σ H)
    (hs : ∀ i σ H, i < n → Pv i σ H → g (.int (lo + i)) σ H fun σ2 H2 => tb { D with nx := Pv (i + 1), ct := Pv (i + 1), bk := D.nx } σ2 H2) (hd : ∀ σ H, Pv n σ H → D.nx σ H) :
    ∃ W : Nat → Nat → St → Hp → Prop, (∃ m, W 0 m σ H) ∧ ∀ i m σ H, W i m σ H →
      ((Itr lo n).stop i H ∧ D.nx σ H) ∨ ((Itr lo n).go i H ∧ ∃ N : St → Hp → Prop, (∀ σ' H', N σ' H' → ∃ m', m' < m ∧ W (i + 1) m' σ' H') ∧ ∀ x H', (Itr lo n).yld i H x H' → g x σ H' fun σ2 H2 => tb { D with nx := N, ct := N, bk := D.nx } σ2 H2) := by
  refine ⟨fun i m σ H => m = n - i ∧ i ≤ n ∧ Pv i σ H, ⟨n, by simp, Nat.zero_le _, h0⟩, ?_⟩
  rintro i m σ H ⟨rfl, hi, p⟩
  by_cases hlt : i < n
  · refine .inr ⟨hlt, Pv (i + 1), fun σ' H' p' => ⟨n - (i + 1), by omega, rfl, hlt, p'⟩, fun x H' y => ?_⟩
    obtain ⟨e, y⟩ := y
    subst e y
    exact hs i σ _ hlt p
  · have e : i = n := by omega
    subst e
    exact .inl ⟨Nat.le_refl _, hd σ H p⟩
end L2

namespace L2
open PySem PySem.Spec PyProof.Rows

abbrev R2 := V → V → Hp → VK → Prop
/-- a two-place operation on values: f is binaryOp op, inplaceOp op or compareOp op -/
def OpR (X : Cx) (f : Value → Value → Sem Value) (r : R2) : Prop :=
  ∀ (pins : List (Addr × Obj)) (s : Shared) (σ : St) (H : Hp) (x y : V) (v u : Value) (Q : VK), Inv X pins σ H s → RelV x v → RelV y u → r x y H Q →
    wpAny (model X.prog X.w) X.A (f v u) (EP X pins σ Q) X.xe s
/-- a one-place operation -/
def UnR (X : Cx) (f : Value → Sem Value) (r : V → Hp → VK → Prop) : Prop :=
  ∀ (pins : List (Addr × Obj)) (s : Shared) (σ : St) (H : Hp) (x : V) (v : Value) (Q : VK), Inv X pins σ H s → RelV x v → r x H Q →
    wpAny (model X.prog X.w) X.A (f v) (EP X pins σ Q) X.xe s
/-- a call of a value that is known (a builtin, a type) with values -/
def CallR (X : Cx) (f : Value) (r : List V → Hp → VK → Prop) : Prop :=
  ∀ (pins : List (Addr × Obj)) (s : Shared) (σ : St) (H : Hp) (xs : List V) (us : List Value) (Q : VK), Inv X pins σ H s → Vals xs us → r xs H Q →
    wpAny (model X.prog X.w) X.A (call f us) (EP X pins σ Q) X.xe s
def tOp (r : R2) (ta tb : TE) : TE := fun σ H Q => ta σ H fun x H1 => tb σ H1 fun y H2 => r x y H2 Q
def tUn (r : V → Hp → VK → Prop) (ta : TE) : TE := fun σ H Q => ta σ H fun x H1 => r x H1 Q
/-- ints in, under C, and a value out -/
def rI (C : Int → Int → Prop) (g : Int → Int → V) : R2 := fun x y H Q => ∃ i j, x = .int i ∧ y = .int j ∧ C i j ∧ Q (g i j) H
def rI0 (g : Int → Int → V) : R2 := fun x y H Q => ∃ i j, x = .int i ∧ y = .int j ∧ Q (g i j) H
def rU (g : Int → V) : V → Hp → VK → Prop := fun x H Q => ∃ i, x = .int i ∧ Q (g i) H

section
variable {X : Cx} {a b c : Expr} {ta tb tc : TE} {pos : Pos}

theorem binT (ha : PE X a ta) (hb : PE X b tb) {pins : List (Addr × Obj)} {s : Shared} {σ : St} {H : Hp} {R : V → V → Hp → Prop} (I : Inv X pins σ H s)
    (h : ta σ H fun x H1 => tb σ H1 fun y H2 => R x y H2) {Q : Value → Shared → Prop} {f : Value → Value → Sem Value}
    (hf : ∀ v u s2 x y H2, Inv X pins σ H2 s2 → RelV x v → RelV y u → R x y H2 → wpAny (model X.prog X.w) X.A (f v u) Q X.xe s2) :
    wpAny (model X.prog X.w) X.A (eval a X.env) (fun v s₁ => wpAny (model X.prog X.w) X.A (eval b X.env) (fun u s₂ => wpAny (model X.prog X.w) X.A (f v u) Q X.xe s₂) X.xe s₁) X.xe s := by
  refine thn (ha pins s σ H _ I h) fun v s1 ⟨x, H1, I1, r1, q1⟩ => ?_
  refine thn (hb pins s1 σ H1 _ I1 q1) fun u s2 ⟨y, H2, I2, r2, q2⟩ => ?_
  exact hf v u s2 x y H2 I2 r1 r2 q2

theorem pe_op {op : Operator} {r : R2} (ho : OpR X (binaryOp op) r) (ha : PE X a ta) (hb : PE X b tb) : PE X (.BinOp a op b pos) (tOp r ta tb) := by
  intro pins s σ H Q I h
  exact wpAny_BinOp (binT ha hb I h fun v u s2 x y H2 I2 rx ry q => ho pins s2 σ H2 x y v u Q I2 rx ry q)
theorem pe_un {op : UnaryOp} {r : V → Hp → VK → Prop} (ho : UnR X (unaryOp op) r) (ha : PE X a ta) : PE X (.UnaryOp op a pos) (tUn r ta) := by
  intro pins s σ H Q I h
  exact UnaryOp_ (thn (ha pins s σ H _ I h) fun v s1 ⟨x, H1, I1, r1, q1⟩ => ho pins s1 σ H1 x v Q I1 r1 q1)
/-! ### ints -/
theorem opI {f : Value → Value → Sem Value} {C : Int → Int → Prop} {g : Int → Int → Int}
    (rule : ∀ (i j : Int) (t u : Tok) (s : Shared) (Q : Value → Shared → Prop) (E : Value → Shared → Prop), C i j → Q (.int (g i j) s.toks) { s with toks := s.toks + 1 } → wpAny (model X.prog X.w) X.A (f (.int i t) (.int j u)) Q E s) :
    OpR X f (rI C fun i j => .int (g i j)) := by
  intro pins s σ H x y v u Q I rx ry h
  obtain ⟨i, j, rfl, rfl, hc, q⟩ := h
  obtain ⟨t, rfl⟩ := rx
  obtain ⟨t', rfl⟩ := ry
  exact rule i j t t' s _ _ hc ⟨.int (g i j), H, I.tok _, ⟨_, rfl⟩, q⟩
theorem opI0 {f : Value → Value → Sem Value} {g : Int → Int → Int}
    (rule : ∀ (i j : Int) (t u : Tok) (s : Shared) (Q : Value → Shared → Prop) (E : Value → Shared → Prop), Q (.int (g i j) s.toks) { s with toks := s.toks + 1 } → wpAny (model X.prog X.w) X.A (f (.int i t) (.int j u)) Q E s) :
    OpR X f (rI0 fun i j => .int (g i j)) := by
  intro pins s σ H x y v u Q I rx ry h
  obtain ⟨i, j, rfl, rfl, q⟩ := h
  obtain ⟨t, rfl⟩ := rx
  obtain ⟨t', rfl⟩ := ry
  exact rule i j t t' s _ _ ⟨.int (g i j), H, I.tok _, ⟨_, rfl⟩, q⟩
theorem opB0 {f : Value → Value → Sem Value} {g : Int → Int → Bool}
    (rule : ∀ (i j : Int) (t u : Tok) (s : Shared) (Q : Value → Shared → Prop) (E : Value → Shared → Prop), Q (.bool (g i j)) s → wpAny (model X.prog X.w) X.A (f (.int i t) (.int j u)) Q E s) :
    OpR X f (rI0 fun i j => .bl (g i j)) := by
  intro pins s σ H x y v u Q I rx ry h
  obtain ⟨i, j, rfl, rfl, q⟩ := h
  obtain ⟨t, rfl⟩ := rx
  obtain ⟨t', rfl⟩ := ry
  exact rule i j t t' s _ _ ⟨.bl (g i j), H, I, rfl, q⟩

def CDiv (i j : Int) : Prop := 0 < j ∧ j < 1073741824
def CPow (i j : Int) : Prop := 0 ≤ j ∧ j ≤ 1000000 ∧ i.natAbs < 2 ^ 64
def CMul (i j : Int) : Prop := (-(2 ^ 64) < i ∧ i < 2 ^ 64) ∨ (-(2 ^ 64) < j ∧ j < 2 ^ 64)
theorem CMul.ok {i j : Int} (h : CMul i j) : IntMulOk i j := by
  rcases h with ⟨h1, h2⟩ | ⟨h1, h2⟩
  · exact .of_left (intBits_le_64 h1 h2)
  · exact .of_right (intBits_le_64 h1 h2)
theorem op_add : OpR X (binaryOp .Add) (rI0 fun i j => .int (i + j)) := opI0 fun _ _ _ _ _ _ _ q => add_int q
theorem op_sub : OpR X (binaryOp .Sub) (rI0 fun i j => .int (i - j)) := opI0 fun _ _ _ _ _ _ _ q => sub_int q
theorem op_mul : OpR X (binaryOp .Mult) (rI CMul fun i j => .int (i * j)) := opI fun _ _ _ _ _ _ _ hc q => mul_int q hc.ok
/-- // by a positive divisor -/
theorem op_fdiv : OpR X (binaryOp .FloorDiv) (rI CDiv fun i j => .int (i / j)) := opI fun i j _ _ _ _ _ hc q => by
  have h1 : (0 : Int) < j := hc.1
  have h2 : j < 1073741824 := hc.2
  exact floordiv_int (by omega) (by rw [Int.fdiv_eq_ediv_of_nonneg i (by omega)]; exact q) (.inl (PyProof.noPylong_small (by omega)))
/-- % by a positive divisor of any size -/
theorem op_mod : OpR X (binaryOp .Mod) (rI (fun _ j => 0 < j) fun i j => .int (i % j)) := opI fun i j _ _ _ _ _ hc q => by
  have h1 : (0 : Int) < j := hc
  exact mod_int' (by omega) (by rw [Int.fmod_eq_emod_of_nonneg i (by omega)]; exact q)
theorem op_pow : OpR X (binaryOp .Pow) (rI CPow fun i j => .int (i ^ j.toNat)) := opI fun _ _ _ _ _ _ _ hc q => pow_int_small hc.1 hc.2.1 hc.2.2 q
theorem unI {f : Value → Sem Value} {g : Int → Int}
    (rule : ∀ (i : Int) (t : Tok) (s : Shared) (Q : Value → Shared → Prop) (E : Value → Shared → Prop), Q (.int (g i) s.toks) { s with toks := s.toks + 1 } → wpAny (model X.prog X.w) X.A (f (.int i t)) Q E s) :
    UnR X f (rU fun i => .int (g i)) := by
  intro pins s σ H x v Q I rx h
  obtain ⟨i, rfl, q⟩ := h
  obtain ⟨t, rfl⟩ := rx
  exact rule i t s _ _ ⟨.int (g i), H, I.tok _, ⟨_, rfl⟩, q⟩
theorem un_neg : UnR X (unaryOp .USub) (rU fun i => .int (-i)) := unI fun _ _ _ _ _ q => neg_int q
/-! ### bools among ints: n += (a < b) -/
end

/-! ### comparisons -/
/-- the scalars that == tells apart as data does -/
def scal : V → V → Bool
  | .non, .non => true | .non, .int _ => true | .int _, .non => true | .non, .bl _ => true | .bl _, .non => true | .non, .str _ => true | .str _, .non => true
  | .int _, .int _ => true | .bl _, .bl _ => true | .str _, .str _ => true | .byt _, .byt _ => true
  | .int _, .str _ => true | .str _, .int _ => true | .bl _, .str _ => true | .str _, .bl _ => true
  | _, _ => false
def rEq : R2 := fun x y H Q => scal x y = true ∧ Q (.bl (decide (x = y))) H
def rNe : R2 := fun x y H Q => scal x y = true ∧ Q (.bl (!decide (x = y))) H

theorem dec_int {i j : Int} : decide (V.int i = V.int j) = (i == j) := by
  rw [Bool.eq_iff_iff]
  simp
theorem dec_bl {i j : Bool} : decide (V.bl i = V.bl j) = (i == j) := by
  rw [Bool.eq_iff_iff]
  simp
theorem dec_str {i j : Str} : decide (V.str i = V.str j) = (i == j) := by
  rw [Bool.eq_iff_iff]
  simp
theorem dec_byt {i j : Array UInt8} : decide (V.byt i = V.byt j) = (i.toList == j.toList) := by
  rw [Bool.eq_iff_iff]
  cases i
  cases j
  simp

section
variable {X : Cx} {a b c : Expr} {ta tb tc : TE} {pos : Pos}
theorem fin_bl {pins : List (Addr × Obj)} {σ : St} {H : Hp} {s : Shared} {Q : VK} {k k' : Bool} (I : Inv X pins σ H s) (q : Q (.bl k) H) (e : k = k') : EP X pins σ Q (.bool k') s := by
  subst e
  exact ⟨.bl k, H, I, rfl, q⟩
theorem op_eq : OpR X (compareOp .Eq) rEq := by
  intro pins s σ H x y v u Q I rx ry h
  obtain ⟨hs, q⟩ := h
  cases x with
  | non =>
    cases rx
    cases y with
    | non => cases ry; exact PySem.EqNone.eq_none_none (fin_bl I q (by simp))
    | bl j => cases ry; exact PySem.EqNone.eq_none_bool (fin_bl I q (by simp))
    | int j => obtain ⟨t', rfl⟩ := ry; exact PySem.EqNone.eq_none_int (fin_bl I q (by simp))
    | str j => obtain ⟨t', rfl⟩ := ry; exact PySem.EqNone.eq_none_str (fin_bl I q (by simp))
    | _ => exact absurd (show false = true from hs) Bool.false_ne_true
  | bl i =>
    cases rx
    cases y with
    | non => cases ry; exact PySem.EqNone.eq_bool_none (fin_bl I q (by simp))
    | bl j => cases ry; exact eq_bool (fin_bl I q dec_bl)
    | str j => obtain ⟨t', rfl⟩ := ry; exact PySem.EqMixed.eq_bool_str (fin_bl I q (by simp))
    | _ => exact absurd (show false = true from hs) Bool.false_ne_true
  | int i =>
    obtain ⟨t, rfl⟩ := rx
    cases y with
    | non => cases ry; exact PySem.EqNone.eq_int_none (fin_bl I q (by simp))
    | int j => obtain ⟨t', rfl⟩ := ry; exact eq_int (fin_bl I q dec_int)
    | str j => obtain ⟨t', rfl⟩ := ry; exact PySem.EqMixed.eq_int_str (fin_bl I q (by simp))
    | _ => exact absurd (show false = true from hs) Bool.false_ne_true
  | str i =>
    obtain ⟨t, rfl⟩ := rx
    cases y with
    | non => cases ry; exact PySem.EqNone.eq_str_none (fin_bl I q (by simp))
    | bl j => cases ry; exact PySem.EqMixed.eq_str_bool (fin_bl I q (by simp))
    | int j => obtain ⟨t', rfl⟩ := ry; exact PySem.EqMixed.eq_str_int (fin_bl I q (by simp))
    | str j => obtain ⟨t', rfl⟩ := ry; exact eq_str (fin_bl I q dec_str)
    | _ => exact absurd (show false = true from hs) Bool.false_ne_true
  | byt i =>
    obtain ⟨t, rfl⟩ := rx
    cases y with
    | byt j => obtain ⟨t', rfl⟩ := ry; exact PySem.W.eq_bytes (fin_bl I q dec_byt)
    | _ => exact absurd (show false = true from hs) Bool.false_ne_true
  | _ => cases y <;> exact absurd (show false = true from hs) Bool.false_ne_true
theorem op_ne : OpR X (compareOp .NotEq) rNe := by
  intro pins s σ H x y v u Q I rx ry h
  obtain ⟨hs, q⟩ := h
  cases x with
  | non =>
    cases rx
    cases y with
    | non => cases ry; exact PySem.EqNone.ne_none_none (fin_bl I q (by simp))
    | bl j => cases ry; exact PySem.EqNone.ne_none_bool (fin_bl I q (by simp))
    | int j => obtain ⟨t', rfl⟩ := ry; exact PySem.EqNone.ne_none_int (fin_bl I q (by simp))
    | str j => obtain ⟨t', rfl⟩ := ry; exact PySem.EqNone.ne_none_str (fin_bl I q (by simp))
    | _ => exact absurd (show false = true from hs) Bool.false_ne_true
  | bl i =>
    cases rx
    cases y with
    | non => cases ry; exact PySem.EqNone.ne_bool_none (fin_bl I q (by simp))
    | bl j => cases ry; exact ne_bool (fin_bl I q (congrArg not dec_bl))
    | str j => obtain ⟨t', rfl⟩ := ry; exact PySem.EqMixed.ne_bool_str (fin_bl I q (by simp))
    | _ => exact absurd (show false = true from hs) Bool.false_ne_true
  | int i =>
    obtain ⟨t, rfl⟩ := rx
    cases y with
    | non => cases ry; exact PySem.EqNone.ne_int_none (fin_bl I q (by simp))
    | int j => obtain ⟨t', rfl⟩ := ry; exact ne_int (fin_bl I q (congrArg not dec_int))
    | str j => obtain ⟨t', rfl⟩ := ry; exact PySem.EqMixed.ne_int_str (fin_bl I q (by simp))
    | _ => exact absurd (show false = true from hs) Bool.false_ne_true
  | str i =>
    obtain ⟨t, rfl⟩ := rx
    cases y with
    | non => cases ry; exact PySem.EqNone.ne_str_none (fin_bl I q (by simp))
    | bl j => cases ry; exact PySem.EqMixed.ne_str_bool (fin_bl I q (by simp))
    | int j => obtain ⟨t', rfl⟩ := ry; exact PySem.EqMixed.ne_str_int (fin_bl I q (by simp))
    | str j => obtain ⟨t', rfl⟩ := ry; exact ne_str (fin_bl I q (congrArg not dec_str))
    | _ => exact absurd (show false = true from hs) Bool.false_ne_true
  | byt i =>
    obtain ⟨t, rfl⟩ := rx
    cases y with
    | byt j => obtain ⟨t', rfl⟩ := ry; exact PySem.W.ne_bytes (fin_bl I q (congrArg not dec_byt))
    | _ => exact absurd (show false = true from hs) Bool.false_ne_true
  | _ => cases y <;> exact absurd (show false = true from hs) Bool.false_ne_true

theorem op_lt : OpR X (compareOp .Lt) (rI0 fun i j => .bl (decide (i < j))) := opB0 fun _ _ _ _ _ _ _ q => lt_int q
theorem op_le : OpR X (compareOp .LtE) (rI0 fun i j => .bl (decide (i ≤ j))) := opB0 fun _ _ _ _ _ _ _ q => le_int q
theorem op_gt : OpR X (compareOp .Gt) (rI0 fun i j => .bl (decide (j < i))) := opB0 fun _ _ _ _ _ _ _ q => gt_int q
theorem op_ge : OpR X (compareOp .GtE) (rI0 fun i j => .bl (decide (j ≤ i))) := opB0 fun _ _ _ _ _ _ _ q => ge_int q
/-- two rules for one operation: by cases -/
theorem OpR.or {f : Value → Value → Sem Value} {r r' : R2} (h : OpR X f r) (h' : OpR X f r') : OpR X f (fun x y H Q => r x y H Q ∨ r' x y H Q) := by
  intro pins s σ H x y v u Q I rx ry q
  rcases q with q | q
  · exact h pins s σ H x y v u Q I rx ry q
  · exact h' pins s σ H x y v u Q I rx ry q

theorem nomark (b : Expr) {op : CmpOp} (h : op ≠ .In := by decide) (h2 : op ≠ .NotIn := by decide) : behindInMarks op b = false := by
  have e1 : (op == CmpOp.In) = false := by cases op <;> first | rfl | exact absurd rfl h
  have e2 : (op == CmpOp.NotIn) = false := by cases op <;> first | rfl | exact absurd rfl h2
  cases b <;> simp [behindInMarks, e1, e2]
/-- a comparison as a value; hm: nomark b, or (for in, not in) by with_unfolding_all rfl -/
theorem pe_cmpR {op : CmpOp} {r : R2} (ho : OpR X (compareOp op) r) (ha : PE X a ta) (hb : PE X b tb) (hm : behindInMarks op b = false) : PE X (.Compare a [op] [b] pos) (tOp r ta tb) := by
  intro pins s σ H Q I h
  exact wpAny_Compare1 (binT ha hb I h fun v u s2 x y H2 I2 rx ry q => ho pins s2 σ H2 x y v u Q I2 rx ry q) hm
/-- a reading of a value as a test -/
def tTest (t : TE) : TT := fun σ H Q => t σ H fun x H' => ∃ k, x = .bl k ∧ Q k H'
theorem pt_cmpR {op : CmpOp} {r : R2} (ho : OpR X (compareOp op) r) (ha : PE X a ta) (hb : PE X b tb) (hm : behindInMarks op b = false) : PT X (.Compare a [op] [b] pos) (tTest (tOp r ta tb)) := by
  intro pins s σ H Q I h
  refine wpAny_isTrue_Compare1 (thn (ha pins s σ H _ I h) fun v s1 ⟨x, H1, I1, r1, q1⟩ => thn (hb pins s1 σ H1 _ I1 q1) fun u s2 ⟨y, H2, I2, r2, q2⟩ =>
    thn (ho pins s2 σ H2 x y v u _ I2 r1 r2 q2) fun c s3 ⟨z, H3, I3, r3, k, e, q3⟩ => ?_) hm
  subst e
  cases r3
  exact wpAny_truthy_bool ⟨H3, I3, q3⟩
/-- a op1 b op2 c -/
def tChain (r r' : R2) (ta tb tc : TE) : TE := fun σ H Q => ta σ H fun x H1 => tb σ H1 fun y H2 => r x y H2 fun z H3 => ∃ k, z = .bl k ∧
  (if k = true then tc σ H3 fun w' H4 => r' y w' H4 Q else Q (.bl false) H3)
theorem pe_chain {op op' : CmpOp} {r r' : R2} (ho : OpR X (compareOp op) r) (ho' : OpR X (compareOp op') r') (ha : PE X a ta) (hb : PE X b tb) (hc : PE X c tc)
    (hm : lastMarks [op, op'] [b, c] = false := by with_unfolding_all rfl) : PE X (.Compare a [op, op'] [b, c] pos) (tChain r r' ta tb tc) := by
  intro pins s σ H Q I h
  refine Compare_chain (thn (ha pins s σ H _ I h) fun v s1 ⟨x, H1, I1, r1, q1⟩ => chain_link (thn (hb pins s1 σ H1 _ I1 q1) fun u s2 ⟨y, H2, I2, r2, q2⟩ =>
    thn (ho pins s2 σ H2 x y v u _ I2 r1 r2 q2) fun d s3 ⟨z, H3, I3, r3, k, e, q3⟩ => ?_)) hm
  subst e
  cases r3
  refine wpAny_truthy_bool ?_
  cases k with
  | false => exact ite_ff ⟨.bl false, H3, I3, rfl, q3⟩
  | true => exact ite_tt (chain_last (thn (hc pins s3 σ H3 _ I3 q3) fun w' s4 ⟨z', H4, I4, r4, q4⟩ => ho' pins s4 σ H4 y z' u w' Q I4 r2 r4 q4))
/-! ### truth -/
theorem line63 : (sizeLine : Nat) < 2 ^ 63 := by rw [sizeLine_eq]; decide
/-! ### strs and bytes -/
/-! ### scalar builtins, by CallR -/
theorem vals1 {x : V} {us : List Value} (r : Vals [x] us) : ∃ u, us = [u] ∧ RelV x u := by
  cases r with
  | cons r1 r2 => cases r2; exact ⟨_, rfl, r1⟩
theorem vals2 {x y : V} {us : List Value} (r : Vals [x, y] us) : ∃ u w', us = [u, w'] ∧ RelV x u ∧ RelV y w' := by
  cases r with
  | cons r1 r2 =>
    cases r2 with
    | cons r3 r4 => cases r4; exact ⟨_, _, rfl, r1, r3⟩
theorem call_max2 (hc : X.calm = true) : CallR X (.builtin "max") (fun xs H Q => ∃ i j, xs = [.int i, .int j] ∧ Q (.int (if j > i then j else i)) H) := by
  intro pins s σ H xs us Q I r h
  obtain ⟨i, j, rfl, q⟩ := h
  obtain ⟨u, w', rfl, ⟨t, rfl⟩, ⟨t', rfl⟩⟩ := vals2 r
  refine max_two_ints (I.ok.hd hc) fun h' tk k => ⟨_, H, I.kept k, ?_, q⟩
  by_cases hj : j > i
  · rw [if_pos hj, if_pos hj]; exact ⟨_, rfl⟩
  · rw [if_neg hj, if_neg hj]; exact ⟨_, rfl⟩
theorem call_int1 : CallR X (.type "int") (fun xs H Q => (∃ i, xs = [.int i] ∧ Q (.int i) H) ∨ ∃ k, xs = [.bl k] ∧ Q (.int (if k then 1 else 0)) H) := by
  intro pins s σ H xs us Q I r h
  rcases h with ⟨i, rfl, q⟩ | ⟨k, rfl, q⟩
  · obtain ⟨u, rfl, t, rfl⟩ := vals1 r
    exact call_int_int ⟨.int i, H, I, ⟨_, rfl⟩, q⟩
  · obtain ⟨u, rfl, r1⟩ := vals1 r
    cases r1
    exact call_int_bool ⟨.int (if k then 1 else 0), H, I.tok _, ⟨_, rfl⟩, q⟩
theorem call_str_int : CallR X (.type "str") (fun xs H Q => ∃ i, xs = [.int i] ∧ i.natAbs.log2 < 1920 ∧ Q (.str (toString i)) H) := by
  intro pins s σ H xs us Q I r h
  obtain ⟨i, rfl, hz, q⟩ := h
  obtain ⟨u, rfl, t, rfl⟩ := vals1 r
  exact PySem.P.str_of_int hz ⟨.str _, H, I.tok _, ⟨_, rfl⟩, q⟩
end
end L2

namespace L2
open PySem PySem.Spec PyProof.Rows

/-! ### an instance, its attributes a map -/
structure ObjM (h : Heap) (x dx C : Addr) (mA : Str → Option Value) : Prop where
  obj : h.get? x = some (PySem.W.instObj C dx)
  ns : h.Ns1 dx mA
  ne : dx ≠ x

theorem lookIn_ns {h : Heap} {dx : Addr} {mA : Str → Option Value} (n : h.Ns1 dx mA) : ∃ od, h.get? dx = some od ∧ ∀ name, PySem.W.lookIn name od = some (mA name) := by
  obtain ⟨o, es, ep, ho, hd, hk, _, hm⟩ := n
  refine ⟨o, ho, fun name => ?_⟩
  have e := hm name
  unfold nsFind findBy at e
  rw [← Array.find?_toList] at e
  unfold PySem.W.lookIn
  rw [hd]
  dsimp only
  split
  · rename_i y q
    rw [q] at e
    exact congrArg some e
  · rename_i q
    rw [q] at e
    have a : es.toList.any (·.refKey) = false := by
      rw [List.any_eq_false]
      intro y hy
      obtain ⟨z, t, hkey⟩ := hk y (Array.mem_toList_iff.mp hy)
      simp [DictEntry.refKey, hkey]
    have a' : ¬ es.toList.any (·.refKey) = true := by rw [a]; exact Bool.false_ne_true
    rw [if_neg a']
    exact congrArg some e

theorem ObjM.look {h : Heap} {x dx C : Addr} {mA : Str → Option Value} (I : ObjM h x dx C mA) : ∃ od, PySem.W.InstAt h x (PySem.W.instObj C dx) C (some od) ∧ ∀ name, PySem.W.lookIn name od = some (mA name) :=
  let ⟨od, ho, hl⟩ := lookIn_ns I.ns
  ⟨od, ⟨I.obj, rfl, rfl, ho⟩, hl⟩

section
variable {prog : Program} {w : World} {A : Around} {E : Value → Shared → Prop} {s : Shared} {K : PySem.W.Frag} {x dx C f : Addr} {mA : Str → Option Value} {name : Str} {v : Value}

end

/-! ### the attributes as a list of pairs -/
section
variable {P : Program} {w : World} {H H' : Hp} {h h' : Heap} {a C dx : Addr} {fs fs' : List (Str × V)}
theorem ins_get (hok : HOk P w H h) (e : H a = some (.ins C dx fs)) : ∃ mA, ObjM h a dx C mA ∧ (∀ f, RelO (fs.lookup f) (mA f)) ∧ PySem.Within mA (fs.map (·.1)) ∧ fs.length ≤ 1000 ∧ H dx = some (.own a) := by
  obtain ⟨d, z, ne, ob, mA, n, r, q⟩ := (show ObjOk P w H h a (.ins C dx fs) from hok a _ e)
  exact ⟨mA, ⟨ob, n, ne⟩, r, q, z, d⟩
end

/-! ### what of the text a class must have -/
structure Cls (K : PySem.W.Frag) (C : Addr) : Prop where
  pg : PySem.W.plainGet K C Str.empty = true
  hd : PySem.W.hasDictIn K C = true
  po : PySem.W.plainOver K C = true
  sa : PySem.W.findIn K (.ref C) "__setattr__" = some (some (.builtin "object.__setattr__"))
theorem Cls.get {K : PySem.W.Frag} {C : Addr} (c : Cls K C) (f : Str) : PySem.W.plainGet K C f = true := c.pg
/-- a constant of the class -/
structure Con (K : PySem.W.Frag) (C : Addr) (f : Str) (v : V) (u : Value) : Prop where
  at_ : PySem.W.findIn K (.ref C) f = some (some u)
  rel : RelV v u
  get : PySem.W.specialIn K u "__get__" = some none
  cp : PySem.W.copiedNames.contains f = false
/-- a method: a plain def of the class or of one above it -/
structure Meth (K : PySem.W.Frag) (C : Addr) (m : Str) (f : Addr) : Prop where
  at_ : PySem.W.findIn K (.ref C) m = some (some (.ref f))
  fn : PySem.W.isFn K (.ref f) = true
  kp : PySem.W.keepIn K (.ref f) = true

section
variable {X : Cx} {pins : List (Addr × Obj)} {σ : St} {H : Hp} {s : Shared} {a C dx : Addr} {fs : List (Str × V)} {f : Str} {v : V} {A : Around} {E : Value → Shared → Prop}

/-- a new instance, tracked, without attributes -/
theorem Inv.made (I : Inv X pins σ H s) : Inv X pins σ (upd (upd H s.heap.objs.size (.own (s.heap.objs.size + 1))) (s.heap.objs.size + 1) (.ins C s.heap.objs.size []))
    { s with heap := (s.heap.push PySem.W.emptyDict).push (PySem.W.instObj C s.heap.objs.size) } := by
  have e1 : (s.heap.push PySem.W.emptyDict).get? s.heap.objs.size = some PySem.W.emptyDict := Heap.get?_push_size s.heap rfl
  have e2 : ((s.heap.push PySem.W.emptyDict).push (PySem.W.instObj C s.heap.objs.size)).get? (s.heap.objs.size + 1) = some (PySem.W.instObj C s.heap.objs.size) := by
    have := Heap.get?_push_size (s.heap.push PySem.W.emptyDict) (o := PySem.W.instObj C s.heap.objs.size) rfl
    rwa [Heap.size_push] at this
  have e3 : (s.heap.push PySem.W.emptyDict).Ns s.heap.objs.size (fun _ => none) := ⟨PySem.W.emptyDict, #[], _, e1, rfl, (fun e he => absurd he (by simp)), fun _ => rfl⟩
  have I1 := I.laid (a := s.heap.objs.size) (o := .own (s.heap.objs.size + 1)) (h' := s.heap.push PySem.W.emptyDict) (t' := s.toks) (fun b u q => Heap.get?_push_of_some _ q) (Nat.le_refl _) ⟨_, e1⟩
  refine I1.laid (a := s.heap.objs.size + 1) (o := .ins C s.heap.objs.size []) (t' := s.toks) (fun b u q => Heap.get?_push_of_some _ q) (Nat.le_of_eq (Heap.size_push _ _)) ?_
  have ne : s.heap.objs.size ≠ s.heap.objs.size + 1 := Nat.ne_of_lt (Nat.lt_succ_self _)
  refine ⟨by rw [upd_ne ne, upd_same], Nat.zero_le _, ne, e2, fun _ => none, (Heap.Ns1.of_empty e3).at fun o q => Heap.get?_push_of_some _ q, fun _ => True.intro, fun y hy => absurd rfl hy⟩

end

/-! ### readings and rules -/
section
variable {X : Cx} {o e value : Expr} {f : Str} {pos pos' tpos : Pos} {ta tv : TE}
end

/-! ### isinstance -/
section
variable {X : Cx} {pins : List (Addr × Obj)} {σ : St} {H : Hp} {s : Shared} {A : Around} {E : Value → Shared → Prop} {Q : Value → Shared → Prop} {c : Value} {b : Bool}
/-- the type of a value, as the fragment's deciders take it; for an instance its class -/
inductive TyOf (K : PySem.W.Frag) (H : Hp) : V → Value → Prop where
  | non : TyOf K H .non (.type "NoneType")
  | bl (x : Bool) : TyOf K H (.bl x) (.type "bool")
  | int (i : Int) : TyOf K H (.int i) (.type "int")
  | str (x : Str) : TyOf K H (.str x) (.type "str")
  | flt (x : UInt64) : TyOf K H (.flt x) (.type "float")
  | lst {a : Addr} {xs : List V} (e : H a = some (.lst xs)) : TyOf K H (.ref a) (.type "list")
  | frz {a : Addr} {o : Obj} {xs : List V} (e : H a = some (.frz o (.lst xs))) : TyOf K H (.ref a) (.type "list")
  | tup {a : Addr} {xs : List V} (e : H a = some (.tup xs)) : TyOf K H (.ref a) (.type "tuple")
  | dK {a : Addr} {kvs : List (Key × V)} (e : H a = some (.dK kvs)) : TyOf K H (.ref a) (.type "dict")
  | dT {a : Addr} {kvs : List (List Key × V)} (e : H a = some (.dT kvs)) : TyOf K H (.ref a) (.type "dict")
  | ins {a C dx : Addr} {fs : List (Str × V)} (e : H a = some (.ins C dx fs)) (cl : Cls K C) (ha : PySem.W.findIn K (.ref C) "__class__" = some (some (.builtin "object.__class__")))
      (hn : PySem.W.specialIn K (.builtin "object.__class__") "__get__" = some (some (.builtin "getset_descriptor.__get__"))) (htk : PySem.W.takesIn K (.builtin "object.__class__") = some true)
      (hm : PySem.W.mroIn K C (.type "object") = some true) : TyOf K H (.ref a) (.ref C)
/-- isinstance(x, c) for one class c, a built-in or an own one: kitOne's answer -/
theorem isinst_ok {x : V} {u t : Value} (I : Inv X pins σ H s) (rx : RelV x u) (ty : TyOf X.K H x t) (e : PySem.W.kitOne X.K t c = some b) (h : ∀ tk, Q (.bool b) { s with toks := tk }) :
    wpAny (model X.prog X.w) A (call (.builtin "isinstance") [u, c]) Q E s := by
  cases ty with
  | non => cases (show u = Value.none from rx); exact PySem.W.kia_one PySem.W.kitx_none I.kIn True.intro e (fun z => nomatch z) h
  | bl y => cases (show u = Value.bool y from rx); exact PySem.W.kia_one PySem.W.kitx_bool I.kIn True.intro e (fun z => nomatch z) h
  | int i => obtain ⟨t, q⟩ := (show ∃ t, u = Value.int i t from rx); cases q; exact PySem.W.kia_one PySem.W.kitx_int I.kIn True.intro e (fun z => nomatch z) h
  | str y => obtain ⟨t, q⟩ := (show ∃ t, u = Value.str y t from rx); cases q; exact PySem.W.kia_one PySem.W.kitx_str I.kIn True.intro e (fun z => nomatch z) h
  | flt y => obtain ⟨t, q⟩ := (show ∃ t, u = Value.float y t from rx); cases q; exact PySem.W.kia_one PySem.W.kitx_float I.kIn True.intro e (fun z => nomatch z) h
  | @lst a xs ea =>
    cases (show u = Value.ref a from rx)
    obtain ⟨_, _, n, _, h1⟩ := (show ObjOk X.prog X.w H s.heap a (.lst xs) from I.hok a _ ea)
    exact PySem.W.kia_one PySem.W.kitx_list I.kIn ⟨_, h1, rfl⟩ e (fun z => nomatch z) h
  | @frz a ob xs ea =>
    cases (show u = Value.ref a from rx)
    obtain ⟨_, _, _, n, _, h1⟩ := (show ObjOk X.prog X.w H s.heap a (.frz ob (.lst xs)) from I.hok a _ ea)
    exact PySem.W.kia_one PySem.W.kitx_list I.kIn ⟨_, h1, rfl⟩ e (fun z => nomatch z) h
  | @tup a xs ea =>
    cases (show u = Value.ref a from rx)
    obtain ⟨_, _, _, p⟩ := (show ObjOk X.prog X.w H s.heap a (.tup xs) from I.hok a _ ea)
    obtain ⟨o, h1, h2, _⟩ := p
    exact PySem.W.kia_one PySem.W.kitx_tuple I.kIn ⟨o, h1, h2⟩ e (fun z => nomatch z) h
  | @dK a kvs ea =>
    cases (show u = Value.ref a from rx)
    obtain ⟨_, _, vs, _, p⟩ := (show ObjOk X.prog X.w H s.heap a (.dK kvs) from I.hok a _ ea)
    obtain ⟨o, es, ep, h1, h2, _⟩ := p
    exact PySem.W.kia_one PySem.W.kitx_dict I.kIn ⟨o, h1, h2.1⟩ e (fun z => nomatch z) h
  | @dT a kvs ea =>
    cases (show u = Value.ref a from rx)
    obtain ⟨_, _, xs, _, o, es, ep, h1, h2, _⟩ := (show ObjOk X.prog X.w H s.heap a (.dT kvs) from I.hok a _ ea)
    exact PySem.W.kia_one PySem.W.kitx_dict I.kIn ⟨o, h1, h2.1⟩ e (fun z => nomatch z) h
  | @ins a C dx fs ea cl ha hn htk hm =>
    cases (show u = Value.ref a from rx)
    obtain ⟨mA, O, _⟩ := ins_get I.hok ea
    obtain ⟨od, J, _⟩ := O.look
    exact PySem.W.kia_one (PySem.W.kitx_own (cl.get _) cl.hd ha hn htk hm) I.kIn J e (fun z => nomatch z) h
end
end L2

namespace L2
open PySem PySem.Spec PyProof.Rows

/-! ### room -/
structure Room (k : Nat) (A : Around) : Prop where
  hd : A.handled = none
  dp : A.depth + 3 * k + 5 < recursionLimit
  un : A.units + 16 * k + 200 < cLine
  gd : A.guards = some []
theorem Room.mono {j k : Nat} {A : Around} (r : Room k A) (h : j ≤ k) : Room j A := ⟨r.hd, by have := r.dp; omega, by have := r.un; omega, r.gd⟩
theorem Room.deeper {k : Nat} {A : Around} (r : Room (k + 1) A) (env : Env) : Room k (A.deeper env) :=
  ⟨r.hd, by have := r.dp; show A.depth + 1 + 3 * k + 5 < _; omega, by have := r.un; show A.units + 3 + 16 * k + 200 < _; omega, r.gd⟩
theorem Room.in1 {k : Nat} {A : Around} (r : Room (k + 1) A) : Room k A.in1 :=
  ⟨r.hd, by have := r.dp; show A.depth + 3 * k + 5 < _; omega, by have := r.un; show A.units + 1 + 16 * k + 200 < _; omega, r.gd⟩
theorem Room.depth {k : Nat} {A : Around} (r : Room k A) : A.depth < recursionLimit := by have := r.dp; omega
theorem Room.units {k : Nat} {A : Around} (r : Room k A) : A.units + 64 < cLine := by have := r.un; omega
/-! ### argument lists and displays -/
def tNil : TA := fun _ H Q => Q [] H
def tCons (ta : TE) (tr : TA) : TA := fun σ H Q => ta σ H fun x H1 => tr σ H1 fun xs H2 => Q (x :: xs) H2
section
variable {X : Cx} {e : Expr} {es : List Expr} {te : TE} {t : TA} {pos : Pos}
theorem pa_nil : PA X [] tNil := fun _ _ _ _ H Q I h => Calls.spliced_nil ⟨[], H, I, .nil, h⟩
theorem pa_cons (ha : PE X e te) (hr : PA X es t) (hs : starEach (e :: es) X.env = (false, eval e X.env) :: starEach es X.env := by rfl) : PA X (e :: es) (tCons te t) := by
  intro pos pins s σ H Q I h
  rw [hs]
  show wpAny _ _ (spliced ((false, eval e X.env) :: backTo pos (starEach es X.env))) _ _ s
  refine Calls.spliced_cons (thn (ha pins s σ H _ I h) fun u s1 ⟨x, H1, I1, r1, q1⟩ => ?_)
  exact thn (hr pos pins s1 σ H1 _ I1 q1) fun us s2 ⟨xs, H2, I2, r2, q2⟩ => ⟨x :: xs, H2, I2, .cons r1 r2, q2⟩

/-- a tuple, a list of written items -/
def tTup (t : TA) : TE := fun σ H Q => t σ H fun xs H1 => xs.length ≤ sizeLine ∧ ∀ p, H1 p = none → Q (.ref p) (upd H1 p (.tup xs))
def tLst (t : TA) : TE := fun σ H Q => t σ H fun xs H1 => xs.length ≤ sizeLine ∧ ∀ p, H1 p = none → Q (.ref p) (upd H1 p (.lst xs))
theorem pe_tup {x1} (h : PA X es t) : PE X (.Tuple es x1 pos) (tTup t) := by
  intro pins s σ H Q I hq
  refine wpAny_Tuple_spliced (thn (h pos pins s σ H _ I hq) fun us s1 ⟨xs, H1, I1, r, z, q⟩ => ⟨by rw [← r.length]; exact z, ?_⟩)
  have hf : H1 s1.heap.objs.size = none := I1.hok.fresh (Nat.le_refl _)
  refine ⟨.ref s1.heap.objs.size, upd H1 s1.heap.objs.size (.tup xs), I1.laid (t' := s1.toks) (fun b u e => Heap.get?_push_of_some _ e) (Nat.le_refl _) ?_, rfl, q _ hf⟩
  exact ⟨z, us, r, ⟨_, Heap.get?_push_size _ rfl, rfl, _, rfl⟩⟩
theorem pe_lst (h : PA X es t) : PE X (.List es pos) (tLst t) := by
  intro pins s σ H Q I hq
  refine wpAny_List_spliced (thn (h pos pins s σ H _ I hq) fun us s1 ⟨xs, H1, I1, r, z, q⟩ => ⟨by rw [← r.length]; exact z, ?_⟩)
  have hf : H1 s1.heap.objs.size = none := I1.hok.fresh (Nat.le_refl _)
  refine ⟨.ref s1.heap.objs.size, upd H1 s1.heap.objs.size (.lst xs), I1.laid (t' := s1.toks) (fun b u e => Heap.get?_push_of_some _ e) (Nat.le_refl _) ?_, rfl, q _ hf⟩
  exact ⟨z, us, 0, r, Heap.get?_push_size _ rfl⟩
end

/-! ### what a def promises -/
/-- a def's promise: the bound arguments in the parameters' order, the heap, the wanted end, the wanted exception -/
abbrev Sp := List V → Hp → VK → XK → Prop
/-- how an exception lies behind a call (file 08 gives it): the callers' frames, abstract heap and state ahead of the call, the wish, the exception, the state -/
abbrev CXT := List Env → Hp → Shared → XK → Value → Shared → Prop

/-- the state at a call -/
structure Env0 (P : Program) (w : World) (K : PySem.W.Frag) (mg : Str → Option Value) (base : Heap) (A : Around) (outer : List Env) (s : Shared) (H : Hp) : Prop where
  frames : A.frames = some outer
  mod : Mod K mg base
  bs : ∀ b o, base.get? b = some o → s.heap.get? b = some o ∧ H b = none
  bsz : base.objs.size ≤ s.heap.objs.size
  funs : s.heap.FunFrames base outer
  frf : ∀ b ∈ frs outer, H b = none
  hok : HOk P w H s.heap
  bare : AllBare s.gens
/-- a call's end -/
def CE (outer : List Env) (P : Program) (w : World) (H : Hp) (s : Shared) (Q : VK) (u : Value) (s' : Shared) : Prop :=
  ∃ v H', s'.os = s.os ∧ AllBare s'.gens ∧ Un (frs outer) [] H H' s.heap s'.heap ∧ HOk P w H' s'.heap ∧ RelV v u ∧ Q v H'
def CR (CX : CXT) (outer : List Env) (P : Program) (w : World) (H : Hp) (s : Shared) (Q : VK) (E : XK) (r : Result) (s' : Shared) : Prop :=
  match r with
  | .ok (.ret u) => CE outer P w H s Q u s'
  | .ok _ => False
  | .error e => CX outer H s E e s'
structure FnOk (P : Program) (w : World) (K : PySem.W.Frag) (mg : Str → Option Value) (base : Heap) (CX : CXT) (k : Nat) (f : Addr) (fd : FuncData) (ps : List Str) (sp : Sp) : Prop where
  len : ∀ vs H Q E, sp vs H Q E → vs.length = ps.length
  run : ∀ (A : Around) (outer : List Env) (s : Shared) (H : Hp) (args : Args) (us : List Value) (vs : List V) (Q : VK) (E : XK), Room k A → Env0 P w K mg base A outer s H → BindsTo s fd args (ps.zip us) → Vals vs us → sp vs H Q E →
    codeAny (model P w) A (.call (.ref f) args) (CR CX outer P w H s Q E) s
theorem FnOk.mono {P : Program} {w : World} {K : PySem.W.Frag} {mg : Str → Option Value} {base : Heap} {CX : CXT} {j k : Nat} {f : Addr} {fd : FuncData} {ps : List Str} {sp : Sp} (F : FnOk P w K mg base CX j f fd ps sp) (h : j ≤ k) :
    FnOk P w K mg base CX k f fd ps sp := ⟨F.len, fun A outer s H args us vs Q E hr => F.run A outer s H args us vs Q E (hr.mono h)⟩
theorem Env0.in1 {P : Program} {w : World} {K : PySem.W.Frag} {mg : Str → Option Value} {base : Heap} {A : Around} {outer : List Env} {s : Shared} {H : Hp} (e : Env0 P w K mg base A outer s H) :
    Env0 P w K mg base A.in1 outer s H := ⟨e.frames, e.mod, e.bs, e.bsz, e.funs, e.frf, e.hok, e.bare⟩

section
variable {X : Cx} {pins : List (Addr × Obj)} {σ : St} {H : Hp} {s s' : Shared}
/-- from a body: what a callee wants -/
theorem Inv.env0 (I : Inv X pins σ H s) : Env0 X.prog X.w X.K X.mg X.base X.A X.stack s H :=
  ⟨I.ok.frames, I.ok.mod, I.bs, Nat.le_trans I.ok.bsz I.sz, I.stack, I.stkFree, I.hok, I.bare⟩
/-- behind a call -/
theorem Inv.after {Q : VK} {u : Value} (I : Inv X pins σ H s) (h : CE X.stack X.prog X.w H s Q u s') : EP X pins σ Q u s' := by
  obtain ⟨v, H', os, bare, un, hok, r, q⟩ := h
  obtain ⟨hh, g, d, t, os'⟩ := s'
  obtain rfl : os' = s.os := os
  exact ⟨v, H', I.call (h' := hh) (g' := g) (d' := d) (t' := t) (ch := []) un hok bare (fun b z => absurd z (by simp)), r, q⟩
end

/-! ### calls -/
/-- f(..): the written arguments, then the defaults dvs; E: what is wanted of an exception -/
def tCall (sp : Sp) (dvs : List V) (E : XK) (t : TA) : TE := fun σ H Q => t σ H fun vs H1 => sp (vs ++ dvs) H1 Q E
/-- how the parameters are bound: us the positional arguments, kw the keywords' values by name, ds the defaults that fill up -/
def Binds (K : PySem.W.Frag) (fd : FuncData) (ps : List Str) (ds : List Value) : Prop :=
  ∀ (s : Shared) (us : List Value), K.In s.heap → (us ++ ds).length = ps.length → BindsTo s fd ⟨us, []⟩ (ps.zip (us ++ ds))
/-- every parameter is given -/
theorem Binds.all {K : PySem.W.Frag} {fd : FuncData} {ps : List Str} (h : ∀ us : List Value, us.length = ps.length → bindArgs fd ⟨us, []⟩ = pure (ps.zip us)) : Binds K fd ps [] := fun s us _ hl => by
  rw [List.append_nil] at hl ⊢
  exact .of_eq (h us hl)

/-- an exception of a callee reaches what this body wants of exceptions -/
def Passes (CX : CXT) (X : Cx) (E : XK) : Prop := ∀ (pins : List (Addr × Obj)) (σ : St) (H : Hp) (s : Shared) (e : Value) (s' : Shared), Inv X pins σ H s → CX X.stack H s E e s' → X.xe e s'

section
variable {X : Cx} {CX : CXT} {k : Nat} {f C : Addr} {fd : FuncData} {ps : List Str} {sp : Sp} {dvs : List V} {ds : List Value} {E : XK} {x m : Str} {p pos apos : Pos} {e o : Expr} {es : List Expr} {ta : TE} {t : TA}

/-- the callee runs -/
theorem run_fn {pins : List (Addr × Obj)} {σ : St} {H : Hp} {s : Shared} {Q : VK} {us : List Value} {vs : List V} (F : FnOk X.prog X.w X.K X.mg X.base CX k f fd ps sp) (hr : Room k X.A) (hb : Binds X.K fd ps ds) (hd : Vals dvs ds) (hx : Passes CX X E)
    (I : Inv X pins σ H s) (r : Vals vs us) (h : sp (vs ++ dvs) H Q E) : wpAny (model X.prog X.w) X.A (call (.ref f) us) (EP X pins σ Q) X.xe s := by
  have r2 : Vals (vs ++ dvs) (us ++ ds) := r.append hd
  have hl : (us ++ ds).length = ps.length := by rw [← r2.length]; exact F.len _ _ _ _ h
  refine wpAny_call (codeAny_mono (F.run X.A X.stack s H ⟨us, []⟩ (us ++ ds) (vs ++ dvs) Q E hr I.env0 (hb s us I.kIn hl) r2 h) fun r s' hq => ?_)
  cases r with
  | error e => exact hx pins σ H s e s' I hq
  | ok fl =>
    cases fl with
    | ret u => exact I.after hq
    | next => exact False.elim hq
    | brk => exact False.elim hq
    | cont => exact False.elim hq

theorem pe_call (F : FnOk X.prog X.w X.K X.mg X.base CX k f fd ps sp) (hr : Room k X.A) (hg : Gl X x) (hm : X.mg x = some (.ref f)) (hk : PySem.W.keepIn X.K (.ref f) = true) (hb : Binds X.K fd ps ds) (hd : Vals dvs ds) (hx : Passes CX X E)
    (ha : PA X (e :: es) t) (hdb : (x == ("__debug__" : Str)) = false := by decide) (he : starEach (e :: es) X.env = (false, eval e X.env) :: starEach es X.env := by rfl) (hpl : (backTo pos (starEach es X.env)).any (·.1) = false := by rfl) :
    PE X (.Call (.Name x p) (e :: es) [] pos) (tCall sp dvs E t) := by
  intro pins s σ H Q I h
  refine wpAny_Call_Name_kw (ld_glob I hg hm ?_ hdb)
  refine PySem.W.callWith_K (h₀ := X.base) I.ok.mod.kin hk (thn (ha pos pins s σ H _ I h) fun us s1 ⟨vs, H1, I1, r, q⟩ => ⟨I1.kIn, ?_⟩) he hpl
  exact run_fn F hr hb hd hx I1 r q
theorem pe_call0 (F : FnOk X.prog X.w X.K X.mg X.base CX k f fd ps sp) (hr : Room k X.A) (hg : Gl X x) (hm : X.mg x = some (.ref f)) (hk : PySem.W.keepIn X.K (.ref f) = true) (hb : Binds X.K fd ps ds) (hd : Vals dvs ds) (hx : Passes CX X E)
    (hdb : (x == ("__debug__" : Str)) = false := by decide) : PE X (.Call (.Name x p) [] [] pos) (tCall sp dvs E tNil) := by
  intro pins s σ H Q I h
  refine wpAny_Call_Name_kw (ld_glob I hg hm ?_ hdb)
  exact PySem.W.callWith_K0 I.kIn hk (run_fn (us := []) F hr hb hd hx I .nil h)

/-- what a class must have to be made -/
structure Mk (K : PySem.W.Frag) (C f : Addr) : Prop where
  makes : PySem.W.makesIn K C = true
  init : PySem.W.findIn K (.ref C) "__init__" = some (some (.ref f))
  fn : PySem.W.isFn K (.ref f) = true
  kp : PySem.W.keepIn K (.ref C) = true

end

/-! ### keywords -/
section
variable {X : Cx} {CX : CXT} {k : Nat} {f C : Addr} {fd : FuncData} {ps ks : List Str} {sp : Sp} {E : XK} {x m : Str} {p pos apos kpos : Pos} {e o : Expr} {es : List Expr} {kws : List Keyword} {te ta : TE} {t tk : TA} {nm : Option Str}
/-- how a call with keywords binds: g puts the positional values us and the keywords' values ws (names ks) in the parameters' order, defaults among them -/
structure KBinds (K : PySem.W.Frag) (fd : FuncData) (ps ks : List Str) (g : List Value → List Value → List Value) (gV : List V → List V → List V) : Prop where
  to : ∀ (s : Shared) (us ws : List Value), K.In s.heap → (g us ws).length = ps.length → BindsTo s fd ⟨us, ks.zip ws⟩ (ps.zip (g us ws))
  rel : ∀ {vs : List V} {us : List Value} {zs : List V} {ws : List Value}, Vals vs us → Vals zs ws → Vals (gV vs zs) (g us ws)
variable {g : List Value → List Value → List Value} {gV : List V → List V → List V}
end

/-! ### a def's body keeps its promise -/
/-- names: the parameters first -/
structure FnScope (N P : List Str) (sc : Scope) : Prop where
  kind : sc.kind = .function
  co : sc.isCoroutine = false
  gen : sc.isGenerator = false
  nd : N.Nodup
  pre : N.take P.length = P
  par : ∀ x ∈ P, sc.names.lookup x = some .local ∨ sc.names.lookup x = some .cell
  nofree : ∀ y ∈ sc.names, y.2 ≠ .free

theorem bindL_out {kindOf : Str → Option NameKind} {x : Str} : ∀ {binds : List (Str × Value)} {m : Str → Option Value}, (∀ v, (x, v) ∉ binds) → bindL kindOf binds m x = m x
  | [], _, _ => rfl
  | (n, v) :: r, m, h => by
    unfold bindL
    rw [bindL_out fun w hw => h w (List.mem_cons_of_mem _ hw)]
    split
    · have : x ≠ n := by rintro rfl; exact h v List.mem_cons_self
      simp [this]
    · rfl
theorem bindC_out {kindOf : Str → Option NameKind} {x : Str} : ∀ {binds : List (Str × Value)} {m : Str → Option Value}, (∀ v, (x, v) ∉ binds) → bindC kindOf binds m x = m x
  | [], _, _ => rfl
  | (n, v) :: r, m, h => by
    unfold bindC
    rw [bindC_out fun w hw => h w (List.mem_cons_of_mem _ hw)]
    split
    · rfl
    · have : x ≠ n := by rintro rfl; exact h v List.mem_cons_self
      simp [this]
theorem bindL_get {kindOf : Str → Option NameKind} {x : Str} {v : Value} : ∀ {P : List Str} {vs : List Value} {i : Nat} {m : Str → Option Value}, P.Nodup → P[i]? = some x → vs[i]? = some v → kindOf x = some .local →
    bindL kindOf (P.zip vs) m x = some v
  | [], _, _, _, _, h, _, _ => by simp at h
  | _ :: _, [], _, _, _, _, h, _ => by simp at h
  | p :: P, w :: vs, 0, m, nd, h1, h2, hk => by
    simp at h1 h2; subst h1; subst h2
    show bindL kindOf ((p, w) :: P.zip vs) m p = _
    unfold bindL
    rw [bindL_out fun v hv => (List.nodup_cons.mp nd).1 (List.of_mem_zip hv).1, if_pos hk]
    simp
  | p :: P, w :: vs, i + 1, m, nd, h1, h2, hk => by
    show bindL kindOf ((p, w) :: P.zip vs) m x = _
    unfold bindL
    exact bindL_get (i := i) (List.nodup_cons.mp nd).2 (by simpa using h1) (by simpa using h2) hk
theorem bindC_get {kindOf : Str → Option NameKind} {x : Str} {v : Value} : ∀ {P : List Str} {vs : List Value} {i : Nat} {m : Str → Option Value}, P.Nodup → P[i]? = some x → vs[i]? = some v → kindOf x ≠ some .local →
    bindC kindOf (P.zip vs) m x = some v
  | [], _, _, _, _, h, _, _ => by simp at h
  | _ :: _, [], _, _, _, _, h, _ => by simp at h
  | p :: P, w :: vs, 0, m, nd, h1, h2, hk => by
    simp at h1 h2; subst h1; subst h2
    show bindC kindOf ((p, w) :: P.zip vs) m p = _
    unfold bindC
    rw [bindC_out fun v hv => (List.nodup_cons.mp nd).1 (List.of_mem_zip hv).1, if_neg hk]
    simp
  | p :: P, w :: vs, i + 1, m, nd, h1, h2, hk => by
    show bindC kindOf ((p, w) :: P.zip vs) m x = _
    unfold bindC
    exact bindC_get (i := i) (List.nodup_cons.mp nd).2 (by simpa using h1) (by simpa using h2) hk

/-- the names' values at the entry -/
def start (N : List Str) (vs : List V) : St := vs.map some ++ List.replicate (N.length - vs.length) none

/-- the context of a def's body, at its entry; an exception leaves the frame, then lies as CX says -/
def cxOf (CX : CXT) (P : Program) (w : World) (K : PySem.W.Frag) (mg : Str → Option Value) (base : Heap) (N : List Str) (qual : Str) (scope : Scope) (f : Addr) (cd : Value) (A : Around) (outer : List Env) (s : Shared) (H : Hp) (E : XK) : Cx where
  prog := P
  w := w
  K := K
  mg := mg
  base := base
  A := A.deeper (envOfC qual scope s.heap.objs.size f cd)
  N := N
  s₀ := s
  H₀ := H
  env := envOfC qual scope s.heap.objs.size f cd
  outer := outer
  stack := envOfC qual scope s.heap.objs.size f cd :: outer
  ex := []
  calm := true
  fn := fun _ => true
  pn := []
  xe := fun e s' => wpAny (model P w) (A.deeper (envOfC qual scope s.heap.objs.size f cd)) (leaving (envOfC qual scope s.heap.objs.size f cd) e) (fun _ s'' => CX outer H s E e s'') (fun e' s'' => CX outer H s E e' s'') s'

theorem cell_has {sc : Scope} {n : Nat} {x : Str} (h : sc.names.lookup x = some .cell) : ∃ c, (cellsFrom n sc.names []).lookup x = some c := by
  have q := PySem.W.cellsFrom_some sc.names n [] (.inl h)
  exact Option.isSome_iff_exists.mp q

theorem inv_start {CX : CXT} {P : Program} {w : World} {K : PySem.W.Frag} {mg : Str → Option Value} {base : Heap} {N ps : List Str} {qual : Str} {scope : Scope} {f : Addr} {cd : Value} {A : Around} {outer : List Env} {s s1 : Shared} {H : Hp} {E : XK} {us : List Value} {vs : List V}
    (S : FnScope N ps scope) (hd : A.handled = none) (e0 : Env0 P w K mg base A outer s H) (hl : vs.length = ps.length) (r : Vals vs us)
    (x : InCallC s s.heap.objs.size (bindL (envOfC qual scope s.heap.objs.size f cd).kindOf (ps.zip us) fun _ => none) (cellsFrom (s.heap.objs.size + 1) scope.names []) (bindC (envOfC qual scope s.heap.objs.size f cd).kindOf (ps.zip us) fun _ => none) s1) :
    Inv (cxOf CX P w K mg base N qual scope f cd A outer s H E) [] (start N vs) H s1 := by
  have hpl : ps.length ≤ N.length := by have := congrArg List.length S.pre; rw [List.length_take] at this; omega
  obtain ⟨h1, tk, rfl, hk⟩ := x.done
  have noA : ∀ b : Addr, b ∉ (cxOf CX P w K mg base N qual scope f cd A outer s H E).ex := fun b z => absurd (show b ∈ ([] : List Addr) from z) (by simp)
  refine ⟨⟨e0.mod, S.kind, rfl, rfl, Nat.le_refl _, fun y z c h1 h2 => ?_, fun y hy => ?_, fun y c _ h => ?_, fun _ => hd, Around.frames_deeper e0.frames, .inr ⟨rfl, rfl⟩, fun b z => absurd z (noA b), e0.bs, e0.bsz, fun b _ _ => noA b, fun b z => absurd z (noA b), e0.funs, e0.frf⟩,
    rfl, e0.bare, Un.kept hk, ⟨_, x.toInCall.ns, fun i y v h1 h2 h3 => ?_⟩, fun y c h => ⟨_, x.cell y c h⟩, e0.hok.fresh (Nat.le_refl _), fun y c h => ?_, fun p hp => absurd (show p ∈ ([] : List (Addr × Obj)) from hp) (by simp), e0.hok.kept hk, ?_⟩
  · exact name_of_addr x.apart (PySem.mem_of_lookup h1) (PySem.mem_of_lookup h2)
  · have hy : scope.names.lookup y = some .cell ∨ scope.names.lookup y = some .free := hy
    rcases hy with hy | hy
    · exact cell_has hy
    · exact absurd rfl (S.nofree _ (PySem.mem_of_lookup hy))
  · exact Nat.le_of_lt (x.above y c (PySem.mem_of_lookup h))
  · have hi : i < vs.length := by
      unfold start at h2
      by_cases hi : i < vs.length
      · exact hi
      · rw [List.getElem?_append_right (by simpa using hi)] at h2
        rw [List.getElem?_replicate] at h2
        split at h2 <;> cases h2
    have ha : vs[i]? = some v := by
      unfold start at h2
      rw [List.getElem?_append_left (by simpa using hi), List.getElem?_map] at h2
      cases e : vs[i]? with
      | none => rw [e] at h2; cases h2
      | some a => rw [e] at h2; cases h2; rfl
    obtain ⟨u, hu, rv⟩ := r.get ha
    have hp : ps[i]? = some y := by
      rw [← S.pre, List.getElem?_take_of_lt (by omega)]; exact h1
    have ndP : ps.Nodup := by rw [← S.pre]; exact S.nd.sublist (List.take_sublist _ _)
    refine ⟨u, rv, ?_⟩
    rcases S.par y (List.mem_of_getElem? hp) with k | k
    · exact .inl ⟨k, bindL_get ndP hp hu k⟩
    · obtain ⟨c, e⟩ := cell_has (n := s.heap.objs.size + 1) k
      refine .inr ⟨.inl k, c, e, ?_⟩
      have q := x.cell y c e
      rw [bindC_get ndP hp hu (by show scope.names.lookup y ≠ _; rw [k]; decide)] at q
      exact q
  · exact e0.hok.fresh (Nat.le_of_lt (x.above y c (PySem.mem_of_lookup h)))
  · unfold start
    show _ = N.length
    rw [List.length_append, List.length_map, List.length_replicate]
    omega

/-- THE RULE: a def (or a method) of the text, by its body. The body's reading t is chosen for each entry; it is run at the parameters' values -/
theorem fn_of {CX : CXT} {P : Program} {w : World} {K : PySem.W.Frag} {mg : Str → Option Value} {base : Heap} {k : Nat} {f : Addr} {name qual : Str} {params : Arguments} {body : List Stmt} {scope : Scope} {dV kV doc pm cdv ct oc : Value} {an od : Option Addr}
    {osl : Array (Option Value)} {N ps : List Str} {sp : Sp} (lk : K.lookup f = some ⟨oc, od, .func (PySem.W.fnOf name qual params body scope dV kV doc pm an cdv ct), osl⟩) (hcd : PySem.W.codeIn K cdv qual = true) (S : FnScope N ps scope)
    (len : ∀ vs H Q E, sp vs H Q E → vs.length = ps.length)
    (hbody : ∀ (A : Around) (outer : List Env) (s : Shared) (H : Hp) (vs : List V) (Q : VK) (E : XK), Room k (A.deeper (envOfC qual scope s.heap.objs.size f cdv)) → sp vs H Q E →
      ∃ t, PSs (cxOf CX P w K mg base N qual scope f cdv A outer s H E) body t ∧ t { nx := fun _ H' => Q .non H', rt := Q } (start N vs) H) :
    FnOk P w K mg base CX (k + 1) f (PySem.W.fnOf name qual params body scope dV kV doc pm an cdv ct) ps sp := by
  refine ⟨len, fun A outer s H args us vs Q E hr e0 hb r hsp => ?_⟩
  have hl := len _ _ _ _ hsp
  have KX : K.In s.heap := e0.mod.kin.keeps fun b o e => (e0.bs b o e).1
  have lim : s.heap.NoLimit := e0.mod.nolimit.keeps fun b o e => (e0.bs b o e).1
  have hkind : ∀ y ∈ ps.zip us, scope.names.lookup y.1 = some .local ∨ (scope.names.lookup y.1 = some .cell ∧ ((cellsFrom (s.heap.objs.size + 1) scope.names []).lookup y.1).isSome = true) := fun ⟨n, v⟩ hy => by
    rcases S.par n (List.of_mem_zip hy).1 with q | q
    · exact .inl q
    · exact .inr ⟨q, PySem.W.cellsFrom_some _ _ _ (.inl q)⟩
  refine codeAny_call_function hr.depth (KX _ _ lk) rfl S.co S.gen rfl (PySem.W.codeRec_of KX hcd) (hb _ _ _ _ ?_)
  refine wpAny_newFunctionEnv_cells S.kind hkind fun env he s1 x => ?_
  subst he
  refine ⟨lim.keeps x.toInCall.keep, codeAny_func ?_⟩
  obtain ⟨t, ht, hq⟩ := hbody A outer s H vs Q E (hr.deeper _) hsp
  have I : Inv (cxOf CX P w K mg base N qual scope f cdv A outer s H E) [] (start N vs) H s1 := inv_start S hr.hd e0 hl r x
  refine wpAny_mono (ht [] s1 (start N vs) H _ I hq) (fun fl s' hs => ?_) fun e s' hs => hs
  have fin : ∀ {σ' : St} {H' : Hp} {v : V} {u : Value}, Inv (cxOf CX P w K mg base N qual scope f cdv A outer s H E) [] σ' H' s' → RelV v u → Q v H' → CE outer P w H s Q u s' :=
    fun {σ' H' v u} J rv q => ⟨v, H', J.os, J.bare, J.base, J.hok, rv, q⟩
  cases fl with
  | ret u =>
    obtain ⟨v, σ', H', J, rv, q⟩ := hs
    exact fin J rv q
  | next =>
    obtain ⟨σ', H', J, q⟩ := hs
    exact fin (v := V.non) (u := Value.none) J rfl q
  | brk =>
    obtain ⟨_, _, _, q⟩ := hs
    exact False.elim q
  | cont =>
    obtain ⟨_, _, _, q⟩ := hs
    exact False.elim q
end L2

namespace L2
open PySem PySem.Spec PyProof.Rows
section
variable {X : Cx} {x : Str} {p pos : Pos} {e : Expr} {es : List Expr} {t : TA} {id T : String} {r : List V → Hp → VK → Prop}

def tCB (r : List V → Hp → VK → Prop) (t : TA) : TE := fun σ H Q => t σ H fun vs H1 => r vs H1 Q
/-- f(e, ..), f a built-in function -/
theorem pe_callB (hc : CallR X (.builtin id) r) (hg : Gl X x) (hm : X.mg x = none) (hv : bootBuiltins x = some (.builtin id)) (ha : PA X (e :: es) t) (hn : x ≠ "__name__" := by decide) (hdb : (x == ("__debug__" : Str)) = false := by decide)
    (he : starEach (e :: es) X.env = (false, eval e X.env) :: starEach es X.env := by rfl) (hpl : (backTo pos (starEach es X.env)).any (·.1) = false := by rfl) : PE X (.Call (.Name x p) (e :: es) [] pos) (tCB r t) := by
  intro pins s σ H Q I h
  refine wpAny_Call_Name_kw (ld_blt I hg hm hv ?_ hn hdb)
  exact PyProof.Rows.callWith_builtin1 (thn (ha pos pins s σ H _ I h) fun us s1 ⟨vs, H1, I1, r1, q1⟩ => hc pins s1 σ H1 vs us Q I1 r1 q1) he hpl
/-- T(e, ..), T a built-in type -/
theorem pe_callTy (hc : CallR X (.type T) r) (hg : Gl X x) (hm : X.mg x = none) (hv : bootBuiltins x = some (.type T)) (ha : PA X (e :: es) t) (hn : x ≠ "__name__" := by decide) (hdb : (x == ("__debug__" : Str)) = false := by decide)
    (he : starEach (e :: es) X.env = (false, eval e X.env) :: starEach es X.env := by rfl) (hpl : (backTo pos (starEach es X.env)).any (·.1) = false := by rfl) : PE X (.Call (.Name x p) (e :: es) [] pos) (tCB r t) := by
  intro pins s σ H Q I h
  refine wpAny_Call_Name_kw (ld_blt I hg hm hv ?_ hn hdb)
  exact PyProof.Rows.callWith_type1 (thn (ha pos pins s σ H _ I h) fun us s1 ⟨vs, H1, I1, r1, q1⟩ => hc pins s1 σ H1 vs us Q I1 r1 q1) he hpl
end
end L2

namespace HT
open PySem PyProof.Rows

section
open PySem.SeqAt
open PySem.AutoSeq1 (wpAny_loadPart')
open PySem.MeetsSeq PySem.MeetsSeq2 PySem.MeetsSeq3

end

section
variable {prog : Program} {w : World} {A : Around} {E : Value → Shared → Prop} {s : Shared}

/-- t + u, t not empty -/
theorem cat_tup {t b : Addr} {vs ws : List Value} {Q : Value → Shared → Prop} (ht : IsTup s.heap t vs.toArray) (hb : IsTup s.heap b ws.toArray) (hv : vs ≠ [])
    (h1 : ws = [] → Q (.ref t) s) (h2 : ws ≠ [] → Q (.ref s.heap.objs.size) { s with heap := s.heap.push { cls := .type "tuple", data := .seq (vs ++ ws).toArray } })
    (hsz : vs.length + ws.length ≤ sizeLine) : wpAny (model prog w) A (binaryOp .Add (.ref t) (.ref b)) Q E s := by
  obtain ⟨⟨cls, dd, data, sl⟩, ho, hc, n, hd⟩ := id ht
  obtain ⟨⟨cls2, dd2, data2, sl2⟩, ho2, hc2, n2, hd2⟩ := id hb
  simp only at hc hd hc2 hd2
  subst hc hd hc2 hd2
  have e : vs.toArray ++ ws.toArray = (vs ++ ws).toArray := by simp
  by_cases hw : ws = []
  · exact concat_meets ⟨_, ho, rfl⟩ ⟨_, ho2, rfl⟩ noFill_tuple_add seq_tuple_add PySem.F.slot_tuple_add PySem.F.entry_tuple_add (PySem.F.args_tuple_add_2 _ _)
      (tuple_addW1 t b vs.toArray ws.toArray n n2 dd dd2 sl sl2 (by simpa using hv) (by simp [hw])) ⟨ho, ho2, h1 hw⟩
  · refine concat_meets ⟨_, ho, rfl⟩ ⟨_, ho2, rfl⟩ noFill_tuple_add seq_tuple_add PySem.F.slot_tuple_add PySem.F.entry_tuple_add (PySem.F.args_tuple_add_2 _ _)
      (tuple_addW2 t b vs.toArray ws.toArray n n2 dd dd2 sl sl2 (by simpa using hv) (by simpa using hw) (by rw [List.size_toArray, List.size_toArray]; exact hsz)) ⟨ho, ho2, ?_⟩
    rw [e]
    exact h2 hw

/-! ### t[a:b], not the whole -/
/-- a slice's bound as a place among n (d where it is left out) -/
def sIx (n d : Nat) : Option Int → Nat
  | none => d
  | some v => if v < 0 then (v + (n : Int)).toNat else min v.toNat n
theorem sIx_none (n d : Nat) : sIx n d none = d := rfl
theorem sIx_nat (n d k : Nat) : sIx n d (some (k : Int)) = min k n := by
  show (if (k : Int) < 0 then ((k : Int) + (n : Int)).toNat else min (k : Int).toNat n) = min k n
  rw [if_neg (by omega), Int.toNat_natCast]
theorem sIx_le (n d : Nat) (hd : d ≤ n) (o : Option Int) : sIx n d o ≤ n := by
  cases o with
  | none => exact hd
  | some v =>
    show (if v < 0 then (v + (n : Int)).toNat else min v.toNat n) ≤ n
    by_cases hv : v < 0
    · rw [if_pos hv]; omega
    · rw [if_neg hv]; exact Nat.min_le_right _ _
theorem clip_eq (v : Int) (n d : Nat) : (if v < 0 then max (v + (n : Int)) 0 else min v (n : Int)) = ((sIx n d (some v) : Nat) : Int) := by
  show (if v < 0 then max (v + (n : Int)) 0 else min v (n : Int)) = (((if v < 0 then (v + (n : Int)).toNat else min v.toNat n) : Nat) : Int)
  by_cases hv : v < 0
  · simp only [if_pos hv]; omega
  · simp only [if_neg hv]; omega
theorem adjust_gen (lo hi : Option Int) (n : Nat) : Builtin.Slice.sliceAdjust lo hi 1 (n : Int) = (((sIx n 0 lo : Nat) : Int), ((sIx n n hi : Nat) : Int)) := by
  have h1 : ¬ ((1 : Int) < 0) := by omega
  unfold Builtin.Slice.sliceAdjust
  simp only [h1, if_false]
  refine Prod.ext ?_ ?_
  · cases lo with
    | none => rfl
    | some v => exact clip_eq v n 0
  · cases hi with
    | none => rfl
    | some v => exact clip_eq v n n
theorem places_gen (i j : Nat) : Builtin.Slice.slicePlaces (i : Int) (j : Int) 1 = j - i := by
  unfold Builtin.Slice.slicePlaces
  have h1 : (1 : Int) > 0 := by omega
  simp only [h1, if_true, Int.ediv_one]
  split <;> omega
theorem slicePart_ {v : Value} {o : Option Int} {Q : Option Int → Shared → Prop} (p : IsPart v o) (h : Q o s) : wpAny (model prog w) A (Builtin.Slice.slicePartIndex v) Q E s := by
  cases p with
  | none => exact slicePart_none h
  | int i t => exact slicePart_int h
theorem sliceApplied_gen {sl : Addr} {vl vu : Value} {lo hi : Option Int} {n : Nat} {Q : Int × Int × Nat → Shared → Prop} (hs : s.heap.IsSliceOf sl vl vu .none) (pl : IsPart vl lo) (pu : IsPart vu hi)
    (h : Q (((sIx n 0 lo : Nat) : Int), 1, sIx n n hi - sIx n 0 lo) s) : wpAny (model prog w) A (Builtin.Slice.sliceApplied (.ref sl) (pure (n : Int))) Q E s := by
  obtain ⟨os, hos, hcs, hds⟩ := id hs
  unfold Builtin.Slice.sliceApplied Builtin.Slice.sliceFields
  refine wpAny_bind (wpAny_bind (wpAny_field hos hds (x := vl) rfl (wpAny_bind (wpAny_field hos hds (x := vu) rfl (wpAny_bind (wpAny_field hos hds (x := .none) rfl (wpAny_pure ?_)))))))
  refine wpAny_bind (slicePart_none ?_)
  show wpAny _ _ (if ((1 : Int) == 0) = true then _ else _) _ _ s
  rw [if_neg (by decide)]
  refine wpAny_bind (slicePart_ pl (wpAny_bind (slicePart_ pu (wpAny_bind (wpAny_pure ?_)))))
  show wpAny _ _ (match Builtin.Slice.sliceAdjust lo hi 1 (n : Int) with | (lo, hi) => pure (lo, (1 : Int), Builtin.Slice.slicePlaces lo hi 1)) _ _ s
  rw [adjust_gen lo hi n]
  show wpAny _ _ (pure (((sIx n 0 lo : Nat) : Int), (1 : Int), Builtin.Slice.slicePlaces ((sIx n 0 lo : Nat) : Int) ((sIx n n hi : Nat) : Int) 1)) _ _ s
  rw [places_gen]
  exact wpAny_pure h
theorem pick_gen (xs : Array Value) (i k : Nat) : ((List.range k).filterMap fun (m : Nat) => xs[((i : Int) + (m : Int) * 1).toNat]?).toArray = ((xs.toList.drop i).take k).toArray := by
  have e : (fun (m : Nat) => xs[((i : Int) + (m : Int) * 1).toNat]?) = fun m => xs[i + m]? := by
    funext m
    have : ((i : Int) + (m : Int) * 1).toNat = i + m := by omega
    rw [this]
  rw [e]
  have := pick_run xs i k
  rw [List.filterMap_map] at this
  have e2 : ((fun x => xs[x]?) ∘ fun x => i + x) = fun m => xs[i + m]? := rfl
  rw [e2] at this
  rw [this]

theorem getItem_tuple_cut {t sl : Addr} {items : Array Value} {vl vu : Value} {lo hi : Option Int} {Q : Value → Shared → Prop} (ht : IsTup s.heap t items) (hs : s.heap.IsSliceOf sl vl vu .none) (pl : IsPart vl lo) (pu : IsPart vu hi)
    (hw : ¬ (sIx items.size 0 lo = 0 ∧ sIx items.size items.size hi = items.size))
    (h : Q (.ref s.heap.objs.size) { s with heap := s.heap.push { cls := .type "tuple", data := .seq ((items.toList.drop (sIx items.size 0 lo)).take (sIx items.size items.size hi - sIx items.size 0 lo)).toArray } })
    (hsz : items.size ≤ sizeLine) : wpAny (model prog w) A (getItem (.ref t) (.ref sl)) Q E s := by
  have htake : sizeOk (.seq ((items.toList.drop (sIx items.size 0 lo)).take (sIx items.size items.size hi - sIx items.size 0 lo)).toArray) := by
    show ((items.toList.drop (sIx items.size 0 lo)).take (sIx items.size items.size hi - sIx items.size 0 lo)).toArray.size ≤ sizeLine
    rw [List.size_toArray, List.length_take, List.length_drop, Array.length_toList]
    omega
  have hj : sIx items.size items.size hi ≤ items.size := sIx_le _ _ (Nat.le_refl _) hi
  obtain ⟨os, hos, hcs, hds⟩ := id hs
  have hTs : s.TypeIs (.ref sl) "slice" := ⟨os, hos, hcs⟩
  unfold getItem
  try with_reducible refine wpAny_holding ?_
  first | refine wpAny_bind (wpAny_pure ?_) | skip
  refine wpAny_bind (wpAny_sequenceKey ht.typeIs (by decide) ?_)
  refine wpAny_bind (wpAny_callSpecial?_slot (name := Str.ofString "__getitem__") ht.typeIs PyProof.Rows.slot_tuple_getitem
    (wpAny_call_entry PyProof.Rows.slot_tuple_getitem ht.typeIs entry_tuple_getitem ?_ (args_tuple_getitem _ _)))
  show wpAny _ _ (Builtin.Tuple.tupleItemsOf (.ref t) >>= _) _ _ s
  refine wpAny_bind (tupleItemsOf_ ht ?_)
  refine wpAny_bind (wpAny_typeOf hTs ?_)
  rw [if_pos (by decide)]
  refine wpAny_bind (sliceApplied_gen hs pl pu ?_)
  have hno : ¬ ((((sIx items.size 0 lo : Nat) : Int) == 0 && (1 : Int) == 1 && (sIx items.size items.size hi - sIx items.size 0 lo) == items.size) = true) := by
    intro q
    rw [Bool.and_eq_true, Bool.and_eq_true] at q
    have q1 : ((sIx items.size 0 lo : Nat) : Int) = 0 := eq_of_beq q.1.1
    have q2 : sIx items.size items.size hi - sIx items.size 0 lo = items.size := eq_of_beq q.2
    exact hw ⟨by omega, by omega⟩
  show wpAny _ _ (if (((sIx items.size 0 lo : Nat) : Int) == 0 && (1 : Int) == 1 && (sIx items.size items.size hi - sIx items.size 0 lo) == items.size) = true then _ else _) _ _ s
  rw [if_neg hno, pick_gen]
  first
    | exact wpAny_bind (m := Builtin.Tuple.tupleExact _) (wpAny_newObj_type (wpAny_pure ⟨_, rfl, wpAny_pure h⟩) htake)
    | exact wpAny_bind (m := Builtin.Tuple.tupleExact _) (wpAny_newObj_type (wpAny_bind (wpAny_pure (wpAny_pure ⟨_, rfl, wpAny_pure h⟩))) htake)
    | exact wpAny_bind (wpAny_bind (m := Builtin.Tuple.tupleExact _) (wpAny_newObj_type (wpAny_pure (wpAny_pure ⟨_, rfl, wpAny_pure h⟩)) htake))
    | exact wpAny_bind (wpAny_bind (m := Builtin.Tuple.tupleExact _) (wpAny_newObj_type (wpAny_pure ⟨_, rfl, wpAny_pure h⟩) htake))
end
end HT

namespace L2
open PySem PySem.Spec PyProof.Rows

/-! ### the parts of a slice -/
abbrev TO := St → Hp → (Option Int → Hp → Prop) → Prop
/-- a slice's part (left out, or an int) -/
def PO (X : Cx) (e : Option Expr) (t : TO) : Prop :=
  ∀ (pins : List (Addr × Obj)) (s : Shared) (σ : St) (H : Hp) (Q : Option Int → Hp → Prop), Inv X pins σ H s → t σ H Q →
    wpAny (model X.prog X.w) X.A (evalPart e X.env) (fun u s' => ∃ o H', Inv X pins σ H' s' ∧ IsPart u o ∧ Q o H') X.xe s
def tNoPart : TO := fun _ H Q => Q none H
def tPart (t : TE) : TO := fun σ H Q => t σ H fun x H1 => ∃ i, x = .int i ∧ Q (some i) H1

section
variable {X : Cx} {e : Expr} {te : TE} {lo hi : Option Expr} {tl th : TO} {pos p2 : Pos}

theorem po_none : PO X none tNoPart := by
  intro pins s σ H Q I h
  rw [evalPart_none]
  exact wpAny_pure ⟨none, H, I, .none, h⟩
theorem po_some (h : PE X e te) : PO X (some e) (tPart te) := by
  intro pins s σ H Q I hw
  rw [evalPart_some]
  refine thn (h pins s σ H _ I hw) fun u s1 ⟨x, H1, I1, r1, q1⟩ => ?_
  obtain ⟨i, rfl, q⟩ := q1
  obtain ⟨t, rfl⟩ := r1
  exact ⟨some i, H1, I1, .int i t, q⟩

/-- what a slice of a value is, by values: the slice object stands at sl -/
def SlR (X : Cx) (r : V → Option Int → Option Int → Hp → VK → Prop) : Prop :=
  ∀ (pins : List (Addr × Obj)) (s : Shared) (σ : St) (H : Hp) (x : V) (v vl vu : Value) (lo hi : Option Int) (sl : Addr) (Q : VK), Inv X pins σ H s → RelV x v → s.heap.IsSliceOf sl vl vu .none → IsPart vl lo → IsPart vu hi → r x lo hi H Q →
    ∃ T id, typeLookup (.type T) "__getitem__" = pure (some (.builtin id)) ∧ s.TypeIs v T ∧ wpAny (model X.prog X.w) X.A (getItem v (.ref sl)) (EP X pins σ Q) X.xe s
theorem SlR.or {r r' : V → Option Int → Option Int → Hp → VK → Prop} (h : SlR X r) (h' : SlR X r') : SlR X (fun x lo hi H Q => r x lo hi H Q ∨ r' x lo hi H Q) := by
  intro pins s σ H x v vl vu lo hi sl Q I rx hs pl pu q
  rcases q with q | q
  · exact h pins s σ H x v vl vu lo hi sl Q I rx hs pl pu q
  · exact h' pins s σ H x v vl vu lo hi sl Q I rx hs pl pu q
def tSl (r : V → Option Int → Option Int → Hp → VK → Prop) (te : TE) (tl th : TO) : TE := fun σ H Q => te σ H fun x H1 => tl σ H1 fun l H2 => th σ H2 fun u H3 => r x l u H3 Q
/-- a[lo:hi], any a -/
theorem pe_slice {r : V → Option Int → Option Int → Hp → VK → Prop} (hr : SlR X r) (he : PE X e te) (hl : PO X lo tl) (hu : PO X hi th) : PE X (.Subscript e (.Slice lo hi none p2) pos) (tSl r te tl th) := by
  intro pins s σ H Q I h
  refine Subscript_ (thn (he pins s σ H _ I h) fun v s1 ⟨x, H1, I1, r1, q1⟩ => ?_)
  refine wpAny_Slice (thn (hl pins s1 σ H1 _ I1 q1) fun vl s2 ⟨l, H2, I2, pl, q2⟩ => thn (hu pins s2 σ H2 _ I2 q2) fun vu s3 ⟨u, H3, I3, pu, q3⟩ => ?_)
  rw [evalPart_none]
  refine wpAny_pure ?_
  have I4 : Inv X pins σ H3 { s3 with heap := s3.heap.push { cls := .type "slice", data := .fields #[vl, vu, .none] } } := I3.kept (t' := s3.toks) fun b ob q => Heap.get?_push_of_some _ q
  obtain ⟨T, id, hT, ht, hg⟩ := hr pins { s3 with heap := s3.heap.push { cls := .type "slice", data := .fields #[vl, vu, .none] } } σ H3 x v vl vu l u s3.heap.objs.size Q I4 r1 (Heap.IsSliceOf.new ..) pl pu q3
  show wpAny (model X.prog X.w) X.A (subscriptTail e (.Slice lo hi none p2) v (.ref s3.heap.objs.size)) (EP X pins σ Q) X.xe { s3 with heap := s3.heap.push { cls := .type "slice", data := .fields #[vl, vu, .none] } }
  exact tail_any (ops := [.ref s3.heap.objs.size, v]) ht hT hg (by with_unfolding_all rfl)

/-- the items of xs[lo:hi] -/
def cutV (xs : List V) (lo hi : Option Int) : List V := (xs.drop (HT.sIx xs.length 0 lo)).take (HT.sIx xs.length xs.length hi - HT.sIx xs.length 0 lo)
theorem cutV_length (xs : List V) (lo hi : Option Int) : (cutV xs lo hi).length ≤ xs.length := by
  unfold cutV
  rw [List.length_take, List.length_drop]
  omega
/-- t[lo:hi], not the whole of it (the whole would be t itself) -/
def rSlT (K : PySem.W.Frag) : V → Option Int → Option Int → Hp → VK → Prop := fun x lo hi H Q => ∃ a xs, x = .ref a ∧ SqT K H a xs ∧
  ¬ (HT.sIx xs.length 0 lo = 0 ∧ HT.sIx xs.length xs.length hi = xs.length) ∧ ∀ p, H p = none → Q (.ref p) (upd H p (.tup (cutV xs lo hi)))
theorem sl_tup : SlR X (rSlT X.K) := by
  intro pins s σ H x v vl vu lo hi sl Q I rx hs pl pu h
  obtain ⟨a, xs, rfl, hx, hw, q⟩ := h
  cases rx
  obtain ⟨its, r, ht, hz⟩ := I.tuple hx
  have hlen : its.toArray.size = xs.length := by rw [List.size_toArray]; exact r.length.symm
  refine ⟨"tuple", _, PyProof.Rows.slot_tuple_getitem.lookup, ht.typeIs, ?_⟩
  refine HT.getItem_tuple_cut ht hs pl pu (by rw [hlen]; exact hw) ?_ (by rw [hlen]; exact hz)
  rw [hlen]
  refine ⟨.ref s.heap.objs.size, _, I.laid (t' := s.toks) (o := .tup (cutV xs lo hi)) (fun b ob q => Heap.get?_push_of_some _ q) (Nat.le_refl _) ?_, rfl, q _ (I.hok.fresh (Nat.le_refl _))⟩
  exact ⟨Nat.le_trans (cutV_length xs lo hi) hz, _, (r.drop (HT.sIx xs.length 0 lo)).take (HT.sIx xs.length xs.length hi - HT.sIx xs.length 0 lo), IsTup.new _ _⟩

/-! ### t < u, t + u -/
/-- t + u, t not empty: u empty gives t itself -/
def rCatT (K : PySem.W.Frag) : R2 := fun x y H Q => ∃ a b xs ys, x = .ref a ∧ y = .ref b ∧ SqT K H a xs ∧ SqT K H b ys ∧ xs ≠ [] ∧ xs.length + ys.length ≤ sizeLine ∧
  (ys = [] → Q (.ref a) H) ∧ (ys ≠ [] → ∀ p, H p = none → Q (.ref p) (upd H p (.tup (xs ++ ys))))
theorem Vals.nil_iff {xs : List V} {us : List Value} (r : Vals xs us) : us = [] ↔ xs = [] := by
  cases r with
  | nil => simp
  | cons _ _ => simp
theorem op_catT : OpR X (binaryOp .Add) (rCatT X.K) := by
  intro pins s σ H x y v u Q I rx ry h
  obtain ⟨a, b, xs, ys, rfl, rfl, ha, hb, hx, hz, q1, q2⟩ := h
  cases rx
  cases ry
  obtain ⟨its, r1, p1, _⟩ := I.tuple ha
  obtain ⟨its2, r2, p2, _⟩ := I.tuple hb
  refine HT.cat_tup p1 p2 (fun z => hx (r1.nil_iff.mp z)) (fun z => ⟨.ref a, H, I, rfl, q1 (r2.nil_iff.mp z)⟩) (fun z => ?_) (by rw [← r1.length, ← r2.length]; exact hz)
  refine ⟨.ref s.heap.objs.size, _, I.laid (t' := s.toks) (o := .tup (xs ++ ys)) (fun b ob q => Heap.get?_push_of_some _ q) (Nat.le_refl _) ?_, rfl, q2 (fun w => z (r2.nil_iff.mpr w)) _ (I.hok.fresh (Nat.le_refl _))⟩
  exact ⟨by rw [List.length_append]; exact hz, _, r1.append r2, IsTup.new _ _⟩
end
end L2

namespace L2
open PySem PySem.Spec PyProof.Rows

/-! ### places -/
/-- the place that an index of any sign means -/
def ixN (n : Nat) (i : Int) : Option Nat := if 0 ≤ i then (if i < n then some i.toNat else none) else if -(n : Int) ≤ i then some (i + n).toNat else none
def atI {α : Type} (xs : List α) (i : Int) : Option α := (ixN xs.length i).bind fun j => xs[j]?
theorem ixN_seq {n : Nat} {i : Int} {j : Nat} (h : ixN n i = some j) : seqIndex? i n = some j ∧ j < n ∧ -(n : Int) ≤ i ∧ i < n := by
  unfold ixN at h
  by_cases h0 : 0 ≤ i
  · rw [if_pos h0] at h
    by_cases h1 : i < n
    · rw [if_pos h1] at h
      have e : i.toNat = j := Option.some.inj h
      exact ⟨by rw [seqIndex_of h0 h1, e], by omega, by omega, h1⟩
    · rw [if_neg h1] at h; cases h
  · rw [if_neg h0] at h
    by_cases h1 : -(n : Int) ≤ i
    · rw [if_pos h1] at h
      have e : (i + n).toNat = j := Option.some.inj h
      exact ⟨by rw [seqIndex_neg (by omega) h1, e], by omega, h1, by omega⟩
    · rw [if_neg h1] at h; cases h
theorem atI_get {α : Type} {xs : List α} {i : Int} {v : α} (h : atI xs i = some v) : ∃ j, seqIndex? i xs.length = some j ∧ xs[j]? = some v ∧ j < xs.length ∧ -(xs.length : Int) ≤ i ∧ i < xs.length := by
  unfold atI at h
  cases e : ixN xs.length i with
  | none => rw [e] at h; cases h
  | some j =>
    rw [e] at h
    obtain ⟨h1, h2, h3, h4⟩ := ixN_seq e
    exact ⟨j, h1, h, h2, h3, h4⟩
/-! ### what may be subscripted -/
/-- what stands as an index of a plain subscript -/
def PlainIx (b : Expr) : Prop := ∀ o i, subscripted b false o i = operate [o, i] (getItem o i)
/-- a subscript by values -/
def IxR (X : Cx) (r : R2) : Prop :=
  ∀ (value slice : Expr) (pins : List (Addr × Obj)) (s : Shared) (σ : St) (H : Hp) (x y : V) (v u : Value) (Q : VK), Inv X pins σ H s → RelV x v → RelV y u → r x y H Q →
    subscripted slice false v u = operate [v, u] (getItem v u) → wpAny (model X.prog X.w) X.A (subscriptTail value slice v u) (EP X pins σ Q) X.xe s
/-- a call of a builtin's method by values: the receiver, the arguments -/
def MtR (X : Cx) (id : String) (r : V → List V → Hp → VK → Prop) : Prop :=
  ∀ (pins : List (Addr × Obj)) (s : Shared) (σ : St) (H : Hp) (x : V) (xs : List V) (v : Value) (us : List Value) (Q : VK), Inv X pins σ H s → RelV x v → Vals xs us → r x xs H Q →
    wpAny (model X.prog X.w) X.A (call (.builtin id) (v :: us)) (EP X pins σ Q) X.xe s
section
variable {X : Cx} {a b : Expr} {ta tb : TE} {pos : Pos}
theorem IxR.or {r r' : R2} (h : IxR X r) (h' : IxR X r') : IxR X (fun x y H Q => r x y H Q ∨ r' x y H Q) := by
  intro value slice pins s σ H x y v u Q I rx ry q hs
  rcases q with q | q
  · exact h value slice pins s σ H x y v u Q I rx ry q hs
  · exact h' value slice pins s σ H x y v u Q I rx ry q hs
theorem MtR.or {id : String} {r r' : V → List V → Hp → VK → Prop} (h : MtR X id r) (h' : MtR X id r') : MtR X id (fun x xs H Q => r x xs H Q ∨ r' x xs H Q) := by
  intro pins s σ H x xs v us Q I rx rs q
  rcases q with q | q
  · exact h pins s σ H x xs v us Q I rx rs q
  · exact h' pins s σ H x xs v us Q I rx rs q
/-- a[b] -/
theorem pe_ix {r : R2} (hr : IxR X r) (ha : PE X a ta) (hb : PE X b tb) (hs : PlainIx b) : PE X (.Subscript a b pos) (tOp r ta tb) := by
  intro pins s σ H Q I h
  exact Subscript_ (binT ha hb I h fun v u s2 x y H2 I2 rx ry q => hr a b pins s2 σ H2 x y v u Q I2 rx ry q (hs _ _))

def rIxL (K : PySem.W.Frag) : R2 := fun x y H Q => ∃ p xs i v, x = .ref p ∧ y = .int i ∧ SqL K H p xs ∧ atI xs i = some v ∧ Q v H
def rIxT (K : PySem.W.Frag) : R2 := fun x y H Q => ∃ p xs i v, x = .ref p ∧ y = .int i ∧ SqT K H p xs ∧ atI xs i = some v ∧ Q v H
theorem ix_list : IxR X (rIxL X.K) := by
  intro value slice pins s σ H x y v u Q I rx ry h hs
  obtain ⟨p, xs, i, z, rfl, rfl, hq, he, q⟩ := h
  cases rx
  obtain ⟨t, rfl⟩ := ry
  obtain ⟨its, r, pl, hz⟩ := I.list hq
  obtain ⟨j, h1, h2, h3, h4, h5⟩ := atI_get he
  obtain ⟨w, ew, rw'⟩ := r.get h2
  have hl := r.length
  have hn := line63
  have fin : EP X pins σ Q w s := ⟨z, H, I, rw', q⟩
  by_cases h0 : 0 ≤ i
  · have hj : i.toNat = j := by
      rw [seqIndex_of h0 h5] at h1
      exact Option.some.inj h1
    exact item_listR pl.isList h0 (by omega) (by rw [hj]; simpa using ew) fin hs
  · have hj : (i + (its.toArray.size : Int)).toNat = j := by
      rw [seqIndex_neg (by omega) h4] at h1
      rw [List.size_toArray, ← hl]
      exact Option.some.inj h1
    exact subscriptTail_builtinR (x := w) pl.isList.typeIs slot_list_getitem.lookup
      (wpAny_getItem_list_neg (Q := fun r s' => r = w ∧ EP X pins σ Q r s') pl.isList (by omega) (by rw [List.size_toArray] <;> omega) (by omega) (by rw [hj]; simpa using ew) ⟨rfl, fin⟩) hs
theorem ix_tup : IxR X (rIxT X.K) := by
  intro value slice pins s σ H x y v u Q I rx ry h hs
  obtain ⟨p, xs, i, z, rfl, rfl, hq, he, q⟩ := h
  cases rx
  obtain ⟨t, rfl⟩ := ry
  obtain ⟨its, r, pl, hz⟩ := I.tuple hq
  obtain ⟨j, h1, h2, h3, h4, h5⟩ := atI_get he
  obtain ⟨w, ew, rw'⟩ := r.get h2
  have hl := r.length
  have hn := line63
  have fin : EP X pins σ Q w s := ⟨z, H, I, rw', q⟩
  exact subscriptTail_builtinR (x := w) pl.typeIs slot_tuple_getitem.lookup
    (getItem_tuple (j := j) (Q := fun r s' => r = w ∧ EP X pins σ Q r s') pl (by omega) (by omega) (by rw [List.size_toArray, ← hl]; exact h1) (by simpa using ew) ⟨rfl, fin⟩) hs
/-! ### xs[i] = v, any sign -/
/-- the list's object behind a store -/
theorem mapSeq_set (its : List Value) (n j : Nat) (u : Value) : Obj.mapSeq (·.setIfInBounds j u) { cls := .type "list", data := .seq its.toArray n } = { cls := .type "list", data := .seq (its.set j u).toArray n } := by
  simp [Obj.mapSeq]
theorem Inv.lst {pins : List (Addr × Obj)} {σ : St} {H : Hp} {s : Shared} {p : Addr} {xs : List V} (I : Inv X pins σ H s) (h : H p = some (.lst xs)) :
    ∃ (its : List Value) (n : Nat), Vals xs its ∧ s.heap.get? p = some { cls := .type "list", data := .seq its.toArray n } ∧ xs.length ≤ sizeLine := by
  obtain ⟨z, its, n, r, e⟩ := I.hok p _ h
  exact ⟨its, n, r, e, z⟩
/-- the list at p is written by an update of its object -/
theorem Inv.lstUpd {pins : List (Addr × Obj)} {σ : St} {H : Hp} {s : Shared} {p : Addr} {xs ys : List V} {its its' : List Value} {n n' : Nat} {f : Obj → Obj} (I : Inv X pins σ H s) (h : H p = some (.lst xs))
    (ho : s.heap.get? p = some { cls := .type "list", data := .seq its.toArray n }) (hf : f { cls := .type "list", data := .seq its.toArray n } = { cls := .type "list", data := .seq its'.toArray n' }) (r : Vals ys its') (hz : ys.length ≤ sizeLine) (t : Nat) :
    Inv X pins σ (upd H p (.lst ys)) { s with heap := s.heap.update p f, toks := t } := by
  have e : (s.heap.update p f).get? p = some { cls := .type "list", data := .seq its'.toArray n' } := by
    rw [Heap.get?_update_self f ho (by rw [hf] <;> rfl), hf]
  refine I.write (x := p) (e := p) (by rw [h]; trivial) (.inl rfl) (fun b u hb q => (Heap.get?_update_other _ _ (Ne.symm hb)).trans q) ⟨_, e⟩ ?_
  exact ⟨hz, its', n', r, e⟩
def rSetL : V → V → V → Hp → (Hp → Prop) → Prop := fun o i v H Q => ∃ p xs k j, o = .ref p ∧ i = .int k ∧ H p = some (.lst xs) ∧ ixN xs.length k = some j ∧ Q (upd H p (.lst (xs.set j v)))
theorem set_list : PSet X rSetL := by
  intro pins s σ H o i v ov iv u Q I ro ri rv h
  obtain ⟨p, xs, k, j, rfl, rfl, hp, hj, q⟩ := h
  cases ro
  obtain ⟨t, rfl⟩ := ri
  obtain ⟨its, n, r, ho, hz⟩ := I.lst hp
  obtain ⟨h1, h2, h3, h4⟩ := ixN_seq hj
  have hl := r.length
  have hn := line63
  have I' : Inv X pins σ (upd H p (.lst (xs.set j v))) { s with heap := s.heap.update p (Obj.mapSeq (·.setIfInBounds j u)) } :=
    I.lstUpd hp ho (mapSeq_set its n j u) (r.set rv j) (by rw [List.length_set]; exact hz) s.toks
  by_cases h0 : 0 ≤ k
  · have hk : k.toNat = j := by
      rw [seqIndex_of h0 h4] at h1
      exact Option.some.inj h1
    exact PySem.W.ki_setAt ho h0 (by omega) (by rw [List.size_toArray, ← hl]; exact h4) (by rw [hk]; exact ⟨_, I', q⟩)
  · have hk : (k + (its.toArray.size : Int)).toNat = j := by
      rw [seqIndex_neg (by omega) h3] at h1
      rw [List.size_toArray, ← hl]
      exact Option.some.inj h1
    exact PySem.W.ki_setBack ho (by omega) (by rw [List.size_toArray, ← hl]; exact h3) (by omega) (by rw [hk]; exact ⟨_, I', q⟩)

/-! ### slices -/
theorem slice_bounds (lo hi : Option Int) (n : Nat) : (sliceBounds lo hi none n).1 = ((HT.sIx n 0 lo : Nat) : Int) ∧ (sliceBounds lo hi none n).2.1 = ((HT.sIx n n hi : Nat) : Int) ∧ (sliceBounds lo hi none n).2.2 = 1 := by
  refine ⟨?_, ?_, rfl⟩
  · cases lo with
    | none => simp [sliceBounds, HT.sIx]
    | some i =>
      simp only [sliceBounds, HT.sIx, Option.getD_none, show (1 : Int) > 0 by decide, if_true]
      by_cases h : i < 0
      · simp only [h, if_true] <;> omega
      · simp only [h, if_false] <;> omega
  · cases hi with
    | none => simp [sliceBounds, HT.sIx]
    | some i =>
      simp only [sliceBounds, HT.sIx, Option.getD_none, show (1 : Int) > 0 by decide, if_true]
      by_cases h : i < 0
      · simp only [h, if_true] <;> omega
      · simp only [h, if_false] <;> omega
theorem slicePick_cut (its : List Value) (lo hi : Option Int) : slicePick its.toArray lo hi none = ((its.drop (HT.sIx its.length 0 lo)).take (HT.sIx its.length its.length hi - HT.sIx its.length 0 lo)).toArray := by
  obtain ⟨h1, h2, h3⟩ := slice_bounds lo hi its.toArray.size
  unfold slicePick
  rw [h1, h2, h3]
  simp only [sliceRange_one, pick_run, List.size_toArray] <;> rfl
/-- xs[lo:hi] of a list: a new list -/
def rSlL (K : PySem.W.Frag) : V → Option Int → Option Int → Hp → VK → Prop := fun x lo hi H Q => ∃ a xs, x = .ref a ∧ SqL K H a xs ∧ ∀ p, H p = none → Q (.ref p) (upd H p (.lst (cutV xs lo hi)))
theorem sl_list : SlR X (rSlL X.K) := by
  intro pins s σ H x v vl vu lo hi sl Q I rx hs pl pu h
  obtain ⟨a, xs, rfl, hx, q⟩ := h
  cases rx
  obtain ⟨its, r, ht, hz⟩ := I.list hx
  have hlen := r.length
  refine ⟨"list", _, slot_list_getitem.lookup, ht.isList.typeIs, ?_⟩
  refine wpAny_getItem_list_slice ht.isList hs pl pu .none (by simp) ?_ (by rw [List.size_toArray] <;> omega)
  rw [slicePick_cut, ← hlen]
  refine ⟨.ref s.heap.objs.size, _, I.laid (t' := s.toks) (o := .lst (cutV xs lo hi)) (fun b ob q => Heap.get?_push_of_some _ q) (Nat.le_refl _) ?_, rfl, q _ (I.hok.fresh (Nat.le_refl _))⟩
  exact ⟨Nat.le_trans (cutV_length xs lo hi) hz, _, 0, (r.drop (HT.sIx xs.length 0 lo)).take (HT.sIx xs.length xs.length hi - HT.sIx xs.length 0 lo), Heap.get?_push_size _ rfl⟩

/-! ### in, not in: flat items -/
/-! ### len, list(x), tuple(x) of any list or tuple that is read -/
theorem call_len_seq : CallR X (.builtin "len") (fun xs H Q => ∃ p ys, xs = [.ref p] ∧ (SqL X.K H p ys ∨ SqT X.K H p ys) ∧ Q (.int ys.length) H) := by
  intro pins s σ H xs us Q I r h
  obtain ⟨p, ys, rfl, hq, q⟩ := h
  obtain ⟨u, rfl, rx⟩ := vals1 r
  cases rx
  have hn := line63
  rcases hq with hq | hq
  · obtain ⟨its, r', pl, hz⟩ := I.list hq
    have hlen := r'.length
    exact Calls.call_len_list pl.isList (by simp only [List.size_toArray] <;> omega) ⟨.int ys.length, H, I.tok _, ⟨s.toks + 1, by rw [List.size_toArray, hlen]⟩, q⟩
  · obtain ⟨its, r', pl, hz⟩ := I.tuple hq
    have hlen := r'.length
    exact len_tuple pl (by simp only [List.size_toArray] <;> omega) ⟨.int ys.length, H, I.tok _, ⟨s.toks + 1, by rw [List.size_toArray, hlen]⟩, q⟩
theorem CallR.or {f : Value} {r r' : List V → Hp → VK → Prop} (h : CallR X f r) (h' : CallR X f r') : CallR X f (fun xs H Q => r xs H Q ∨ r' xs H Q) := by
  intro pins s σ H xs us Q I rs q
  rcases q with q | q
  · exact h pins s σ H xs us Q I rs q
  · exact h' pins s σ H xs us Q I rs q
theorem call_list_of : CallR X (.type "list") (fun xs H Q => ∃ p ys, xs = [.ref p] ∧ (SqL X.K H p ys ∨ SqT X.K H p ys) ∧ ∀ l, H l = none → Q (.ref l) (upd H l (.lst ys))) := by
  intro pins s σ H xs us Q I r h
  obtain ⟨p, ys, rfl, hq, q⟩ := h
  obtain ⟨u, rfl, rx⟩ := vals1 r
  cases rx
  have fin : ∀ (its : List Value), Vals ys its → ys.length ≤ sizeLine → ∀ (h' : Heap) (c' : Nat), (∀ b o', s.heap.get? b = some o' → h'.get? b = some o') →
      h'.get? s.heap.objs.size = some { cls := .type "list", dict := none, data := .seq its.toArray c', slots := #[] } → EP X pins σ Q (.ref s.heap.objs.size) { s with heap := h' } := fun its r' hz h' c' kp e =>
    ⟨.ref s.heap.objs.size, _, I.laid (t' := s.toks) kp (Nat.le_refl _) (show ObjOk X.prog X.w _ h' _ (.lst ys) from ⟨hz, its, c', r', e⟩), rfl, q _ (I.hok.fresh (Nat.le_refl _))⟩
  rcases hq with hq | hq
  · obtain ⟨its, r', pl, hz⟩ := I.list hq
    have hlen := r'.length
    obtain ⟨o, ho, hc, n, hd⟩ := pl.isList
    exact call_list_seq p (.inl rfl) ho hc hd (fun h' c' kp e => fin its r' hz h' c' kp e) (by simp only [List.size_toArray] <;> omega)
  · obtain ⟨its, r', pl, hz⟩ := I.tuple hq
    have hlen := r'.length
    obtain ⟨o, ho, hc, n, hd⟩ := pl
    exact call_list_seq p (.inr rfl) ho hc hd (fun h' c' kp e => fin its r' hz h' c' kp e) (by simp only [List.size_toArray] <;> omega)
theorem call_tuple_of : CallR X (.type "tuple") (fun xs H Q => ∃ p ys, xs = [.ref p] ∧ ((SqL X.K H p ys ∧ ∀ l, H l = none → Q (.ref l) (upd H l (.tup ys))) ∨ (SqT X.K H p ys ∧ Q (.ref p) H))) := by
  intro pins s σ H xs us Q I r h
  obtain ⟨p, ys, rfl, h⟩ := h
  obtain ⟨u, rfl, rx⟩ := vals1 r
  cases rx
  rcases h with ⟨hq, q⟩ | ⟨hq, q⟩
  · obtain ⟨its, r', pl, hz⟩ := I.list hq
    have hlen := r'.length
    refine call_tuple_list pl.isList (fun h' kp => ?_) (by simp only [List.size_toArray] <;> omega)
    have I1 : Inv X pins σ H { s with heap := h' } := I.kept (t' := s.toks) kp
    have I2 : Inv X pins σ (upd H h'.objs.size (.tup ys)) { s with heap := h'.push { cls := .type "tuple", data := .seq its.toArray } } :=
      I1.laid (t' := s.toks) (fun b o e => Heap.get?_push_of_some _ e) (Nat.le_refl _) (show ObjOk X.prog X.w _ _ _ (.tup ys) from ⟨hz, its, r', IsTup.new _ _⟩)
    exact ⟨.ref h'.objs.size, _, I2, rfl, q _ (I1.hok.fresh (Nat.le_refl _))⟩
  · obtain ⟨its, r', pl, hz⟩ := I.tuple hq
    exact call_tuple_same pl ⟨.ref p, H, I, rfl, q⟩

/-! ### the call of a builtin's method: o.m(..) -/
/-- the value is of that builtin type -/
def tyV (K : PySem.W.Frag) (T : String) (x : V) (H : Hp) : Prop := match x with
  | .str _ => T = "str"
  | .int _ => T = "int"
  | .ref p => (T = "list" ∧ ∃ xs, SqL K H p xs) ∨ (T = "tuple" ∧ ∃ o, K.lookup p = some o ∧ o.cls = .type "tuple" ∧ o.dict = none) ∨
      (T = "dict" ∧ ((∃ kvs, H p = some (.dK kvs)) ∨ ∃ kvs, H p = some (.dT kvs))) ∨ (T = "set" ∧ ∃ S n, H p = some (.set S n))
  | _ => False
theorem tyV_is {pins : List (Addr × Obj)} {σ : St} {H : Hp} {s : Shared} {T : String} {x : V} {v : Value} (I : Inv X pins σ H s) (r : RelV x v) (ty : tyV X.K T x H) :
    s.TypeIs v T ∧ ∀ a, v = .ref a → ∃ ob, s.heap.get? a = some ob ∧ ob.dict = none := by
  cases x with
  | str z =>
    obtain ⟨t, rfl⟩ := r
    cases (show T = "str" from ty)
    exact ⟨typeIs_str s z t, fun _ e => nomatch e⟩
  | int i =>
    obtain ⟨t, rfl⟩ := r
    cases (show T = "int" from ty)
    exact ⟨typeIs_int s i t, fun _ e => nomatch e⟩
  | ref p =>
    cases r
    rcases ty with ⟨rfl, xs, hq⟩ | ⟨rfl, o, hk, hc, hd⟩ | ⟨rfl, hk⟩ | ⟨rfl, S, n, hk⟩
    · obtain ⟨its, _, pl, _⟩ := I.list hq
      refine ⟨pl.isList.typeIs, fun a e => ?_⟩
      cases e
      obtain ⟨o, n, e, c, hd, _⟩ := pl
      exact ⟨o, e, hd⟩
    · refine ⟨⟨o, I.kIn p o hk, hc⟩, fun a e => ?_⟩
      cases e
      exact ⟨o, I.kIn _ o hk, hd⟩
    · have z : ∃ o, s.heap.get? p = some o ∧ o.ExactDict := by
        rcases hk with ⟨kvs, hk⟩ | ⟨kvs, hk⟩
        · obtain ⟨_, _, _, _, o, _, _, e, ex, _⟩ := I.hok p _ hk
          exact ⟨o, e, ex⟩
        · obtain ⟨_, _, _, _, o, _, _, e, ex, _⟩ := I.hok p _ hk
          exact ⟨o, e, ex⟩
      obtain ⟨o, e, ex⟩ := z
      refine ⟨⟨o, e, ex.1⟩, fun a e2 => ?_⟩
      cases e2
      exact ⟨o, e, ex.2.1⟩
    · obtain ⟨o, _, _, _, e, ex, _⟩ := I.hok p _ hk
      refine ⟨⟨o, e, ex.1⟩, fun a e2 => ?_⟩
      cases e2
      exact ⟨o, e, ex.2.1⟩
  | _ => exact False.elim ty
def tBM (K : PySem.W.Frag) (T : String) (r : V → List V → Hp → VK → Prop) (to : TE) (t : TA) : TE := fun σ H Q => to σ H fun x H1 => tyV K T x H1 ∧ t σ H1 fun xs H2 => r x xs H2 Q
variable {o e : Expr} {es : List Expr} {to : TE} {t : TA} {name : Str} {apos cpos : Pos} {T id : String} {r : V → List V → Hp → VK → Prop}
theorem pe_bm (pa : PlainAttrs T) (slot : Slot T name id) (hty : typeOf (.builtin id) = pure (.type "method_descriptor")) (hm : MtR X id r) (ho : PE X o to) (ha : PA X (e :: es) t)
    (hbase : attributeBase o name X.env (eval o X.env) = eval o X.env := by rfl)
    (hfew : ((backTo cpos (starEach (e :: es) X.env)).all (fun x => !x.1) && (backToKw cpos (keywordEach [] X.env)).all (fun x => x.1.isSome)
      && decide ((e :: es).length + ([] : List Keyword).length + (if ([] : List Keyword).isEmpty then 0 else 1) < 30)) = true := by rfl)
    (hline : (apos.endLine == cpos.line) = true := by rfl) (hs : starEach (e :: es) X.env = (false, eval e X.env) :: starEach es X.env := by rfl) (hplain : (backTo cpos (starEach es X.env)).any (·.1) = false := by rfl) :
    PE X (.Call (.Attribute o name apos) (e :: es) [] cpos) (tBM X.K T r to t) := by
  intro pins s σ H Q I h
  refine wpAny_Call_method_late hbase hfew hline rfl (thn (ho pins s σ H _ I h) fun v s1 ⟨x, H1, I1, r1, ty, q1⟩ => ?_)
  obtain ⟨h1, h2⟩ := tyV_is I1 r1 ty
  refine ⟨T, id, pa, slot, hty, h1, h2, ?_⟩
  have hA := ha cpos pins s1 σ H1 _ I1 q1
  rw [hs] at hA ⊢
  refine Calls.callWith_builtin (by show (false || (backTo cpos (starEach es X.env)).any (·.1)) = false; rw [hplain] <;> rfl) (Calls.evalArgs_plain ?_)
  exact thn hA fun us s2 ⟨vs, H2, I2, r2, q2⟩ => hm pins s2 σ H2 x vs v us Q I2 r1 r2 q2
/- xs.append(e), list.index on a module's tuple .. are MtR facts of 06m -/
end
end L2

namespace L2
open PySem PySem.Spec PyProof.Rows

def MtM (X : Cx) (id : String) (r : V → List V → Hp → VK → Prop) : Prop :=
  ∀ (pins : List (Addr × Obj)) (s : Shared) (σ : St) (H : Hp) (x : V) (xs : List V) (v : Value) (us : List Value) (Q : VK), Inv X pins σ H s → RelV x v → Vals xs us → r x xs H Q →
    wpAny (model X.prog X.w) X.A (call (.builtin id) (v :: us)) (EP X pins σ Q) X.xe s

/-! ### lists of values -/
theorem Vals.one : ∀ {x : V} {us : List Value}, Vals [x] us → ∃ u, us = [u] ∧ RelV x u
  | _, _, .cons r .nil => ⟨_, rfl, r⟩
theorem Vals.two : ∀ {x y : V} {us : List Value}, Vals [x, y] us → ∃ u v, us = [u, v] ∧ RelV x u ∧ RelV y v
  | _, _, _, .cons r (.cons q .nil) => ⟨_, _, rfl, r, q⟩
theorem Vals.zero : ∀ {us : List Value}, Vals [] us → us = []
  | _, .nil => rfl
theorem Vals.eraseIdx : ∀ {xs : List V} {us : List Value} (i : Nat), Vals xs us → Vals (xs.eraseIdx i) (us.eraseIdx i)
  | _, _, _, .nil => .nil
  | _, _, 0, .cons _ t => t
  | _, _, i + 1, .cons r t => .cons r (Vals.eraseIdx i t)
theorem Vals.reverse {xs : List V} {us : List Value} (h : Vals xs us) : Vals xs.reverse us.reverse := by
  induction h with
  | nil => exact .nil
  | cons r t ih => rw [List.reverse_cons, List.reverse_cons]; exact Vals.append ih (.cons r .nil)
theorem Vals.rep {xs : List V} {us : List Value} (h : Vals xs us) : ∀ k : Nat, Vals (List.replicate k xs).flatten (List.replicate k us).flatten
  | 0 => .nil
  | k + 1 => by
    rw [List.replicate_succ, List.replicate_succ, List.flatten_cons, List.flatten_cons]
    exact Vals.append h (Vals.rep h k)
theorem len_erase {α : Type} : ∀ (l : List α) (i : Nat), (l.eraseIdx i).length ≤ l.length
  | [], _ => Nat.le_refl _
  | _ :: _, 0 => Nat.le_succ _
  | _ :: r, i + 1 => Nat.succ_le_succ (len_erase r i)
theorem foldl_rep (its : List Value) : ∀ (k : Nat) (acc : List Value),
    List.foldl (fun x1 x2 => x1 ++ x2) acc.toArray (List.replicate k its.toArray) = (acc ++ (List.replicate k its).flatten).toArray
  | 0, acc => by simp
  | k + 1, acc => by
    have e : acc.toArray ++ its.toArray = (acc ++ its).toArray := by simp
    have e2 : (acc ++ its) ++ (List.replicate k its).flatten = acc ++ (List.replicate (k + 1) its).flatten := by
      rw [List.replicate_succ, List.flatten_cons, List.append_assoc]
    rw [← e2, ← foldl_rep its k (acc ++ its), ← e, List.replicate_succ, List.foldl_cons]

section
variable {X : Cx} {pins : List (Addr × Obj)} {σ : St} {H : Hp} {s : Shared} {l b : Addr} {xs ys zs : List V}

/-! ### the two steps: a tracked list is rewritten, a new list is laid -/
theorem Inv.lset {its its' : List Value} {n : Nat} {f : Array Value → Array Value} {t' : Nat} (I : Inv X pins σ H s) (hH : H l = some (.lst xs))
    (e : s.heap.get? l = some { cls := .type "list", data := .seq its.toArray n }) (hf : f its.toArray = its'.toArray) (hv : Vals ys its') (hz : ys.length ≤ sizeLine) :
    Inv X pins σ (upd H l (.lst ys)) { s with heap := s.heap.update l (Obj.mapSeq f), toks := t' } := by
  have q := PySem.IsL.update e f
  rw [hf] at q
  refine I.write (x := l) (e := l) (by rw [hH]; exact trivial) (.inl rfl) (fun b' u hb hu => (Heap.get?_update_other s.heap (Obj.mapSeq f) (Ne.symm hb)).trans hu) ⟨_, q⟩ ?_
  exact ⟨hz, its', _, hv, q⟩
theorem Inv.lnew {its : List Value} {t' : Nat} (I : Inv X pins σ H s) (hv : Vals ys its) (hz : ys.length ≤ sizeLine) :
    Inv X pins σ (upd H s.heap.objs.size (.lst ys)) { s with heap := s.heap.push { cls := .type "list", data := .seq its.toArray }, toks := t' } :=
  I.laid (fun _ _ q => Heap.get?_push_of_some _ q) (Nat.le_refl _) ⟨hz, its, 0, hv, Heap.get?_push_size _ rfl⟩
theorem Inv.fresh (I : Inv X pins σ H s) : H s.heap.objs.size = none := I.hok.fresh (Nat.le_refl _)
theorem Inv.lstM (I : Inv X pins σ H s) (hH : H l = some (.lst xs)) : xs.length ≤ sizeLine ∧ ∃ (its : List Value) (n : Nat), Vals xs its ∧ xs.length = its.length ∧ s.heap.get? l = some { cls := .type "list", data := .seq its.toArray n } := by
  obtain ⟨z, its, n, r, e⟩ := I.hok l _ hH
  exact ⟨z, its, n, r, r.length, e⟩

end

section
variable {X : Cx}

/-! ### methods -/
def rAppend : V → List V → Hp → VK → Prop := fun x vs H Q => ∃ l xs y, x = .ref l ∧ vs = [y] ∧ H l = some (.lst xs) ∧ xs.length < sizeLine ∧ Q .non (upd H l (.lst (xs ++ [y])))
theorem mt_append : MtM X "list.append" rAppend := by
  intro pins s σ H x vs v us Q I rx rv h
  obtain ⟨l, xs, y, rfl, rfl, hH, hz, q⟩ := h
  cases rx
  obtain ⟨u, rfl, ru⟩ := rv.one
  obtain ⟨z, its, n, r, hl, e⟩ := I.lstM hH
  refine call_meets F.slot_list_append ⟨_, e, rfl⟩ F.entry_list_append (F.args_list_append_2 _ _) (PySem.list_append l its.toArray n u (by rw [List.size_toArray]; omega)) ⟨e, ?_⟩
  refine ⟨.non, _, I.lset (its' := its ++ [u]) hH e (by simp) (r.append (.cons ru .nil)) ?_, rfl, q⟩
  rw [List.length_append, List.length_singleton]
  omega

def rPopAt : V → List V → Hp → VK → Prop := fun x vs H Q => ∃ l xs i k y, x = .ref l ∧ vs = [.int i] ∧ H l = some (.lst xs) ∧ -(2 ^ 63) ≤ i ∧ i < 2 ^ 63 ∧ seqIndex? i xs.length = some k ∧ xs[k]? = some y ∧ Q y (upd H l (.lst (xs.eraseIdx k)))
theorem mt_popAt : MtM X "list.pop" rPopAt := by
  intro pins s σ H x vs v us Q I rx rv h
  obtain ⟨l, xs, i, k, y, rfl, rfl, hH, h1, h2, hk, hy, q⟩ := h
  cases rx
  obtain ⟨u, rfl, ru⟩ := rv.one
  obtain ⟨t, rfl⟩ := ru
  obtain ⟨z, its, n, r, hl, e⟩ := I.lstM hH
  obtain ⟨w, hw, rw'⟩ := r.get hy
  refine call_meets F.slot_list_pop ⟨_, e, rfl⟩ F.entry_list_pop (F.args_list_pop_2 _ _)
    (MeetsSeq.list_pop_at l its.toArray n i t k w (fitsIndex_both h1 h2) (by rw [List.size_toArray, ← hl]; exact hk) (by rw [← Array.getElem?_toList]; exact hw) (by rw [List.size_toArray]; omega)) ⟨e, ?_⟩
  refine ⟨y, _, I.lset (its' := its.eraseIdx k) hH e ?_ (r.eraseIdx k) ?_, rw', q⟩
  · show its.toArray.eraseIdxIfInBounds k = (its.eraseIdx k).toArray
    rw [List.eraseIdxIfInBounds_toArray]
  · have := len_erase xs k
    omega

/-! ### list + list, list += list, list * int -/
def rCat : R2 := fun x y H Q => ∃ l b xs zs, x = .ref l ∧ y = .ref b ∧ H l = some (.lst xs) ∧ H b = some (.lst zs) ∧ xs.length + zs.length ≤ sizeLine ∧ ∀ p, H p = none → Q (.ref p) (upd H p (.lst (xs ++ zs)))
theorem op_cat : OpR X (binaryOp .Add) rCat := by
  intro pins s σ H x y v u Q I rx ry h
  obtain ⟨l, b, xs, zs, rfl, rfl, hH, hB, hz, q⟩ := h
  cases rx
  cases ry
  obtain ⟨z, its, n, r, hl, e⟩ := I.lstM hH
  obtain ⟨z2, its2, n2, r2, hl2, e2⟩ := I.lstM hB
  refine PySem.P.add_list e e2 ?_ (by rw [List.size_toArray, List.size_toArray]; omega)
  have ea : its.toArray ++ its2.toArray = (its ++ its2).toArray := by simp
  rw [ea]
  exact ⟨.ref _, _, I.lnew (t' := s.toks) (r.append r2) (by rw [List.length_append]; omega), rfl, q _ I.fresh⟩
theorem len_rep {α : Type} (xs : List α) (k : Nat) : (List.replicate k xs).flatten.length = k * xs.length := by
  induction k with
  | zero => simp
  | succ k ih => rw [List.replicate_succ, List.flatten_cons, List.length_append, ih, Nat.succ_mul, Nat.add_comm]
/-! ### del xs[i] -/
end

/-! ### xs[a:b] = ys -/
section
variable {prog : Program} {w : World} {A : Around} {E : Value → Shared → Prop} {s : Shared}
end

section
variable {X : Cx}
end
end L2

namespace Att
open PySem PySem.W PySem.Calls PyProof.Rows

/-! ### the script -/
theorem ints_of_wellAll {P : Params} {h : Heap} : ∀ (ns : List Int) (vs : List Value), WellAll P h vs (ns.map WData.int) → IntsAre vs ns := by
  intro ns
  induction ns with
  | nil =>
    intro vs w
    rw [List.map_nil] at w
    cases w
    exact .nil
  | cons n ns ih =>
    intro vs w
    rw [List.map_cons] at w
    cases w with
    | cons a b =>
      cases a
      exact .cons _ _ (ih _ b)

theorem script_of {l : OpenLaw} {n : Nat} (hn : l.most = some n) {P : Params} {h : Heap} {args : List WData} {vals : List Value}
    (hpre : l.row.toRowW.claim.pre args = true) (hwl : WellAll P h vals args) :
    ∃ a vs ns, vals = [Value.ref a] ∧ args = [WData.list (ns.map WData.int)] ∧ h.get? a = some { cls := .type "list", data := .seq vs.toArray } ∧ IntsAre vs ns ∧ ns.length ≤ n := by
  have hsh : WShape.hasAll [] args [.list .int] = true := (pre_splitW hpre).1
  have hc : l.pre.holds [] { args := args } = true := (pre_splitW hpre).2
  obtain ⟨d, r, rfl, h1, h2⟩ := hasAllW_cons hsh
  obtain rfl := hasAllW_nil h2
  obtain ⟨xs, rfl, h3⟩ := hasW_list h1
  obtain ⟨ns, rfl⟩ := items_int h3
  have hlen : ns.length ≤ n := by
    unfold OpenLaw.pre at hc
    have h4 : (WTm.not (.lt (.lit (.int (n : Int))) (.len (.arg 0)))).holds [] { args := [.list (ns.map .int)] } = true := by
      have h4 := (holds_andW hc).1
      rw [hn] at h4
      exact h4
    have h5 := condW_of h4 (w_not (w_lt w_lit (w_len_list (w_arg rfl))))
    rw [List.length_map] at h5
    refine Nat.le_of_not_lt fun q => ?_
    have q' : (n : Int) < ((ns.length : Nat) : Int) := by omega
    first
      | (rw [decide_eq_true q'] at h5; exact absurd h5 (by decide))
      | (simp at h5; omega)
  cases hwl with
  | cons w1 w2 =>
    cases w2
    cases w1 with
    | list ho hall => exact ⟨_, _, ns, rfl, rfl, ho, ints_of_wellAll ns _ hall, hlen⟩

theorem post_true (l : OpenLaw) (args : List WData) : l.row.toRowW.claim.post args (.bool true) args = true :=
  postW_of (r := l.row.toRowW) (X := (true == true))
    (show WShape.has [] (.bool true) .bool = true by first | rfl | decide | simp [WShape.has, WShape.arms, WShape.armsAll])
    (show (WTm.eq .res (.lit (.bool true))).value [] { args := args, res := some (.bool true), after := args } = some (.bool (true == true)) from w_eq_bool (w_res rfl) w_lit) rfl

/-! ### the attachment: holds_open's last premise (the goal 'hc' behind k_head) from a wpAny of the law's body -/
/-- the same from a codeAny of the CALL (for a layer whose function contracts speak of calls) -/
theorem attach_call {l : OpenLaw} {n : Nat} {q : Program} {loose : List Str} {XP : (Str → Option Value) → Heap → Prop} {YP : World → Heap → Prop} {d : DefRec}
    (hn : l.most = some n) (hdf : d.params.defaults = [])
    (call : ∀ (w : World) (s₀ s₁ : Shared) (mg mb : Str → Option Value) (fa : Addr) (o : Obj) (pm cd doc : Value) (a : Addr) (vs : List Value) (ns : List Int),
      Ground q loose [] XP w s₀ mg mb s₁.heap → YP w s₁.heap →
      s₁.heap.get? fa = some o → o.data = .func (docDef d.name d.params d.body d.scope pm cd doc) → s₁.heap.CodeRec cd d.name → mg d.name = some (.ref fa) →
      s₁.heap.get? a = some { cls := .type "list", data := .seq vs.toArray } → IntsAre vs ns → ns.length ≤ n → s₁.gens = #[] →
      codeAny (model l.prog w) callerA (.call (.ref fa) ⟨[.ref a], []⟩) (fun r s' => r = .ok (.ret (.bool true)) ∧ OldK s₁.heap s'.heap ∧ s'.os = s₁.os ∧ AllBare s'.gens) s₁) :
    WalkO q loose XP YP l.row.toRowW d [] (fun f vs => PySem.call f vs) := by
  intro w s₀ s₁ mg mb G Y fa o pm cd doc dV kV ho hd hcd hD hmg hg args vals as hpre hlay hrd hwl hlo
  obtain rfl : dV = .none := Dflts.none hD hdf
  obtain rfl : kV = .none := Dflts.noKw hD
  obtain ⟨a, vs, ns, rfl, rfl, hobj, hints, hlen⟩ := script_of hn hpre hwl
  refine enter_call (codeAny_mono (call w s₀ s₁ mg mb fa o pm cd doc a vs ns G Y ho (fd_plain hd) hcd hmg hobj hints hlen hg) fun r s' hq => ?_)
  obtain ⟨rfl, h2, h3, h4⟩ := hq
  exact ⟨.inl ⟨.bool true, .bool true, [], rfl, fun _ => rfl, .bool true, post_true l _, fun _ => ⟨List.Pairwise.nil, fun _ hm => (nomatch hm)⟩⟩, h2, h3, h4⟩

/-! ### rules over ANY heap (no ledger) from facts about the written part K: the library's own take a ledger (News) for what they write -/
section
variable {prog : Program} {w : World} {A : Around} {E : Value → Shared → Prop} {s : Shared} {K : Frag}

/-! the whole heap as the ledger: makes every rule that writes through a ledger a rule over any heap -/
def ledger (h : Heap) (L d : Addr) : List (Addr × Obj) := (List.range h.objs.size).filterMap fun a => if a = L ∨ a = d then none else (h.get? a).map fun o => (a, o)
end
end Att

namespace L2
open PySem PySem.Spec PyProof.Rows

theorem vals_ints : ∀ {vs : List Value} {ns : List Int}, IntsAre vs ns → Vals (ns.map V.int) vs
  | _, _, .nil => .nil
  | _, _, .cons n t h => .cons ⟨t, rfl⟩ (vals_ints h)

/-- nothing is tracked but the script, known to the object (or it is an object of the module) -/
def Only (H : Hp) : Prop := ∀ b, H b = none ∨ ∃ o xs, H b = some (.frz o (.lst xs))

/-- THE HEAD: the law's promise, at the heap behind the top. F, the promise of the law's def, may use that base is part of the heap (so K.In base, base.Ns mainGlobals mg stand in Mod) -/
theorem law_call {P : Program} {w : World} {K : PySem.W.Frag} {mg mb : Str → Option Value} {CX : CXT} {k : Nat} {fa a : Addr} {fd : FuncData} {x : Str} {sp : Sp} {s₁ : Shared} {vs : List Value} {ns : List Int}
    (KX : K.In s₁.heap) (hns : s₁.heap.Ns mainGlobals mg) (hb : s₁.heap.Ns builtinsNs mb) (hbb : ∀ x : Str, x ≠ "__name__" → mb x = bootBuiltins x) (hlim : s₁.heap.NoLimit) (hg : s₁.gens = #[])
    (ha : s₁.heap.get? a = some { cls := .type "list", data := .seq vs.toArray }) (hi : IntsAre vs ns) (hl : ns.length ≤ sizeLine) (hr : Room k callerA)
    (F : ∀ base : Heap, K.In base → base.Ns mainGlobals mg → FnOk P w K mg base CX k fa fd [x] sp) (hbind : ∀ (s : Shared) (u : Value), BindsTo s fd ⟨[u], []⟩ [(x, u)])
    (hsp : ∀ H : Hp, Only H → SqL K H a (ns.map V.int) → sp [.ref a] H (fun v _ => v = .bl true) fun _ _ _ => False)
    (hCX : ∀ H e s', CX [] H s₁ (fun _ _ _ => False) e s' → False) :
    codeAny (model P w) callerA (.call (.ref fa) ⟨[.ref a], []⟩) (fun r s' => r = .ok (.ret (.bool true)) ∧ OldK s₁.heap s'.heap ∧ s'.os = s₁.os ∧ AllBare s'.gens) s₁ := by
  have rv := vals_ints hi
  have lenV := hi.length
  -- from an abstract heap in which nothing but the script may be tracked
  have core : ∀ H : Hp, Only H → SqL K H a (ns.map V.int) → HOk P w H s₁.heap → (∀ b, H b ≠ none → b = a) → (H a ≠ none → K.lookup a = none) →
      codeAny (model P w) callerA (.call (.ref fa) ⟨[.ref a], []⟩) (fun r s' => r = .ok (.ret (.bool true)) ∧ OldK s₁.heap s'.heap ∧ s'.os = s₁.os ∧ AllBare s'.gens) s₁ := by
    intro H hO hS hok hA hK
    have base_of : ∀ {b : Addr} {o : Obj}, s₁.heap.get? b = some o → H b = none → (hidT s₁.heap H).get? b = some o := fun e n => hidT_get e n
    have noA : ∀ {b : Addr} {o : Obj} {es : Array DictEntry} {ep : Nat}, s₁.heap.get? b = some o → o.data = .dict es ep → H b = none := fun {b o es ep} e d => by
      cases q : H b with
      | none => rfl
      | some u =>
        have e' : b = a := hA b (by rw [q]; simp)
        subst e'
        rw [ha] at e; cases e
        have d' : Data.seq vs.toArray _ = Data.dict es ep := d
        cases d'
    have nsK : ∀ {b : Addr} {m : Str → Option Value}, s₁.heap.Ns b m → (hidT s₁.heap H).Ns b m := fun {b m} ⟨o, es, ep, e, d, r⟩ => ⟨o, es, ep, base_of e (noA e d), d, r⟩
    have hKb : K.In (hidT s₁.heap H) := fun b o e => base_of (KX b o e) (by
      cases q : H b with
      | none => rfl
      | some u =>
        have e' : b = a := hA b (by rw [q]; simp)
        subst e'
        rw [hK (by rw [q]; simp)] at e; cases e)
    have hM : Mod K mg (hidT s₁.heap H) := ⟨hKb, nsK hns, ⟨mb, nsK hb, hbb⟩, let ⟨mc, h1, h2⟩ := hlim; ⟨mc, nsK h1, h2⟩⟩
    have e0 : Env0 P w K mg (hidT s₁.heap H) callerA [] s₁ H := ⟨rfl, hM, fun b o e => of_hidT e, Nat.le_of_eq (hidT_size _ _), trivial, fun b hb => absurd (show b ∈ ([] : List Addr) from hb) (by simp), hok, .of_eq hg⟩
    refine codeAny_mono ((F _ hKb (nsK hns)).run callerA [] s₁ H ⟨[.ref a], []⟩ [.ref a] [.ref a] _ _ hr e0 (hbind s₁ (.ref a)) (.cons rfl .nil) (hsp H hO hS)) fun r s' h => ?_
    cases r with
    | error e => exact (hCX H e s' h).elim
    | ok fl =>
      cases fl with
      | next => exact False.elim h
      | brk => exact False.elim h
      | cont => exact False.elim h
      | ret u =>
        obtain ⟨v, H', os, bare, un, hok', r', q⟩ := h
        have q' : v = .bl true := q
        subst q'
        obtain rfl : u = Value.bool true := r'
        refine ⟨rfl, OldK.of_keep fun b o e => ?_, os, bare⟩
        cases q : H b with
        | none => exact un.keep b o e q (by intro z; exact absurd (show b ∈ ([] : List Addr) from z) (by simp)) (by simp)
        | some u =>
          rcases hO b with z | ⟨ob, xs, z⟩
          · rw [q] at z; cases z
          · have z2 := un.frzs b ob _ z
            obtain ⟨e1, _⟩ := hok b _ z
            obtain ⟨e2, _⟩ := hok' b _ z2
            rw [e] at e1; cases e1
            exact e2
  cases hk : K.lookup a with
  | some o =>
    -- the script is one of the module's own objects
    have e := KX a o hk
    rw [ha] at e
    cases e
    refine core (fun _ => none) (fun _ => .inl rfl) (.inr ⟨_, vs.toArray, _, hk, rfl, rfl, rfl, by rw [List.size_toArray, lenV]; exact hl, by simpa using rv⟩) (fun b u z => by have z' : (none : Option HO) = some u := z; cases z') (fun b z => absurd rfl z) fun z => absurd rfl z
  | none =>
    refine core (fun b => if b = a then some (.frz { cls := .type "list", data := .seq vs.toArray } (.lst (ns.map V.int))) else none) (fun b => ?_) (.inl (.inr ⟨{ cls := .type "list", data := .seq vs.toArray }, if_pos rfl⟩)) (fun b u z => ?_) (fun b z => ?_) fun _ => hk
    · by_cases hb : b = a
      · exact .inr ⟨_, _, if_pos hb⟩
      · exact .inl (if_neg hb)
    · by_cases hb : b = a
      · have z' := (if_pos hb).symm.trans z
        cases z'
        subst hb
        exact ⟨ha, by rw [List.length_map]; exact hl, vs, _, rv, ha⟩
      · have z' := (if_neg hb).symm.trans z
        cases z'
    · by_cases hb : b = a
      · exact hb
      · exact absurd (if_neg hb) z
end L2

namespace L2
open PySem PySem.Spec PyProof.Rows

abbrev KOf {K : PySem.W.Frag} {h : Heap} (_ : K.In h) : PySem.W.Frag := K

/-- the goal that k_head leaves (case hc), from the law's promise. F gives the function object fd (K's own) once, then the promise over every base -/
theorem walk_of {l : PySem.W.OpenLaw} {n k : Nat} {q : Program} {loose : List Str} {XP : (Str → Option Value) → Heap → Prop} {YP : World → Heap → Prop} {d : DefRec} {K : Params → PySem.W.Frag} {CX : World → CXT} {sp : World → Sp} {x : Str}
    (hn : l.most = some n) (hn2 : n ≤ sizeLine) (hdf : d.params.defaults = []) (hr : Room k callerA)
    (hY : ∀ (w : World) (h : Heap), YP w h → (K w.params).In h)
    (F : ∀ (w : World) (mg : Str → Option Value) (fa : Addr) (h : Heap), (K w.params).In h → h.Ns mainGlobals mg → mg d.name = some (.ref fa) →
      ∃ fd : FuncData, (∀ (s : Shared) (u : Value), BindsTo s fd ⟨[u], []⟩ [(x, u)]) ∧
        ∀ base : Heap, (K w.params).In base → base.Ns mainGlobals mg → FnOk l.prog w (K w.params) mg base (CX w) k fa fd [x] (sp w))
    (hsp : ∀ (w : World) (H : Hp) (a : Addr) (ns : List Int), ns.length ≤ n → Only H → SqL (K w.params) H a (ns.map V.int) → sp w [.ref a] H (fun v _ => v = .bl true) fun _ _ _ => False)
    (hCX : ∀ (w : World) (H : Hp) (s : Shared) (e : Value) (s' : Shared), CX w [] H s (fun _ _ _ => False) e s' → False) :
    PySem.W.WalkO q loose XP YP l.row.toRowW d [] (fun f vs => PySem.call f vs) := by
  refine Att.attach_call hn hdf fun w s₀ s₁ mg mb fa o pm cd doc a vs ns G Y ho hd hcd hmg hobj hints hlen hg => ?_
  have KX := hY w _ Y
  obtain ⟨fd, hb, hF⟩ := F w mg fa _ KX G.T.g hmg
  exact law_call KX G.T.g G.T.b G.T.builtins G.T.nolimit hg hobj hints (Nat.le_trans hlen hn2) hr hF hb (fun H hO hS => hsp w H a ns hlen hO hS) fun H e s' => hCX w H s₁ e s'
end L2

/- THE LAST THEOREM (shape; LID, My.* are yours):
   My.Adr: a structure of the addresses that your layer names (classes, functions); My.Txt K t: a structure (Prop) of the equations over K;
   My.txt_mk : {K} {implicit addresses ..} (e1 : nsIn K mainGlobals "law" = some (some (.ref f))) (e2 : K.lookup f = some ⟨oc, od, .func (fnOf "law" "law" params body scope dV kV doc pm an cdv ct), sl⟩) (e3 : codeIn K cdv "law" = true) .. : ∃ t, My.Txt K t

set_option maxRecDepth 100000 in
set_option maxHeartbeats 0 in
theorem PySem.Challenge.cw_LID_holds : PySem.Challenge.rw_LID.Holds := by
  w_on; o_law; k_head; (case hw => w_witness2)
  k_fill
  refine L2.walk_of (l := PySem.Challenge.rw_LID) (n := 63) (k := 40) (x := "script") (CX := fun w => ..) (sp := fun _ => My.sp_law) rfl (by decide) rfl ⟨rfl, by decide, by decide⟩ (fun w h Y => PySem.W.kIn_of Y) ?F ?S ?C
  case F =>
    intro w mg fa h KX G hmg
    have T : ∃ t, My.Txt (L2.KOf KX) t := by
      dsimp only [L2.KOf]                          -- K must stand as «<heap const> w.params» for k_is
      refine' My.txt_mk ?e1 ?e2 ?e3 ..
      (case e1 => PySem.W.k_is)                    -- in the order: a name -> its address -> its object -> its parts
      (case e2 => PySem.W.k_is)
      ..
    obtain ⟨t, T⟩ := T
    have e0 := hmg.symm.trans (PySem.W.mg_of KX G T.law)
    cases e0                                       -- fa is the law's own address
    exact ⟨_, fun s u => .of_eq rfl, fun base kb nb => My.law_fn T kb nb⟩     -- if «.of_eq rfl» comes too early: refine' ⟨_, ?b, fun base kb nb => My.law_fn T kb nb⟩; exact fun s u => .of_eq rfl
  case S => exact fun w H a ns hl hO hS => ..
  case C => exact ..
(the tactic k_is has no namespace: write k_is) -/

/-! SHORT WORDS over the layer: a def of the text, its body, what a loop and a test want. -/
namespace L2
open PySem PySem.Spec PyProof.Rows

/-! ### the text by places -/
def defArgs (s : Stmt) : Arguments := match s with
  | .FunctionDef _ a _ _ _ _ _ _ _ _ => a
  | _ => { posonlyargs := [], args := [], vararg := none, kwonlyargs := [], kw_defaults := [], kwarg := none, defaults := [] }
def defBody (s : Stmt) : List Stmt := match s with
  | .FunctionDef _ _ b _ _ _ _ _ _ _ => b
  | _ => []
def defScope (s : Stmt) : Scope := match s with
  | .FunctionDef _ _ _ _ _ _ sc _ _ _ => sc
  | _ => { kind := .function, names := [], isGenerator := false, isCoroutine := false }

/-! ### no exception leaves a def -/
abbrev CX0 : CXT := fun _ _ _ _ _ _ => False
abbrev E0 : XK := fun _ _ _ => False
theorem pass0 {X : Cx} : Passes CX0 X E0 := fun _ _ _ _ _ _ _ h => h.elim

/-! ### a def (or method) of the text as it stands behind the top -/
structure Fun (K : PySem.W.Frag) (x qual : Str) (st : Stmt) (f : Addr) (fd : FuncData) : Prop where
  ex : ∃ (oc : Value) (od : Option Addr) (kV doc pm : Value) (an : Option Addr) (cdv ct : Value) (osl : Array (Option Value)),
    fd = PySem.W.fnOf x qual (defArgs st) (defBody st) (defScope st) .none kV doc pm an cdv ct ∧ K.lookup f = some ⟨oc, od, .func fd, osl⟩ ∧ PySem.W.codeIn K cdv qual = true
  kp : PySem.W.keepIn K (.ref f) = true
section
variable {P : Program} {w : World} {K : PySem.W.Frag} {mg : Str → Option Value} {base : Heap}
/-- THE RULE for a def: its body as a term of rules, and the reading of that term -/
theorem Fun.ok {x qual : Str} {st : Stmt} {f : Addr} {fd : FuncData} {N ps : List Str} {k : Nat} {sp : Sp} (F : Fun K x qual st f fd) (S : FnScope N ps (defScope st)) (len : ∀ vs H Q E, sp vs H Q E → vs.length = ps.length)
    (hbody : ∀ (cdv : Value) (A : Around) (outer : List Env) (s : Shared) (H : Hp) (vs : List V) (Q : VK) (E : XK), Room k (A.deeper (envOfC qual (defScope st) s.heap.objs.size f cdv)) → sp vs H Q E →
      ∃ t, PSs (cxOf CX0 P w K mg base N qual (defScope st) f cdv A outer s H E).nox (defBody st) t ∧ t { nx := fun _ H' => Q .non H', rt := Q } (start N vs) H) : FnOk P w K mg base CX0 (k + 1) f fd ps sp := by
  obtain ⟨oc, od, kV, doc, pm, an, cdv, ct, osl, rfl, lk, hcd⟩ := F.ex
  refine fn_of lk hcd S len fun A outer s H vs Q E hr hsp => ?_
  obtain ⟨t, h, q⟩ := hbody cdv A outer s H vs Q E hr hsp
  exact ⟨t, h.nox, q⟩
/-- how its arguments bind (no defaults): h is «fun _ _ _ _ _ _ us hl => match us, hl with | [_, _], _ => rfl», one _ a parameter -/
theorem Fun.binds {x qual : Str} {st : Stmt} {f : Addr} {fd : FuncData} {ps : List Str} (F : Fun K x qual st f fd)
    (h : ∀ (kV doc pm : Value) (an : Option Addr) (cdv ct : Value) (us : List Value), us.length = ps.length → bindArgs (PySem.W.fnOf x qual (defArgs st) (defBody st) (defScope st) .none kV doc pm an cdv ct) ⟨us, []⟩ = pure (ps.zip us)) : Binds K fd ps [] := by
  obtain ⟨oc, od, kV, doc, pm, an, cdv, ct, osl, rfl, lk, hcd⟩ := F.ex
  exact .all (h kV doc pm an cdv ct)
theorem fun_mk {x qual : Str} {st : Stmt} {f : Addr} {oc : Value} {od an : Option Addr} {osl : Array (Option Value)} {kV doc pm cdv ct : Value} (l : K.lookup f = some ⟨oc, od, .func (PySem.W.fnOf x qual (defArgs st) (defBody st) (defScope st) .none kV doc pm an cdv ct), osl⟩)
    (c : PySem.W.codeIn K cdv qual = true) (k : PySem.W.keepIn K (.ref f) = true) : Fun K x qual st f (PySem.W.fnOf x qual (defArgs st) (defBody st) (defScope st) .none kV doc pm an cdv ct) := ⟨⟨oc, od, kV, doc, pm, an, cdv, ct, osl, rfl, l, c⟩, k⟩
end
/-! ### expressions in short: the name that stands in the i-th slot -/
section
variable {X : Cx}
end

/-! ### tests -/
theorem iteF {A B : Prop} (h : B) : if false = true then A else B := by
  rw [if_neg Bool.false_ne_true]
  exact h
theorem iteT {A B : Prop} (h : A) : if true = true then A else B := by
  rw [if_pos rfl]
  exact h
theorem ite2 {c A B : Prop} [Decidable c] (h1 : c → A) (h2 : ¬ c → B) : if c then A else B := by
  by_cases h : c
  · rw [if_pos h]
    exact h1 h
  · rw [if_neg h]
    exact h2 h
/-! ### heaps -/
/-- all that was tracked is as it was -/
def Same (H H' : Hp) : Prop := ∀ b o, H b = some o → H' b = some o
theorem Same.refl (H : Hp) : Same H H := fun _ _ h => h
theorem Same.trans {H H1 H2 : Hp} (a : Same H H1) (b : Same H1 H2) : Same H H2 := fun c o h => b c o (a c o h)
theorem Same.free {H H' : Hp} (e : Same H H') {l : Addr} (h : H' l = Option.none) : H l = Option.none := by
  cases q : H l with
  | none => rfl
  | some o =>
    rw [e l o q] at h
    cases h
theorem Same.seq {K : PySem.W.Frag} {H H' : Hp} {a : Addr} {xs : List V} (e : Same H H') (h : SqL K H a xs) : SqL K H' a xs := by
  rcases h with (h | ⟨o, h⟩) | h
  · exact .inl (.inl (e _ _ h))
  · exact .inl (.inr ⟨o, e _ _ h⟩)
  · exact .inr h

end L2

set_option Elab.async false
set_option linter.all false
set_option maxRecDepth 100000
/-! Rules of our own over the hand layer: a def by its name, comprehensions. -/
namespace L2
open PySem PySem.Spec PyProof.Rows

/-! ### a def by its name -/
structure DefOk (P : Program) (w : World) (K : PySem.W.Frag) (mg : Str → Option Value) (base : Heap) (k : Nat) (x : Str) (ps : List Str) (sp : Sp) : Prop where
  ex : ∃ (f : Addr) (fd : FuncData), FnOk P w K mg base CX0 k f fd ps sp ∧ mg x = some (.ref f) ∧ PySem.W.keepIn K (.ref f) = true ∧ Binds K fd ps []
def tCallD (sp : Sp) (t : TA) : TE := fun σ H Q => t σ H fun vs H1 => sp vs H1 Q E0
theorem tCallD_eq (sp : Sp) (t : TA) : tCall sp [] E0 t = tCallD sp t := by
  funext σ H Q
  unfold tCall tCallD
  congr
  funext vs H1
  rw [List.append_nil]
section
variable {X : Cx} {k : Nat} {x : Str} {ps : List Str} {sp : Sp} {e : Expr} {es : List Expr} {t : TA} {p pos : Pos}
theorem pe_callD (D : DefOk X.prog X.w X.K X.mg X.base k x ps sp) (hr : Room k X.A) (ha : PA X (e :: es) t) (hg : Gl X x := by rfl)
    (hdb : (x == ("__debug__" : Str)) = false := by decide) (he : starEach (e :: es) X.env = (false, eval e X.env) :: starEach es X.env := by rfl) (hpl : (backTo pos (starEach es X.env)).any (·.1) = false := by rfl) :
    PE X (.Call (.Name x p) (e :: es) [] pos) (tCallD sp t) := by
  obtain ⟨f, fd, F, hm, hk, hb⟩ := D.ex
  rw [← tCallD_eq]
  exact pe_call F hr hg hm hk hb .nil pass0 ha hdb he hpl
theorem pe_callD0 (D : DefOk X.prog X.w X.K X.mg X.base k x ps sp) (hr : Room k X.A) (hg : Gl X x := by rfl) (hdb : (x == ("__debug__" : Str)) = false := by decide) :
    PE X (.Call (.Name x p) [] [] pos) (tCallD sp tNil) := by
  obtain ⟨f, fd, F, hm, hk, hb⟩ := D.ex
  rw [← tCallD_eq]
  exact pe_call0 F hr hg hm hk hb .nil pass0 hdb
end

/-! ### comprehensions: the cells that the block sees -/
def clOf (cells : List (Str × Addr)) : List (Str × NameKind) → List (Str × Addr) → List (Str × Addr)
  | [], acc => acc
  | (n, k) :: r, acc => clOf cells r (if (k == NameKind.free) = true then (n, (cells.lookup n).getD 0) :: acc else acc)
theorem clOf_cons (cells : List (Str × Addr)) (n : Str) (k : NameKind) (r : List (Str × NameKind)) (acc : List (Str × Addr)) : clOf cells ((n, k) :: r) acc = clOf cells r (if (k == NameKind.free) = true then (n, (cells.lookup n).getD 0) :: acc else acc) := rfl
theorem mem_clOf {cells : List (Str × Addr)} {x : Str} {c : Addr} : ∀ {l : List (Str × NameKind)} {acc : List (Str × Addr)}, (x, c) ∈ clOf cells l acc → (x, c) ∈ acc ∨ ((x, NameKind.free) ∈ l ∧ c = (cells.lookup x).getD 0)
  | [], acc, h => .inl h
  | (n, k) :: r, acc, h => by
    unfold clOf at h
    rcases mem_clOf h with h | ⟨h1, h2⟩
    · by_cases hk : (k == NameKind.free) = true
      · rw [if_pos hk] at h
        rcases List.mem_cons.mp h with h | h
        · cases h
          have : k = NameKind.free := by simpa using hk
          subst this
          exact .inr ⟨List.mem_cons_self, rfl⟩
        · exact .inl h
      · rw [if_neg hk] at h
        exact .inl h
    · exact .inr ⟨List.mem_cons_of_mem _ h1, h2⟩
theorem acc_clOf {cells : List (Str × Addr)} {q : Str × Addr} : ∀ {l : List (Str × NameKind)} {acc : List (Str × Addr)}, q ∈ acc → q ∈ clOf cells l acc
  | [], _, h => h
  | (n, k) :: r, acc, h => by
    unfold clOf
    refine acc_clOf ?_
    split
    · exact List.mem_cons_of_mem _ h
    · exact h
theorem in_clOf {cells : List (Str × Addr)} {x : Str} : ∀ {l : List (Str × NameKind)} {acc : List (Str × Addr)}, (x, NameKind.free) ∈ l → (x, (cells.lookup x).getD 0) ∈ clOf cells l acc
  | [], _, h => by cases h
  | (n, k) :: r, acc, h => by
    unfold clOf
    rcases List.mem_cons.mp h with h | h
    · cases h
      refine acc_clOf ?_
      simp
    · exact in_clOf h
theorem lookup_mem {β : Type} {x : Str} {b : β} : ∀ {l : List (Str × β)}, (x, b) ∈ l → ∃ c, l.lookup x = some c
  | [], h => by cases h
  | (n, k) :: r, h => by
    rw [List.lookup_cons]
    cases e : x == n with
    | true => exact ⟨k, rfl⟩
    | false =>
      rcases List.mem_cons.mp h with h | h
      · cases h
        simp at e
      · exact lookup_mem h
theorem closure_run {env : Env} : ∀ (l : List (Str × NameKind)) (acc : List (Str × Addr)), (∀ x ∈ l, x.2 = NameKind.free → ∃ c, env.cells.lookup x.1 = some c) →
    (forIn l acc fun x r => if (x.2 == NameKind.free) = true then (do let c ← cellOf env x.1; pure (ForInStep.yield ((x.1, c) :: r))) else pure (ForInStep.yield r) : Sem (List (Str × Addr))) = pure (clOf env.cells l acc)
  | [], acc, _ => rfl
  | (n, k) :: r, acc, h => by
    rw [List.forIn_cons]
    by_cases hk : (k == NameKind.free) = true
    · obtain ⟨c, hc⟩ := h (n, k) List.mem_cons_self (by simpa using hk)
      have e : cellOf env n = pure c := by unfold cellOf; rw [hc]
      show (if (k == NameKind.free) = true then _ else _) >>= _ = _
      rw [if_pos hk, e]
      show (forIn r ((n, c) :: acc) _ : Sem _) = _
      rw [closure_run r _ fun x hx => h x (List.mem_cons_of_mem _ hx)]
      rw [clOf_cons, if_pos hk, show env.cells.lookup n = some c from hc]
      rfl
    · show (if (k == NameKind.free) = true then _ else _) >>= _ = _
      rw [if_neg hk]
      show (forIn r acc _ : Sem _) = _
      rw [closure_run r _ fun x hx => h x (List.mem_cons_of_mem _ hx)]
      rw [clOf_cons, if_neg hk]
theorem closureFor_cl {scope : Scope} {env : Env} (h : ∀ x ∈ scope.names, x.2 = NameKind.free → ∃ c, env.cells.lookup x.1 = some c) : closureFor scope env = pure (clOf env.cells scope.names []) := by
  have e := closure_run scope.names [] h
  unfold closureFor
  first
    | exact (congrArg (fun m => m >>= fun r => pure r) e).trans rfl
    | (simp only [bind_pure]; exact e)
    | (rw [← e]; rfl)

/-! ### the block's context -/
def cxComp (X : Cx) (sc : Scope) (N : List Str) (cl : List (Str × Addr)) (C : Addr) (s₂ : Shared) (H₂ : Hp) (fp : List Addr) : Cx where
  prog := X.prog
  w := X.w
  K := X.K
  mg := X.mg
  base := X.base
  A := X.A
  N := N
  s₀ := s₂
  H₀ := H₂
  env := compEnvC sc cl C X.env
  outer := X.stack
  stack := X.stack
  ex := fp
  fn := fun _ => false
  calm := true
  pn := []
  xe := fun _ _ => False

/-- what is looked at once: the block's names against the def's -/
def compOk (NX : List Str) (scX sc : Scope) (N : List Str) (mp : List (Option Nat)) : Bool :=
  sc.names.all (fun p => p.2 != NameKind.cell) && sc.names.all (fun p => p.2 != NameKind.local || sc.names.lookup p.1 == some NameKind.local) &&
  sc.names.all (fun p => p.2 != NameKind.free || (scX.names.lookup p.1 == some NameKind.cell || scX.names.lookup p.1 == some NameKind.free)) &&
  mp.length == N.length && (N.zip mp).all (fun q => match q.2 with | none => true | some i => NX[i]? == some q.1 && sc.names.lookup q.1 == some NameKind.free)
/-- the block's values at its entry: what it sees of the def's -/
def seed (mp : List (Option Nat)) (σ : St) : St := mp.map fun o => match o with | none => none | some i => (σ[i]?).join

structure CompOk (NX : List Str) (scX sc : Scope) (N : List Str) (mp : List (Option Nat)) : Prop where
  cell : ∀ x ∈ sc.names, x.2 ≠ NameKind.cell
  loc : ∀ x ∈ sc.names, x.2 = NameKind.local → sc.names.lookup x.1 = some NameKind.local
  free : ∀ x ∈ sc.names, x.2 = NameKind.free → scX.names.lookup x.1 = some NameKind.cell ∨ scX.names.lookup x.1 = some NameKind.free
  len : mp.length = N.length
  map : ∀ (j : Nat) (x : Str) (i : Nat), N[j]? = some x → mp[j]? = some (some i) → NX[i]? = some x ∧ sc.names.lookup x = some NameKind.free
theorem compOk_of {NX : List Str} {scX sc : Scope} {N : List Str} {mp : List (Option Nat)} (h : compOk NX scX sc N mp = true) : CompOk NX scX sc N mp := by
  unfold compOk at h
  simp only [Bool.and_eq_true, List.all_eq_true] at h
  obtain ⟨⟨⟨⟨h1, h2⟩, h3⟩, h4⟩, h5⟩ := h
  have hl : mp.length = N.length := by simpa using h4
  refine ⟨fun x hx => by simpa using h1 x hx, fun x hx e => ?_, fun x hx e => ?_, hl, fun j x i e1 e2 => ?_⟩
  · have := h2 x hx
    rw [e] at this
    simpa using this
  · have := h3 x hx
    rw [e] at this
    simpa using this
  · have hj1 : j < N.length := (List.getElem?_eq_some_iff.mp e1).1
    have hj2 : j < mp.length := (List.getElem?_eq_some_iff.mp e2).1
    have hm : (x, some i) ∈ N.zip mp := by
      refine List.mem_of_getElem? (i := j) ?_
      rw [List.getElem?_zip_eq_some]
      exact ⟨e1, e2⟩
    have := h5 _ hm
    simpa using this

theorem relabel_lookup {sc : Scope} {env : Env} {x : Str} {k : NameKind} (h : (relabel sc env).names.lookup x = some k) : ∃ k', (x, k') ∈ sc.names ∧ (k = k' ∨ (k' = NameKind.free ∧ k = NameKind.cell)) := by
  have hm := PySem.mem_of_lookup h
  obtain ⟨⟨n, k'⟩, hm', e⟩ := List.mem_map.mp hm
  refine ⟨k', ?_⟩
  dsimp only at e
  split at e
  · rename_i hc
    cases e
    rw [Bool.and_eq_true, Bool.and_eq_true] at hc
    have : k' = NameKind.free := by simpa using hc.1.1
    exact ⟨hm', .inr ⟨this, rfl⟩⟩
  · cases e
    exact ⟨hm', .inl rfl⟩
theorem relabel_free {sc : Scope} {env : Env} {x : Str} (h : sc.names.lookup x = some NameKind.free) : (relabel sc env).names.lookup x = some NameKind.cell ∨ (relabel sc env).names.lookup x = some NameKind.free := by
  show (sc.names.map _).lookup x = _ ∨ (sc.names.map _).lookup x = _
  generalize sc.names = l at h
  induction l with
  | nil => cases h
  | cons p r ih =>
    obtain ⟨n, k⟩ := p
    rw [List.map_cons]
    dsimp only
    by_cases hc : (k == NameKind.free && env.scope.kind == .function && env.kindOf n == some .cell) = true
    · rw [if_pos hc, List.lookup_cons]
      cases e : x == n with
      | true => exact .inl rfl
      | false =>
        rw [List.lookup_cons, e] at h
        exact ih h
    · rw [if_neg hc, List.lookup_cons]
      cases e : x == n with
      | true =>
        rw [List.lookup_cons, e] at h
        exact .inr h
      | false =>
        rw [List.lookup_cons, e] at h
        exact ih h

section
variable {X : Cx} {sc : Scope} {N : List Str} {mp : List (Option Nat)} {pins : List (Addr × Obj)} {σ : St} {H : Hp} {s : Shared} {fp : List Addr} {C : Addr} {h₁ : Heap}
theorem cl_cells (O : CompOk X.N X.env.scope sc N mp) (ok : X.Ok) : ∀ x ∈ sc.names, x.2 = NameKind.free → ∃ c, X.env.cells.lookup x.1 = some c := fun x hx e => ok.has x.1 (O.free x hx e)
theorem cl_sub (O : CompOk X.N X.env.scope sc N mp) (ok : X.Ok) {x : Str} {c : Addr} (h : (clOf X.env.cells sc.names []).lookup x = some c) : X.env.cells.lookup x = some c ∧ (x, NameKind.free) ∈ sc.names := by
  rcases mem_clOf (PySem.mem_of_lookup h) with h | ⟨h1, h2⟩
  · cases h
  · obtain ⟨c', hc⟩ := cl_cells O ok _ h1 rfl
    have hc' : X.env.cells.lookup x = some c' := hc
    rw [hc'] at h2
    rw [hc', h2]
    exact ⟨rfl, h1⟩
theorem cl_has (O : CompOk X.N X.env.scope sc N mp) (ok : X.Ok) {x : Str} (h : (x, NameKind.free) ∈ sc.names) : ∃ c, (clOf X.env.cells sc.names []).lookup x = some c := lookup_mem (in_clOf h)

/-- the block begins -/
theorem inv_comp (hc : X.calm = true) (O : CompOk X.N X.env.scope sc N mp) (hk : sc.kind = .function) (I : Inv X pins σ H s) (hC : s.heap.objs.size ≤ C) (kp : ∀ b o, s.heap.get? b = some o → h₁.get? b = some o) {m : Str → Option Value}
    (hn : h₁.Ns C m) (fpo : ∀ b ∈ fp, FpOk X pins H b) (fpl : ∀ b ∈ fp, b < s.heap.objs.size) {t' : Nat} :
    Inv (cxComp X sc N (clOf X.env.cells sc.names []) C s H fp) [] (seed mp σ) H { s with heap := h₁, toks := t' } := by
  have ok := I.ok
  have fsb : ∀ b ∈ fp, b ∉ frs X.stack := fun b hb z => by
    rcases List.mem_cons.mp (I.stkSub b z) with e | e
    · exact (fpo b hb).2.1 e
    · exact (fpo b hb).2.2.1 e
  refine ⟨⟨ok.mod, hk, ok.glob, ok.blt, hC, ?_, ?_, ?_, fun _ => ok.hd hc, ok.frames, .inl rfl, ?_, I.bs, Nat.le_trans ok.bsz I.sz, ?_, fsb, I.stack, I.stkFree⟩, rfl, I.bare, Un.kept kp, ?_, ?_, I.hok.fresh hC, ?_, ?_, I.hok.kept kp, ?_⟩
  · intro x y c h1 h2
    exact ok.inj x y c (cl_sub O ok h1).1 (cl_sub O ok h2).1
  · intro x hx
    have hx' : (relabel sc X.env).names.lookup x = some .cell ∨ (relabel sc X.env).names.lookup x = some .free := hx
    have hf : (x, NameKind.free) ∈ sc.names := by
      rcases hx' with h | h
      · obtain ⟨k', hm, e⟩ := relabel_lookup h
        rcases e with e | ⟨e, _⟩
        · subst e
          exact absurd rfl (O.cell _ hm)
        · subst e
          exact hm
      · obtain ⟨k', hm, e⟩ := relabel_lookup h
        rcases e with e | ⟨_, e⟩
        · subst e
          exact hm
        · cases e
    exact cl_has O ok hf
  · intro x c hf
    cases hf
  · intro b hb
    refine ⟨Nat.ne_of_lt (Nat.lt_of_lt_of_le (fpl b hb) hC), fun x c h => ?_⟩
    exact (fpo b hb).2.2.2.2.1 x c (cl_sub O ok h).1
  · intro b o e hb
    rcases (fpo b hb).2.2.2.1 with z | z
    · exact ok.noex b o e z
    · exact absurd (Nat.lt_of_lt_of_le (Heap.lt_size (ok.bs b o e).1) z) (Nat.lt_irrefl _)
  · refine ⟨m, hn, fun j x v e1 e2 e3 => ?_⟩
    have e1' : N[j]? = some x := e1
    have hj : j < mp.length := by
      rw [O.len]
      exact (List.getElem?_eq_some_iff.mp e1').1
    obtain ⟨i, hi, hv⟩ : ∃ i, mp[j]? = some (some i) ∧ σ[i]? = some (some v) := by
      unfold seed at e2
      rw [List.getElem?_map] at e2
      cases e : mp[j]? with
      | none => rw [e] at e2; cases e2
      | some o =>
        rw [e] at e2
        cases o with
        | none => cases e2
        | some i =>
          refine ⟨i, rfl, ?_⟩
          have e2' : (σ[i]?).join = some v := Option.some.inj e2
          cases q : σ[i]? with
          | none => rw [q] at e2'; cases e2'
          | some z =>
            rw [q] at e2'
            have : z = some v := e2'
            rw [this]
    obtain ⟨hx, hf⟩ := O.map j x i e1' hi
    have hfm := PySem.mem_of_lookup hf
    obtain ⟨mX, hnX, hl⟩ := I.loc
    have vis : Vis X.env.scope x := by
      rcases O.free _ hfm rfl with z | z
      · exact .inr (.inl z)
      · exact .inr (.inr z)
    obtain ⟨u, r, q⟩ := hl i x v hx hv vis
    refine ⟨u, r, ?_⟩
    rcases q with ⟨z, _⟩ | ⟨_, c, ec, cellc⟩
    · exfalso
      have z' : X.env.scope.names.lookup x = some .local := z
      rcases O.free _ hfm rfl with y | y
      · rw [show X.env.scope.names.lookup x = some .cell from y] at z'; cases z'
      · rw [show X.env.scope.names.lookup x = some .free from y] at z'; cases z'
    · obtain ⟨c', hc'⟩ := cl_has O ok hfm
      have hcc := (cl_sub O ok hc').1
      rw [ec] at hcc
      cases hcc
      refine .inr ⟨relabel_free hf, c, hc', ?_⟩
      obtain ⟨o, ho, hd⟩ := cellc
      exact ⟨o, kp _ _ ho, hd⟩
  · intro x c h
    obtain ⟨v, o, ho, hd⟩ := I.cell x c (cl_sub O ok h).1
    exact ⟨v, o, kp _ _ ho, hd⟩
  · intro x c h
    exact I.freeC x c (cl_sub O ok h).1
  · intro p hp
    cases hp
  · show (seed mp σ).length = N.length
    unfold seed
    rw [List.length_map, O.len]

/-- an untracked object of ours is tracked from now on -/
theorem Inv.track {a : Addr} {o : HO} {ob : Obj} (I : Inv X pins σ H s) (ho : s.heap.get? a = some ob) (hn : H a = none) (hL : a ≠ X.env.locals) (h1 : a ∈ X.ex ∨ X.s₀.heap.objs.size ≤ a) (h2 : ∀ x c, X.env.cells.lookup x = some c → c ≠ a)
    (h3 : ∀ p ∈ X.pn ++ pins, p.1 ≠ a) (new : ObjOk X.prog X.w (upd H a o) s.heap a o) : Inv X pins σ (upd H a o) s := by
  have nit : ∀ b u, H b = some u → b ≠ a := fun b u e z => by rw [z, hn] at e; cases e
  have := I.step (g' := s.gens) (d' := s.drawn) (t' := s.toks) (h' := s.heap) (H' := upd H a o) (ch := [a]) (fun b hb => ?_) (fun b o _ _ _ e _ => e) (fun b o _ _ _ e _ => ⟨o.slots, e⟩) (fun b o hc _ n => ?_)
    (fun b o _ e => ⟨o, e⟩) (fun b xs e => ?_) (fun b u xs e => ?_) (fun b ps e => ⟨#[], ?_⟩) (fun m hm => hm) (fun b u e => ?_) I.bare
  · exact this
  · have e : b = a := by simpa using hb
    subst e
    exact ⟨h1, hL, h2, h3⟩
  · rw [upd_ne (fun z => hc (by simp [z]))]; exact n
  · rw [upd_ne (nit _ _ e)]; exact e
  · rw [upd_ne (nit _ _ e)]; exact e
  · rw [upd_ne (nit _ _ e), e]; simp
  · by_cases hb : b = a
    · subst hb; rw [upd_same] at e; cases e; exact new
    · rw [upd_ne hb] at e
      exact (I.hok b u e).stay (fun c v _ q => q) (fun c q => by rw [upd_ne (nit _ _ q)]; exact q) fun c xs q => by rw [upd_ne (nit _ _ q)]; exact q
end

/-! ### the loop of a comprehension, any target -/
theorem compLoop_own {prog : Program} {w : World} {A : Around} {R : Result → Shared → Prop} {s : Shared} {elt target iter : Expr} {ifs : List Expr} {scope : Scope} {pos : Pos} {it acc : Value} {env : Env} (I : Nat → Shared → Prop)
    (turn : ∀ n s, I n s → wpAny (model prog w) A (pyNext it) (fun r s₁ => match r with
      | none => R (.ok .next) s₁
      | some v => wpAny (model prog w) A (letOwnedTupleGo target it v) (fun _ s' => wpAny (model prog w) A (assign target env v) (fun _ s₂ =>
          wpAny (model prog w) A (forIn ifs true fun c r => if r = true then do let ok ← isTrue c env (eval c env); pure (ForInStep.yield ok) else pure (ForInStep.yield r)) (fun ok s₃ =>
            if ok = true then wpAny (model prog w) A (eval elt env) (fun x s₄ =>
              wpAny (model prog w) A (call (.builtin "list.append") [acc, x]) (fun _ s₅ => ∃ m, m < n ∧ I m s₅) (fun _ _ => False) s₄) (fun _ _ => False) s₃
            else ∃ m, m < n ∧ I m s₃) (fun _ _ => False) s₂) (fun _ _ => False) s') (fun _ _ => False) s₁) (fun _ _ => False) s)
    (n : Nat) (h : I n s) :
    codeAny (model prog w) A (.compLoop (.ListComp elt [⟨target, iter, ifs, 0⟩] scope pos) 0 it acc env) R s := by
  refine codeAny_loop rfl I (fun n s hI => ?_) n h
  show wpAny _ A ((compTurn (.ListComp elt [⟨target, iter, ifs, 0⟩] scope pos) 0 it acc env).onRaise (fun x => do noteFrame x env; theTreesLotGoes x)) _ _ s
  refine wpAny_noted ?_
  rw [compTurn_list]
  refine wpAny_bind (wpAny_standAt (wpAny_bind (wpAny_mono (turn n s hI) (fun r s₁ h₁ => ?_) fun _ _ h' => h'.elim)))
  cases r with
  | none => exact wpAny_pure h₁
  | some v =>
    refine wpAny_bind (wpAny_mono h₁ (fun _ s' h' => wpAny_bind (wpAny_mono h' (fun _ s₂ h₂ => wpAny_bind (wpAny_mono h₂ (fun ok s₃ h₃ => ?_) fun _ _ h' => h'.elim)) fun _ _ h' => h'.elim)) fun _ _ h' => h'.elim)
    cases ok with
    | false => exact wpAny_pure ⟨rfl, h₃⟩
    | true =>
      exact wpAny_bind (wpAny_bind (wpAny_mono h₃ (fun x s₄ h₄ => wpAny_bind (wpAny_mono h₄ (fun _ s₅ h₅ => wpAny_pure (wpAny_pure ⟨rfl, h₅⟩)) fun _ _ h' => h'.elim)) fun _ _ h' => h'.elim))

/-- the tests of a comprehension's clause -/
def PCk (X : Cx) (ifs : List Expr) (t : TT) : Prop :=
  ∀ (pins : List (Addr × Obj)) (s : Shared) (σ : St) (H : Hp) (Q : Bool → Hp → Prop), Inv X pins σ H s → t σ H Q →
    wpAny (model X.prog X.w) X.A (forIn ifs true fun c r => if r = true then do let ok ← isTrue c X.env (eval c X.env); pure (ForInStep.yield ok) else pure (ForInStep.yield r)) (TP X pins σ Q) X.xe s
def tTrue : TT := fun _ H Q => Q true H
theorem pk_nil1 {X : Cx} : PCk X [] tTrue := fun _ _ _ H _ I h => wpAny_tests_nil ⟨H, I, h⟩
/-- what a comprehension's list is: R of its items and the heap behind -/
abbrev TC := St → Hp → (List V → Hp → Prop) → Prop
def tComp (wi : TI) (mp : List (Option Nat)) (g : TG) (tc : TT) (te : TE) : TC := fun σ H R => wi σ H fun J H1 => ∃ W : Nat → Nat → List V → St → Hp → Prop, (∃ m, W 0 m [] (seed mp σ) H1) ∧ ∀ i m ys σ' H', W i m ys σ' H' →
  (J.stop i H' ∧ ys.length ≤ sizeLine ∧ R ys H') ∨
  (J.go i H' ∧ ys.length < sizeLine ∧ ∀ x H'', J.yld i H' x H'' → g x σ' H'' fun σ2 H2 => tc σ2 H2 fun b H3 =>
    if b = true then te σ2 H3 fun y H4 => ∃ m', m' < m ∧ W (i + 1) m' (ys ++ [y]) σ2 H4 else ∃ m', m' < m ∧ W (i + 1) m' ys σ2 H3)

section
variable {X : Cx} {elt tg iter : Expr} {ifs : List Expr} {sc : Scope} {pos pos' : Pos} {N : List Str} {mp : List (Option Nat)} {wi : TI} {g : TG} {tc : TT} {te : TE}
theorem comp_core {use : Option (Value → Sem Unit)} {Q : Value → Shared → Prop} (hc : X.calm = true) (hi : PI X tg iter wi) (hk : sc.kind = .function) (O : CompOk X.N X.env.scope sc N mp)
    (hb : ∀ (cl : List (Str × Addr)) (C : Addr) (s₂ : Shared) (H₂ : Hp) (fp : List Addr), PG (cxComp X sc N cl C s₂ H₂ fp) tg g ∧ PCk (cxComp X sc N cl C s₂ H₂ fp) ifs tc ∧ PE (cxComp X sc N cl C s₂ H₂ fp) elt te)
    {pins : List (Addr × Obj)} {s : Shared} {σ : St} {H : Hp} {R : List V → Hp → Prop} (I : Inv X pins σ H s) (h : tComp wi mp g tc te σ H R)
    (hs : ∀ x, foldedSetIterable iter X.env x = pure x)
    (hend : ∀ (D C : Addr) (ys : List V) (H' : Hp) (s' : Shared) (m : Str → Option Value), Inv X pins σ (upd H' D (.lst ys)) s' → s'.heap.Ns C m → FpOk X pins (upd H' D (.lst ys)) C → H' D = none → R ys H' →
      compPost (model X.prog X.w) X.A X.xe use Q (.ref D) C (.ok .next) s') :
    wpAny (model X.prog X.w) X.A (comprehension (.ListComp elt [⟨tg, iter, ifs, 0⟩] sc pos) sc X.env pos' (newList []) false (eval iter X.env) use) Q X.xe s := by
  have ok := I.ok
  refine wpAny_comprehension_free (g := ⟨tg, iter, ifs, 0⟩) (gs := []) rfl hs (closureFor_cl (cl_cells O ok)) hk O.loc (thn (hi pins s σ H _ I h) fun v s1 h1 => thn h1 fun itv s2 h2 => ?_)
  obtain ⟨it, fp, tn, J, H2, e, I2, T, st2, f2, W, ⟨m0, w0⟩, turn⟩ := h2
  subst e
  refine wpAny_newObj_type (wpAny_newFunctionEnv O.cell (by intro y hy; simp at hy) (fun h₁ hns₁ hsb₁ => ?_) hk)
  dsimp only at hns₁ hsb₁ ⊢
  generalize hP : s2.heap.push { cls := .type "list", dict := none, data := .seq ([] : List Value).toArray } = P2 at hns₁ hsb₁ ⊢
  have hCe : P2.objs.size = s2.heap.objs.size + 1 := by rw [← hP, Heap.size_push]
  have hDC : s2.heap.objs.size ≠ P2.objs.size := by rw [hCe]; exact Nat.ne_of_lt (Nat.lt_succ_self _)
  have hCle : s2.heap.objs.size ≤ P2.objs.size := by rw [hCe]; exact Nat.le_succ _
  have old : ∀ b o, s2.heap.get? b = some o → h₁.get? b = some o := fun b o e =>
    hsb₁.extBut b o (Nat.ne_of_lt (Nat.lt_of_lt_of_le (Heap.lt_size e) hCle)) (Heap.get?_push_of_some _ (hP ▸ Heap.get?_push_of_some _ e))
  have hacc : h₁.get? s2.heap.objs.size = some { cls := .type "list", dict := none, data := .seq ([] : List Value).toArray } :=
    hsb₁.extBut _ _ hDC (Heap.get?_push_of_some _ (hP ▸ Heap.get?_push_size _ rfl))
  have fpl : ∀ b ∈ fp, b < s2.heap.objs.size := fun b hb => by
    obtain ⟨o, e, _⟩ := T.obj _ _ st2 b hb
    exact Heap.lt_size e
  have hDf : s2.heap.objs.size ∉ fp := fun z => Nat.lt_irrefl _ (fpl _ z)
  have I3 : Inv (cxComp X sc N (clOf X.env.cells sc.names []) P2.objs.size s2 H2 fp) [] (seed mp σ) H2 { s2 with heap := h₁, toks := s2.toks + ([] : List (Str × Value)).length } :=
    inv_comp hc O hk I2 hCle old hns₁ f2 fpl
  obtain ⟨hg, ht, he⟩ := hb (clOf X.env.cells sc.names []) P2.objs.size s2 H2 fp
  generalize hX : cxComp X sc N (clOf X.env.cells sc.names []) P2.objs.size s2 H2 fp = Y at I3 hg ht he
  have yP : Y.prog = X.prog := by rw [← hX]; rfl
  have yw : Y.w = X.w := by rw [← hX]; rfl
  have yK : Y.K = X.K := by rw [← hX]; rfl
  have yA : Y.A = X.A := by rw [← hX]; rfl
  have yc : Y.calm = true := by rw [← hX]; rfl
  have yx : Y.xe = fun _ _ => False := by rw [← hX]; rfl
  have yl : Y.env.locals = P2.objs.size := by rw [← hX]; rfl
  have yex : Y.ex = fp := by rw [← hX]; rfl
  have ys0 : Y.s₀ = s2 := by rw [← hX]; rfl
  have yH0 : Y.H₀ = H2 := by rw [← hX]; rfl
  have ypn : Y.pn = [] := by rw [← hX]; rfl
  have yfs : Y.fs = frs X.stack := by rw [← hX]; rfl
  have yenv : Y.env = compEnvC sc (clOf X.env.cells sc.names []) P2.objs.size X.env := by rw [← hX]; rfl
  have ycl : ∀ x c, Y.env.cells.lookup x = some c → X.env.cells.lookup x = some c := fun x c e => by
    rw [yenv] at e
    exact (cl_sub O ok e).1
  have dne : ∀ x c, Y.env.cells.lookup x = some c → c ≠ s2.heap.objs.size := fun x c e z => by
    obtain ⟨v, o, ho, _⟩ := I2.cell x c (ycl x c e)
    exact absurd (Heap.lt_size ho) (by rw [z]; exact Nat.lt_irrefl _)
  have fsb : ∀ b ∈ fp, b ∉ frs X.stack := fun b hb z => by
    rcases List.mem_cons.mp (I2.stkSub b z) with e | e
    · exact (f2 b hb).2.1 e
    · exact (f2 b hb).2.2.1 e
  have dfs : s2.heap.objs.size ∉ frs X.stack := fun z => by
    rcases List.mem_cons.mp (I2.stkSub _ z) with e | e
    · exact absurd I2.lt (by rw [← e]; exact Nat.lt_irrefl _)
    · exact I2.nofs (Nat.le_refl _) e
  have fpo : ∀ {H' : Hp} {o : Obj}, (∀ b ∈ fp, H' b = none) → ∀ b ∈ fp, FpOk Y [(s2.heap.objs.size, o)] H' b := fun {H' o} hn b hb => by
    refine ⟨hn b hb, ?_, ?_, ?_, ?_, ?_⟩
    · rw [yl]; exact Nat.ne_of_lt (Nat.lt_of_lt_of_le (fpl b hb) hCle)
    · rw [yfs]; exact fsb b hb
    · rw [yex]; exact .inl hb
    · exact fun x c e => (f2 b hb).2.2.2.2.1 x c (ycl x c e)
    · intro p hp
      rw [ypn] at hp
      have : p = (s2.heap.objs.size, o) := by simpa using hp
      subst this
      exact fun z => hDf (by have z' : s2.heap.objs.size = b := z; rw [z']; exact hb)
  -- the list under work is pinned
  have pinD : ∀ {σ' : St} {H' : Hp} {s' : Shared} {o : Obj}, Inv Y [] σ' H' s' → s'.heap.get? s2.heap.objs.size = some o → (∀ v, o.data ≠ .cell v) → H' s2.heap.objs.size = none → Inv Y [(s2.heap.objs.size, o)] σ' H' s' :=
    fun {σ' H' s' o} J e d hn => J.pins_of fun p hp => by
      have : p = (s2.heap.objs.size, o) := by simpa using hp
      subst this
      exact ⟨e, hn, by rw [yl]; exact hDC, by rw [yfs]; exact dfs, d⟩
  have loop : ∀ s₃ : Shared, s₃ = { s2 with heap := h₁, toks := s2.toks + ([] : List (Str × Value)).length } →
      codeAny (model X.prog X.w) X.A (.compLoop (.ListComp elt [⟨tg, iter, ifs, 0⟩] sc pos) 0 (.ref it) (.ref s2.heap.objs.size) Y.env)
        (compPost (model X.prog X.w) X.A X.xe use Q (.ref s2.heap.objs.size) P2.objs.size) s₃ := by
    rintro s₃ rfl
    refine compLoop_own (fun n s' => ∃ i ys its c σ' H', Inv Y [(s2.heap.objs.size, ({ cls := .type "list", data := .seq its.toArray c } : Obj))] σ' H' s' ∧ Vals ys its ∧ tn i s'.heap ∧ (∀ b ∈ fp, H' b = none) ∧ ys.length ≤ sizeLine ∧ W i n ys σ' H') ?_ m0
      ⟨0, [], [], 0, seed mp σ, H2, pinD I3 hacc (fun v z => by cases z) (I2.hok.fresh (Nat.le_refl _)), .nil, T.keep _ _ _ st2 (fun b _ o e => old b o e), fun b hb => (f2 b hb).1, Nat.zero_le _, w0⟩
    rintro n s3 ⟨i, ys, its, c, σ3, H3, J3, rv, st3, fr3, hz, w3⟩
    have hpin := J3.pin _ (List.mem_append_right _ (List.mem_singleton.mpr rfl))
    rcases turn i n ys σ3 H3 w3 with ⟨stop, hl, qn⟩ | ⟨go, hl, step⟩
    · have := T.done Y yP yw yK yc i _ s3 σ3 H3 (fun _ _ => False) J3 (fpo fr3) st3 stop
      rw [yA] at this
      refine thn this fun r s4 ⟨hr, J4⟩ => ?_
      subst hr
      obtain ⟨pe, pn, _, _, _⟩ := J4.pin _ (List.mem_append_right _ (List.mem_singleton.mpr rfl))
      dsimp only at pe pn
      -- back in the def
      have un := J4.base
      rw [yfs, yex, ys0, yH0] at un
      have os4 : s4.os = s2.os := by have := J4.os; rw [ys0] at this; exact this
      have hok4 := J4.hok
      rw [yP, yw] at hok4
      have IX : Inv X pins σ H3 s4 := I2.call' os4 un hok4 J4.bare fun b hb => ⟨(f2 b hb).2.2.2.1, (f2 b hb).2.1, (f2 b hb).2.2.2.2.1, (f2 b hb).2.2.2.2.2⟩
      obtain ⟨mC, hnC, _⟩ := J4.loc
      rw [yl] at hnC
      have dX : FpOk X pins H3 s2.heap.objs.size := I2.fpOk (Nat.le_refl _) pn
      have IT : Inv X pins σ (upd H3 s2.heap.objs.size (.lst ys)) s4 := IX.track (o := .lst ys) pe pn dX.2.1 dX.2.2.2.1 dX.2.2.2.2.1 dX.2.2.2.2.2 ⟨hl, its, c, rv, pe⟩
      have cn : H3 P2.objs.size = none := by have := J4.free; rw [yl] at this; exact this
      have cX : FpOk X pins (upd H3 s2.heap.objs.size (.lst ys)) P2.objs.size := I2.fpOk hCle (by rw [upd_ne hDC.symm]; exact cn)
      exact hend _ _ ys H3 s4 mC IT hnC cX pn qn
    · have := T.item Y yP yw yK yc i _ s3 σ3 H3 (fun _ _ => False) J3 (fpo fr3) st3 go
      rw [yA] at this
      refine thn this fun r s4 ⟨u, hr, h4⟩ => ?_
      subst hr
      refine thn h4 fun _ s5 ⟨x, H5, J5, r5, y5, st5, fr5⟩ => ?_
      have J5' := J5.pinned (fpo fr5) (T.obj _ _ st5)
      have ga := hg _ s5 σ3 H5 x u _ J5' r5 (step x H5 y5)
      rw [yP, yw, yA, yx] at ga
      refine thn ga fun _ s6 ⟨σ6, H6, J6, q6⟩ => ?_
      have gt := ht _ s6 σ6 H6 _ J6 q6
      rw [yP, yw, yA, yx] at gt
      refine thn gt fun b s7 ⟨H7, J7, q7⟩ => ?_
      have pins7 : ∀ {σ' : St} {H' : Hp} {s' : Shared}, Inv Y ([(s2.heap.objs.size, ({ cls := .type "list", data := .seq its.toArray c } : Obj))] ++ pinsAt fp s5.heap) σ' H' s' → tn (i + 1) s'.heap ∧ (∀ b ∈ fp, H' b = none) := fun {σ' H' s'} J => by
        refine ⟨T.keep _ _ _ st5 fun b hb o e => (J.pin (b, o) (List.mem_append_right _ (List.mem_append_right _ (mem_pinsAt hb e)))).1, fun b hb => ?_⟩
        obtain ⟨o, e, d⟩ := T.obj _ _ st5 b hb
        exact (J.pin (b, o) (List.mem_append_right _ (List.mem_append_right _ (mem_pinsAt hb e)))).2.1
      cases b with
      | false =>
        have q7' : ∃ m', m' < n ∧ W (i + 1) m' ys σ6 H7 := by simpa using q7
        obtain ⟨m', hm, w7⟩ := q7'
        obtain ⟨t7, f7⟩ := pins7 J7
        rw [if_neg Bool.false_ne_true]
        exact ⟨m', hm, i + 1, ys, its, c, σ6, H7, J7.unpinned, rv, t7, f7, hz, w7⟩
      | true =>
        rw [if_pos rfl]
        have q7' : te σ6 H7 fun y H4 => ∃ m', m' < n ∧ W (i + 1) m' (ys ++ [y]) σ6 H4 := by simpa using q7
        have ge := he _ s7 σ6 H7 _ J7 q7'
        rw [yP, yw, yA, yx] at ge
        refine thn ge fun u8 s8 ⟨y, H8, J8, r8, m', hm, w8⟩ => ?_
        obtain ⟨t8, f8⟩ := pins7 J8
        have J8' := J8.unpinned
        obtain ⟨pe, pn, _, _, _⟩ := J8'.pin _ (List.mem_append_right _ (List.mem_singleton.mpr rfl))
        dsimp only at pe pn
        have hlen := rv.length
        refine call_meets F.slot_list_append ⟨_, pe, rfl⟩ F.entry_list_append (F.args_list_append_2 _ _) (PySem.list_append s2.heap.objs.size its.toArray c u8 (by rw [List.size_toArray]; omega)) ⟨pe, ?_⟩
        have qe := PySem.IsL.update pe (fun a => a.push u8)
        have qe' : (s8.heap.update s2.heap.objs.size (Obj.mapSeq fun a => a.push u8)).get? s2.heap.objs.size = some { cls := .type "list", data := .seq (its ++ [u8]).toArray (c + 1) } := by
          simpa using qe
        have J9 : Inv Y [] σ6 H8 { s8 with heap := s8.heap.update s2.heap.objs.size (Obj.mapSeq fun a => a.push u8), toks := s8.toks } := by
          have J0 : Inv Y [] σ6 H8 s8 := J8'.pins_of fun p hp => by cases hp
          refine J0.turned (it := s2.heap.objs.size) (fun b o hb e => (Heap.get?_update_other s8.heap _ (Ne.symm hb)).trans e) pn (by rw [yl]; exact hDC) (.inr (by rw [ys0]; exact Nat.le_refl _)) dne (fun p hp => ?_)
          rw [ypn] at hp
          cases hp
        refine ⟨m', hm, i + 1, ys ++ [y], its ++ [u8], c + 1, σ6, H8, pinD J9 qe' (fun v z => by cases z) pn, rv.append (.cons r8 .nil), ?_, f8, by rw [List.length_append, List.length_singleton]; omega, w8⟩
        exact T.keep _ _ _ t8 fun b hb o e => (Heap.get?_update_other s8.heap _ (fun (z : s2.heap.objs.size = b) => hDf (by rw [z]; exact hb))).trans e
  have yenv' : compEnvC sc (clOf X.env.cells sc.names []) P2.objs.size X.env = Y.env := yenv.symm
  show codeAny _ _ (.compStart _ 0 (.ref it) (.ref s2.heap.objs.size) (compEnvC sc (clOf X.env.cells sc.names []) P2.objs.size X.env)) _ _
  rw [yenv']
  exact codeAny_compStart_list (loop _ rfl) (T.self _ 0 _ _ _ (T.keep _ _ _ st2 fun b _ o e => old b o e) (loop _ rfl))

/-- [elt for tg in iter if ..] as a value -/
def tCompE (t : TC) : TE := fun σ H Q => t σ H fun ys H' => ∀ D, H' D = none → Q (.ref D) (upd H' D (.lst ys))
theorem pe_comp (hc : X.calm = true) (hi : PI X tg iter wi) (hk : sc.kind = .function) (hm : compOk X.N X.env.scope sc N mp = true)
    (hb : ∀ (cl : List (Str × Addr)) (C : Addr) (s₂ : Shared) (H₂ : Hp) (fp : List Addr), PG (cxComp X sc N cl C s₂ H₂ fp) tg g ∧ PCk (cxComp X sc N cl C s₂ H₂ fp) ifs tc ∧ PE (cxComp X sc N cl C s₂ H₂ fp) elt te)
    (hs : ∀ x, foldedSetIterable iter X.env x = pure x := by intro _; rfl) : PE X (.ListComp elt [⟨tg, iter, ifs, 0⟩] sc pos) (tCompE (tComp wi mp g tc te)) := by
  intro pins s σ H Q I h
  rw [eval_ListComp]
  refine comp_core (use := none) hc hi hk (compOk_of hm) hb I h hs fun D C ys H' s' m I' hn f hD q => ?_
  refine ⟨m, hn, fun h' hs' => ?_⟩
  obtain ⟨f0, f1, _, f3, f4, f5⟩ := f
  exact ⟨.ref D, _, I'.turned (t' := s'.toks) (it := C) (fun b o hb e => (hs'.2 b hb).trans e) f0 f1 f3 f4 f5, rfl, q D hD⟩
/-- x = [elt for tg in iter if ..], x a plain local -/
def tCompS (i : Nat) (t : TC) : TS := fun D σ H => t σ H fun ys H' => ∀ l, H' l = none → D.nx (σ.set i (some (.ref l))) (upd H' l (.lst ys))
theorem ps_comp {i : Nat} {x : Str} {py spos : Pos} (hN : X.N.Nodup) (hix : X.N[i]? = some x) (hx : X.env.scope.names.lookup x = some .local) (hc : X.calm = true) (hi : PI X tg iter wi) (hk : sc.kind = .function) (hm : compOk X.N X.env.scope sc N mp = true)
    (hb : ∀ (cl : List (Str × Addr)) (C : Addr) (s₂ : Shared) (H₂ : Hp) (fp : List Addr), PG (cxComp X sc N cl C s₂ H₂ fp) tg g ∧ PCk (cxComp X sc N cl C s₂ H₂ fp) ifs tc ∧ PE (cxComp X sc N cl C s₂ H₂ fp) elt te)
    (hsw : swapsWith (.ListComp elt [⟨tg, iter, ifs, 0⟩] sc pos) (some (.Name x py)) spos.line X.env = pure true := by rfl)
    (hs : ∀ x, foldedSetIterable iter X.env x = pure x := by intro _; rfl) : PS X (.Assign [.Name x py] (.ListComp elt [⟨tg, iter, ifs, 0⟩] sc pos) spos) (tCompS i (tComp wi mp g tc te)) := by
  intro pins s σ H D I h
  rw [exec_Assign_Name_used _ _ _ _ hsw]
  refine wpAny_bind (wpAny_standAt (wpAny_bind ?_))
  show wpAny _ X.A (do let _ ← comprehension (.ListComp elt [⟨tg, iter, ifs, 0⟩] sc pos) sc X.env _ (newList []) false (eval iter X.env) (some (assign (.Name x py) X.env))) _ _ s
  refine wpAny_bind (thn (comp_core (use := some (assign (.Name x py) X.env)) (Q := fun _ s' => SP X pins D .next s') hc hi hk (compOk_of hm) hb I h hs fun l C ys H' s' m I' hn f hD q => ?_) fun _ s' hq => wpAny_pure (wpAny_pure hq))
  obtain ⟨f0, f1, f2, f3, f4, f5⟩ := f
  show wpAny _ _ (assign (.Name x py) X.env (.ref l)) _ _ s'
  refine wpAny_assign_Name (store_ok2 (v := .ref l) I' hN hix (.inl hx) rfl (fun s'' I'' ⟨a, sb, ea⟩ => ?_) (.inr hx))
  have hac : C ≠ a := by
    rcases ea with e | e
    · rw [e]; exact f1
    · exact fun z => f4 x a e z.symm
  refine ⟨m, hn.sameBut sb hac, fun h' hs' => ?_⟩
  exact ⟨_, _, I''.turned (t' := s''.toks) (it := C) (fun b o hb e => (hs'.2 b hb).trans e) f0 f1 f3 f4 f5, q l hD⟩
end
end L2

set_option Elab.async false
set_option linter.all false
set_option maxRecDepth 100000
/-! Rules of our own: plain data (PyData) in the abstract heap, repr, ==, isinstance, ranges, slices. -/
namespace L2
open PySem PySem.Spec PyProof.Rows

/-! ### data -/
mutual
/-- the value stands for the data; the lists at S (they may change) are no part of it -/
def Rep (S : List Addr) (H : Hp) : PyData → V → Prop
  | .none, v => v = .non
  | .bool b, v => v = .bl b
  | .int i, v => v = .int i
  | .str x, v => v = .str x
  | .tuple ds, v => ∃ a xs, v = .ref a ∧ H a = some (.tup xs) ∧ Reps S H ds xs
  | .list ds, v => ∃ a xs, v = .ref a ∧ H a = some (.lst xs) ∧ a ∉ S ∧ Reps S H ds xs
  | .dict _, _ => False
def Reps (S : List Addr) (H : Hp) : List PyData → List V → Prop
  | [], xs => xs = []
  | d :: ds, xs => ∃ x r, xs = x :: r ∧ Rep S H d x ∧ Reps S H ds r
end
/-- what stays: all but the lists at S; the tuples anyway -/
structure Ext (S : List Addr) (H H' : Hp) : Prop where
  keep : ∀ b o, b ∉ S → H b = some o → H' b = some o
  tup : ∀ b xs, H b = some (.tup xs) → H' b = some (.tup xs)
theorem Ext.refl (S : List Addr) (H : Hp) : Ext S H H := ⟨fun _ _ _ e => e, fun _ _ e => e⟩
theorem Ext.trans {S : List Addr} {H H1 H2 : Hp} (a : Ext S H H1) (b : Ext S H1 H2) : Ext S H H2 := ⟨fun c o hc e => b.keep c o hc (a.keep c o hc e), fun c xs e => b.tup c xs (a.tup c xs e)⟩
theorem Ext.mono {S S' : List Addr} {H H' : Hp} (a : Ext S H H') (h : ∀ b ∈ S, b ∈ S') : Ext S' H H' := ⟨fun b o hb e => a.keep b o (fun z => hb (h b z)) e, a.tup⟩
theorem Ext.new {S : List Addr} {H : Hp} {p : Addr} {o : HO} (h : H p = none) : Ext S H (upd H p o) := ⟨fun b u _ e => by rw [upd_ne (ne_of_none e h)]; exact e, fun b xs e => by rw [upd_ne (ne_of_none e h)]; exact e⟩
theorem Ext.set {S : List Addr} {H : Hp} {p : Addr} {o : HO} {xs : List V} (hp : p ∈ S) (h : H p = some (.lst xs)) : Ext S H (upd H p o) :=
  ⟨fun b u hb e => by rw [upd_ne (fun (z : b = p) => hb (by rw [z]; exact hp))]; exact e, fun b ys e => by rw [upd_ne (fun z => by rw [z, h] at e; cases e)]; exact e⟩
/-- .. where p is new ahead of H0 -/
theorem Ext.set' {S : List Addr} {H0 H : Hp} {p : Addr} {o : HO} {xs : List V} (a : Ext S H0 H) (h0 : H0 p = none) (h : H p = some (.lst xs)) : Ext S H0 (upd H p o) :=
  ⟨fun b u hb e => by rw [upd_ne (fun z => by rw [z, h0] at e; cases e)]; exact a.keep b u hb e, fun b ys e => by rw [upd_ne (fun z => by rw [z, h0] at e; cases e)]; exact a.tup b ys e⟩
theorem Ext.fresh {S : List Addr} {H0 H : Hp} {p : Addr} (a : Ext S H0 H) (hp : p ∉ S) (h : H p = none) : H0 p = none := by
  cases e : H0 p with
  | none => rfl
  | some o => rw [a.keep p o hp e] at h; cases h

mutual
theorem Rep.ext {S : List Addr} {H H' : Hp} (x : Ext S H H') : ∀ {d : PyData} {v : V}, Rep S H d v → Rep S H' d v
  | .none, _, h => h
  | .bool _, _, h => h
  | .int _, _, h => h
  | .str _, _, h => h
  | .tuple ds, _, h => by
    unfold Rep at h ⊢
    obtain ⟨a, xs, e, ha, hr⟩ := h
    exact ⟨a, xs, e, x.tup a xs ha, Reps.ext x hr⟩
  | .list ds, _, h => by
    unfold Rep at h ⊢
    obtain ⟨a, xs, e, ha, hs, hr⟩ := h
    exact ⟨a, xs, e, x.keep a _ hs ha, hs, Reps.ext x hr⟩
  | .dict _, _, h => h
theorem Reps.ext {S : List Addr} {H H' : Hp} (x : Ext S H H') : ∀ {ds : List PyData} {vs : List V}, Reps S H ds vs → Reps S H' ds vs
  | [], _, h => h
  | d :: ds, _, h => by
    unfold Reps at h ⊢
    obtain ⟨y, r, e, h1, h2⟩ := h
    exact ⟨y, r, e, Rep.ext x h1, Reps.ext x h2⟩
end

mutual
theorem Rep.less {S S' : List Addr} {H : Hp} (x : ∀ b ∈ S', b ∈ S) : ∀ {d : PyData} {v : V}, Rep S H d v → Rep S' H d v
  | .none, _, h => h
  | .bool _, _, h => h
  | .int _, _, h => h
  | .str _, _, h => h
  | .tuple ds, _, h => by
    unfold Rep at h ⊢
    obtain ⟨a, xs, e, ha, hr⟩ := h
    exact ⟨a, xs, e, ha, Reps.less x hr⟩
  | .list ds, _, h => by
    unfold Rep at h ⊢
    obtain ⟨a, xs, e, ha, hs, hr⟩ := h
    exact ⟨a, xs, e, ha, fun z => hs (x a z), Reps.less x hr⟩
  | .dict _, _, h => h
theorem Reps.less {S S' : List Addr} {H : Hp} (x : ∀ b ∈ S', b ∈ S) : ∀ {ds : List PyData} {vs : List V}, Reps S H ds vs → Reps S' H ds vs
  | [], _, h => h
  | d :: ds, _, h => by
    unfold Reps at h ⊢
    obtain ⟨y, r, e, h1, h2⟩ := h
    exact ⟨y, r, e, Rep.less x h1, Reps.less x h2⟩
end
section
variable {S : List Addr} {H : Hp}
theorem Reps.nil : Reps S H [] [] := by unfold Reps; rfl
theorem Reps.cons {d : PyData} {x : V} {ds : List PyData} {xs : List V} (h : Rep S H d x) (t : Reps S H ds xs) : Reps S H (d :: ds) (x :: xs) := by unfold Reps; exact ⟨x, xs, rfl, h, t⟩
theorem Reps.of_cons {d : PyData} {ds : List PyData} {xs : List V} (h : Reps S H (d :: ds) xs) : ∃ x r, xs = x :: r ∧ Rep S H d x ∧ Reps S H ds r := by unfold Reps at h; exact h
theorem Reps.of_nil {xs : List V} (h : Reps S H [] xs) : xs = [] := by unfold Reps at h; exact h
theorem Reps.length : ∀ {ds : List PyData} {xs : List V}, Reps S H ds xs → xs.length = ds.length
  | [], _, h => by rw [h.of_nil]; rfl
  | _ :: _, _, h => by
    obtain ⟨x, r, e, _, h2⟩ := h.of_cons
    subst e
    simp [h2.length]
theorem Reps.get : ∀ {ds : List PyData} {xs : List V} {i : Nat} {x : V}, Reps S H ds xs → xs[i]? = some x → ∃ d, ds[i]? = some d ∧ Rep S H d x
  | [], _, i, x, h, e => by rw [h.of_nil] at e; cases e
  | d :: ds, _, 0, x, h, e => by
    obtain ⟨y, r, e1, h1, h2⟩ := h.of_cons
    subst e1
    cases e
    exact ⟨d, rfl, h1⟩
  | d :: ds, _, i + 1, x, h, e => by
    obtain ⟨y, r, e1, h1, h2⟩ := h.of_cons
    subst e1
    obtain ⟨d', q, h3⟩ := Reps.get (i := i) h2 (by simpa using e)
    exact ⟨d', by simpa using q, h3⟩
theorem Reps.at : ∀ {ds : List PyData} {xs : List V} {i : Nat} {d : PyData}, Reps S H ds xs → ds[i]? = some d → ∃ x, xs[i]? = some x ∧ Rep S H d x
  | [], _, i, d, h, e => by cases e
  | d :: ds, _, 0, d', h, e => by
    obtain ⟨y, r, e1, h1, h2⟩ := h.of_cons
    subst e1
    cases e
    exact ⟨y, rfl, h1⟩
  | d :: ds, _, i + 1, d', h, e => by
    obtain ⟨y, r, e1, h1, h2⟩ := h.of_cons
    subst e1
    obtain ⟨x, q, h3⟩ := Reps.at (i := i) h2 (by simpa using e)
    exact ⟨x, by simpa using q, h3⟩
theorem Reps.append : ∀ {ds es : List PyData} {xs ys : List V}, Reps S H ds xs → Reps S H es ys → Reps S H (ds ++ es) (xs ++ ys)
  | [], _, _, _, h, k => by rw [h.of_nil]; exact k
  | d :: ds, _, _, _, h, k => by
    obtain ⟨y, r, e1, h1, h2⟩ := h.of_cons
    subst e1
    exact .cons h1 (Reps.append h2 k)
theorem Reps.take : ∀ {ds : List PyData} {xs : List V} (n : Nat), Reps S H ds xs → Reps S H (ds.take n) (xs.take n)
  | _, _, 0, _ => .nil
  | [], _, n + 1, h => by rw [h.of_nil]; exact .nil
  | d :: ds, _, n + 1, h => by
    obtain ⟨y, r, e1, h1, h2⟩ := h.of_cons
    subst e1
    exact .cons h1 (Reps.take n h2)
theorem Reps.drop : ∀ {ds : List PyData} {xs : List V} (n : Nat), Reps S H ds xs → Reps S H (ds.drop n) (xs.drop n)
  | _, _, 0, h => h
  | [], _, n + 1, h => by rw [h.of_nil]; exact .nil
  | d :: ds, _, n + 1, h => by
    obtain ⟨y, r, e1, h1, h2⟩ := h.of_cons
    subst e1
    exact Reps.drop n h2
theorem Reps.reverse : ∀ {ds : List PyData} {xs : List V}, Reps S H ds xs → Reps S H ds.reverse xs.reverse
  | [], _, h => by rw [h.of_nil]; exact .nil
  | d :: ds, _, h => by
    obtain ⟨y, r, e1, h1, h2⟩ := h.of_cons
    subst e1
    rw [List.reverse_cons, List.reverse_cons]
    exact (Reps.reverse h2).append (.cons h1 .nil)
theorem Reps.eraseIdx : ∀ {ds : List PyData} {xs : List V} (n : Nat), Reps S H ds xs → Reps S H (ds.eraseIdx n) (xs.eraseIdx n)
  | [], _, n, h => by rw [h.of_nil]; exact .nil
  | d :: ds, _, 0, h => by
    obtain ⟨y, r, e1, h1, h2⟩ := h.of_cons
    subst e1
    exact h2
  | d :: ds, _, n + 1, h => by
    obtain ⟨y, r, e1, h1, h2⟩ := h.of_cons
    subst e1
    exact .cons h1 (Reps.eraseIdx n h2)
theorem Reps.ints : ∀ (ns : List Int), Reps S H (ns.map PyData.int) (ns.map V.int)
  | [] => .nil
  | n :: ns => .cons (by unfold Rep; rfl) (Reps.ints ns)
theorem Rep.tup {a : Addr} {xs : List V} {ds : List PyData} (h : H a = some (.tup xs)) (r : Reps S H ds xs) : Rep S H (.tuple ds) (.ref a) := by unfold Rep; exact ⟨a, xs, rfl, h, r⟩
theorem Rep.lst {a : Addr} {xs : List V} {ds : List PyData} (h : H a = some (.lst xs)) (hs : a ∉ S) (r : Reps S H ds xs) : Rep S H (.list ds) (.ref a) := by unfold Rep; exact ⟨a, xs, rfl, h, hs, r⟩
theorem Rep.int (i : Int) : Rep S H (.int i) (.int i) := by unfold Rep; rfl
theorem Rep.bl (b : Bool) : Rep S H (.bool b) (.bl b) := by unfold Rep; rfl
theorem Rep.non : Rep S H .none .non := by unfold Rep; rfl
theorem Rep.str (x : Str) : Rep S H (.str x) (.str x) := by unfold Rep; rfl
theorem Rep.of_tup {ds : List PyData} {v : V} (h : Rep S H (.tuple ds) v) : ∃ a xs, v = .ref a ∧ H a = some (.tup xs) ∧ Reps S H ds xs := by unfold Rep at h; exact h
theorem Rep.of_lst {ds : List PyData} {v : V} (h : Rep S H (.list ds) v) : ∃ a xs, v = .ref a ∧ H a = some (.lst xs) ∧ a ∉ S ∧ Reps S H ds xs := by unfold Rep at h; exact h
theorem Rep.of_int {i : Int} {v : V} (h : Rep S H (.int i) v) : v = .int i := by unfold Rep at h; exact h
theorem Rep.of_bl {b : Bool} {v : V} (h : Rep S H (.bool b) v) : v = .bl b := by unfold Rep at h; exact h
theorem Rep.of_str {x : Str} {v : V} (h : Rep S H (.str x) v) : v = .str x := by unfold Rep at h; exact h
theorem Rep.of_non {v : V} (h : Rep S H .none v) : v = .non := by unfold Rep at h; exact h
end

/-! ### data is read by the model -/
mutual
theorem Rep.reads {P : Program} {w : World} {S : List Addr} {H : Hp} {h : Heap} (ok : HOk P w H h) : ∀ {d : PyData} {v : V} {u : Value}, Rep S H d v → RelV v u → ∃ as, Reads h u d as
  | .none, v, u, r, q => by cases r.of_non; cases (show u = Value.none from q); exact ⟨_, .none⟩
  | .bool b, v, u, r, q => by cases r.of_bl; cases (show u = Value.bool b from q); exact ⟨_, .bool b⟩
  | .int i, v, u, r, q => by cases r.of_int; obtain ⟨t, e⟩ := (show ∃ t, u = Value.int i t from q); cases e; exact ⟨_, .int i t⟩
  | .str x, v, u, r, q => by cases r.of_str; obtain ⟨t, e⟩ := (show ∃ t, u = Value.str x t from q); cases e; exact ⟨_, .str x t⟩
  | .tuple ds, v, u, r, q => by
    obtain ⟨a, xs, rfl, ha, hr⟩ := r.of_tup
    cases (show u = Value.ref a from q)
    obtain ⟨_, its, rv, o, e, c, n, d⟩ := ok a _ ha
    obtain ⟨as, ra⟩ := Reps.reads ok hr rv
    exact ⟨_, .tuple e c d (by simpa using ra)⟩
  | .list ds, v, u, r, q => by
    obtain ⟨a, xs, rfl, ha, _, hr⟩ := r.of_lst
    cases (show u = Value.ref a from q)
    obtain ⟨_, its, n, rv, e⟩ := ok a _ ha
    obtain ⟨as, ra⟩ := Reps.reads ok hr rv
    exact ⟨_, .list e rfl rfl (by simpa using ra)⟩
  | .dict _, v, u, r, q => by unfold Rep at r; exact r.elim
theorem Reps.reads {P : Program} {w : World} {S : List Addr} {H : Hp} {h : Heap} (ok : HOk P w H h) : ∀ {ds : List PyData} {xs : List V} {us : List Value}, Reps S H ds xs → Vals xs us → ∃ as, ReadsAll h us ds as
  | [], xs, us, r, q => by
    cases r.of_nil
    cases q
    exact ⟨_, .nil⟩
  | d :: ds, xs, us, r, q => by
    obtain ⟨x, t, rfl, h1, h2⟩ := r.of_cons
    cases q with
    | cons q1 q2 =>
      obtain ⟨as, a1⟩ := Rep.reads ok h1 q1
      obtain ⟨bs, b1⟩ := Reps.reads ok h2 q2
      exact ⟨_, .cons a1 b1⟩
end

/-! ### what is good to show and to compare -/
structure Good (d : PyData) : Prop where
  lay : d.canLay0 = true
  show' : d.showable = true
  short : d.leavesShort 60 = true
  deep : d.depth ≤ 60
  light : d.weight ≤ 200000
theorem Good.nodict {d : PyData} (g : Good d) : d.hasDict = false := PyData.hasDict_of_canLay d g.lay
theorem Good.fits {d : PyData} (g : Good d) : d.shown.length ≤ sizeLine := by
  have h := PyData.shown_le 60 (by decide) d g.short
  have h2 := g.light
  rw [sizeLine_eq]
  omega

section
variable {X : Cx} {k : Nat}
theorem call_reprD (hr : Room k X.A) : CallR X (.builtin "repr") (fun xs H Q => ∃ S d v, xs = [v] ∧ Rep S H d v ∧ Good d ∧ Q (.str d.shown) H) := by
  intro pins s σ H xs us Q I r h
  obtain ⟨S, d, v, rfl, rp, g, q⟩ := h
  obtain ⟨u, rfl, ru⟩ := vals1 r
  have hun := hr.units
  have fin : ∀ (h' : Heap) (t : Tok) (tk : Nat), (∀ b o, s.heap.get? b = some o → h'.get? b = some o) → EP X pins σ Q (.str d.shown t) { s with heap := h', toks := tk } := fun h' t tk kp => ⟨.str d.shown, H, I.kept kp, ⟨t, rfl⟩, q⟩
  have fin0 : ∀ (t : Tok) (tk : Nat), EP X pins σ Q (.str d.shown t) { s with toks := tk } := fun t tk => fin s.heap t tk fun _ _ e => e
  cases d with
  | none => cases rp.of_non; cases (show u = Value.none from ru); exact P.repr_of_none (fin0 _ _)
  | bool b => cases rp.of_bl; cases (show u = Value.bool b from ru); exact P.repr_of_bool (fin0 _ _)
  | int i => cases rp.of_int; obtain ⟨t, e⟩ := (show ∃ t, u = Value.int i t from ru); cases e; exact P.repr_of_int (by simpa [PyData.showable] using g.show') (fin0 _ _)
  | str x => cases rp.of_str; obtain ⟨t, e⟩ := (show ∃ t, u = Value.str x t from ru); cases e; exact P.repr_of_str (fin0 _ _) g.fits
  | tuple ds =>
    obtain ⟨as, ra⟩ := rp.reads I.hok ru
    obtain ⟨a, xs, rfl, _⟩ := rp.of_tup
    cases (show u = Value.ref a from ru)
    exact repr_of_reads' ra g.show' (PyData.noDict_hsm g.nodict) hr.gd (by have := g.deep; omega) (fun _ _ e => e) (fun h' t tk kp => fin h' t tk kp) g.fits
  | list ds =>
    obtain ⟨as, ra⟩ := rp.reads I.hok ru
    obtain ⟨a, xs, rfl, _⟩ := rp.of_lst
    cases (show u = Value.ref a from ru)
    exact repr_of_reads' ra g.show' (PyData.noDict_hsm g.nodict) hr.gd (by have := g.deep; omega) (fun _ _ e => e) (fun h' t tk kp => fin h' t tk kp) g.fits
  | dict _ => unfold Rep at rp; exact rp.elim
/-- data compared -/
def rEqD (neg : Bool) : R2 := fun x y H Q => ∃ S dx dy, Rep S H dx x ∧ Rep S H dy y ∧ dx.canLay0 = true ∧ dy.canLay0 = true ∧ dx.depth ≤ 60 ∧ Q (.bl (if neg then !PyData.eqv dx dy else PyData.eqv dx dy)) H
theorem op_eqD (hr : Room k X.A) : OpR X (compareOp .Eq) (rEqD false) := by
  intro pins s σ H x y v u Q I rx ry h
  obtain ⟨S, dx, dy, h1, h2, c1, c2, d1, q⟩ := h
  obtain ⟨as, ra⟩ := h1.reads I.hok rx
  obtain ⟨bs, rb⟩ := h2.reads I.hok ry
  have hun := hr.units
  exact SeqAt.compareEq_reads ra rb c1 c2 (by omega) ⟨.bl _, H, I, rfl, q⟩
theorem op_neD (hr : Room k X.A) : OpR X (compareOp .NotEq) (rEqD true) := by
  intro pins s σ H x y v u Q I rx ry h
  obtain ⟨S, dx, dy, h1, h2, c1, c2, d1, q⟩ := h
  obtain ⟨as, ra⟩ := h1.reads I.hok rx
  obtain ⟨bs, rb⟩ := h2.reads I.hok ry
  have hun := hr.units
  exact SeqAt.compareNe_reads ra rb c1 c2 (by omega) ⟨.bl _, H, I, rfl, q⟩

/-! ### isinstance against a built-in type -/
theorem call_isi : CallR X (.builtin "isinstance") (fun xs H Q => ∃ x t c b, xs = [x, .ty c] ∧ TyOf X.K H x (.type t) ∧ PySem.W.kitOne X.K (.type t) (.type c) = some b ∧ Q (.bl b) H) := by
  intro pins s σ H xs us Q I r h
  obtain ⟨x, t, c, b, rfl, ty, e, q⟩ := h
  obtain ⟨u, u2, rfl, rx, rc⟩ := vals2 r
  cases (show u2 = Value.type c from rc)
  exact isinst_ok I rx ty e fun tk => ⟨.bl b, H, I.tok tk, rfl, q⟩
end

/-- the type of data -/
def tyD : PyData → String
  | .none => "NoneType"
  | .bool _ => "bool"
  | .int _ => "int"
  | .str _ => "str"
  | .list _ => "list"
  | .tuple _ => "tuple"
  | .dict _ => "dict"
theorem Rep.ty {K : PySem.W.Frag} {S : List Addr} {H : Hp} {d : PyData} {v : V} (h : Rep S H d v) : TyOf K H v (.type (tyD d)) := by
  cases d with
  | none => cases h.of_non; exact .non
  | bool b => cases h.of_bl; exact .bl b
  | int i => cases h.of_int; exact .int i
  | str x => cases h.of_str; exact .str x
  | tuple ds => obtain ⟨a, xs, rfl, ha, _⟩ := h.of_tup; exact .tup ha
  | list ds => obtain ⟨a, xs, rfl, ha, _⟩ := h.of_lst; exact .lst ha
  | dict _ => unfold Rep at h; exact h.elim
end L2

set_option Elab.async false
set_option linter.all false
set_option maxRecDepth 100000
/-! Rules of our own: ranges as values, tuple(range), slices of tuples, sums of tuples, insert, min and max of a tuple. -/
namespace PySem
open Sem (wp)
open AutoSeq1 (wpAny_loadPart')
section
variable {prog : Program} {w : World} {A : Around} {E : Value → Shared → Prop} {s : Shared}
end
end PySem
namespace L2
open PySem PySem.Spec PyProof.Rows
/-! ### ranges as values -/
def rngV (lo hi : Int) : List V := (List.range (hi - lo).toNat).map fun (k : Nat) => V.int (lo + k)
section
variable {X : Cx}
theorem call_rng : CallR X (.type "range") (fun xs H Q => ∃ j : Int, xs = [.int j] ∧ ∀ p, H p = none → Q (.ref p) (upd H p (.rng 0 j))) := by
  intro pins s σ H xs us Q I r h
  obtain ⟨j, rfl, q⟩ := h
  obtain ⟨u, rfl, ru⟩ := vals1 r
  obtain ⟨t, rfl⟩ := ru
  refine call_range_1 ?_
  refine ⟨.ref s.heap.objs.size, _, I.laid (o := .rng 0 j) (fun b o e => Heap.get?_push_of_some _ e) (Nat.le_refl _) ⟨_, _, _, Heap.get?_push_size _ rfl⟩, rfl, q _ (I.hok.fresh (Nat.le_refl _))⟩
theorem items_rng {lo hi : Int} {acc : Array Value} (h : ItemsOf (fun i v => ∃ t, v = Value.int (lo + i * 1) t) acc (hi - lo).toNat) : Vals (rngV lo hi) acc.toList := by
  obtain ⟨hs, hi'⟩ := h
  unfold rngV
  have : ∀ (l : List Value) (k : Nat), (∀ j v, l[j]? = some v → ∃ t, v = Value.int (lo + ((k + j : Nat) : Int)) t) → Vals ((List.range' k l.length).map fun (k : Nat) => V.int (lo + k)) l := by
    intro l
    induction l with
    | nil => intro k _; exact .nil
    | cons v l ih =>
      intro k hv
      rw [List.length_cons, List.range'_succ, List.map_cons]
      refine .cons (hv 0 v rfl) (ih (k + 1) fun j w hw => ?_)
      obtain ⟨t, e⟩ := hv (j + 1) w (by simpa using hw)
      exact ⟨t, by rw [e]; congr 2; omega⟩
  have q := this acc.toList 0 fun j v hv => by
    obtain ⟨t, e⟩ := hi' j v (by simpa using hv)
    exact ⟨t, by rw [e, Int.mul_one, Nat.zero_add]⟩
  rw [List.range_eq_range', ← hs]
  simpa using q
theorem rng_size (lo hi : Int) : Builtin.Range.rangeSize lo hi 1 = ((hi - lo).toNat : Int) := by rw [rangeSize_one]; split <;> omega
theorem call_list_rng (hc : X.calm = true) : CallR X (.type "list") (fun xs H Q => ∃ p lo hi, xs = [.ref p] ∧ H p = some (.rng lo hi) ∧ (-(2 ^ 62) ≤ lo ∧ lo < 2 ^ 62 ∧ -(2 ^ 62) ≤ hi ∧ hi < 2 ^ 62) ∧ (hi - lo).toNat ≤ 2 ^ 24 ∧ ∀ l, H l = none → Q (.ref l) (upd H l (.lst (rngV lo hi)))) := by
  intro pins s σ H xs us Q I r h
  obtain ⟨p, lo, hi, rfl, hp, ⟨h1, h2, h3, h4⟩, hl, q⟩ := h
  obtain ⟨u, rfl, ru⟩ := vals1 r
  cases ru
  obtain ⟨t, u, v, e⟩ := I.hok p _ hp
  refine call_list_range (I.ok.hd hc) e (small_one h1 h2 h3 h4) (rng_size lo hi) hl fun h' tk acc' c' kp e' hi' => ?_
  have hv := items_rng hi'
  have hlen := hv.length
  have hr : (rngV lo hi).length ≤ sizeLine := by
    unfold rngV; rw [List.length_map, List.length_range, sizeLine_eq]; omega
  refine ⟨.ref s.heap.objs.size, _, I.laid kp (Nat.le_refl _) (show ObjOk X.prog X.w _ h' _ (.lst (rngV lo hi)) from ⟨hr, acc'.toList, c', hv, by simpa using e'⟩), rfl, q _ (I.hok.fresh (Nat.le_refl _))⟩
/-! ### insert -/
def rInsert : V → List V → Hp → VK → Prop := fun x vs H Q => ∃ l xs i y, x = .ref l ∧ vs = [.int i, y] ∧ H l = some (.lst xs) ∧ xs.length < sizeLine ∧ 0 ≤ i ∧ i < 2 ^ 62 ∧ Q .non (upd H l (.lst (xs.take i.toNat ++ y :: xs.drop i.toNat)))
theorem mt_insert : MtM X "list.insert" rInsert := by
  intro pins s σ H x vs v us Q I rx rv h
  obtain ⟨l, xs, i, y, rfl, rfl, hH, hz, h0, h1, q⟩ := h
  cases rx
  obtain ⟨u, u2, rfl, ⟨t, e1⟩, ru⟩ := rv.two
  subst e1
  obtain ⟨z, its, n, r, hl, e⟩ := I.lstM hH
  refine call_meets F.slot_list_insert ⟨_, e, rfl⟩ F.entry_list_insert (F.args_list_insert_3 _ _ _) (AutoSeq1.list_insert_list_int_val_1 l its.toArray n i t u2 (by rw [fitsIndex_both (by omega) (by omega)]; decide) (by rw [List.size_toArray]; omega)) ⟨e, ?_⟩
  refine ⟨.non, _, I.lset (its' := its.take i.toNat ++ u2 :: its.drop i.toNat) hH e ?_ ((r.take i.toNat).append (.cons ru (r.drop i.toNat))) ?_, rfl, q⟩
  · have hi : ¬ i < 0 := by omega
    simp only [if_neg hi, List.size_toArray]
    apply Array.ext'
    simp
    by_cases hc : i.toNat ≤ its.length
    · rw [Nat.min_eq_left hc, show (its.drop i.toNat).take (its.length - i.toNat) = its.drop i.toNat from List.take_of_length_le (by rw [List.length_drop]; exact Nat.le_refl _)]
    · rw [Nat.min_eq_right (by omega)]
      simp [List.take_of_length_le (show its.length ≤ i.toNat by omega), List.drop_of_length_le (show its.length ≤ i.toNat by omega)]
  · rw [List.length_append, List.length_take, List.length_cons, List.length_drop]
    omega
end

/-! ### short words -/
section
variable {X : Cx}
theorem pe_ty (T : String) {x : Str} {pos : Pos} (hg : Gl X x) (hm : X.mg x = none) (hv : bootBuiltins x = some (.type T)) (hn : x ≠ "__name__" := by decide) (hd : (x == ("__debug__" : Str)) = false := by decide) : PE X (.Name x pos) (tC (.ty T)) := pe_bltn hg hm hv rfl hn hd
/-- a statement, then what holds behind it, then the rest -/
def tCut (t u : TS) : TS := fun D σ H => ∃ M : St → Hp → Prop, t { D with nx := M } σ H ∧ ∀ σ' H', M σ' H' → u D σ' H'
theorem pss_cut {st : Stmt} {rest : List Stmt} {t u : TS} (h1 : PS X st t) (h2 : PSs X rest u) : PSs X (st :: rest) (tCut t u) := by
  intro pins s σ H D I h
  obtain ⟨M, q, k⟩ := h
  refine wpAny_execs_cons (thn (h1 pins s σ H { D with nx := M } I q) fun f s1 e => ?_)
  cases f with
  | next => obtain ⟨σ1, H1, I1, m1⟩ := e; exact h2 pins s1 σ1 H1 D I1 (k σ1 H1 m1)
  | brk => exact e
  | cont => exact e
  | ret u => exact e
theorem atI_ex {α : Type} {xs : List α} {i : Int} (h0 : 0 ≤ i) (h1 : i < xs.length) : ∃ v, atI xs i = some v ∧ xs[i.toNat]? = some v := by
  have hlt : i.toNat < xs.length := by omega
  refine ⟨xs[i.toNat], ?_, by simp [hlt]⟩
  unfold atI ixN
  rw [if_pos h0, if_pos h1]
  simp [hlt]
end

/-! ### argument lists, looked at quickly -/
def notStar : Expr → Bool
  | .Starred .. => false
  | _ => true
theorem starEach_ns {e : Expr} {es : List Expr} {env : Env} (h : notStar e = true) : starEach (e :: es) env = (false, eval e env) :: starEach es env := by
  cases e <;> first | rfl | cases h
theorem backTo_ns {pos : Pos} {env : Env} : ∀ {es : List Expr}, es.all notStar = true → (backTo pos (starEach es env)).any (·.1) = false
  | [], _ => rfl
  | e :: es, h => by
    rw [List.all_cons, Bool.and_eq_true] at h
    rw [starEach_ns h.1]
    show (backTo pos ((false, eval e env) :: starEach es env)).any (·.1) = false
    have ih := backTo_ns (pos := pos) (env := env) h.2
    show (false || (backTo pos (starEach es env)).any (·.1)) = false
    rw [ih]
    rfl
theorem backTo_all {pos : Pos} {env : Env} : ∀ {es : List Expr}, es.all notStar = true → (backTo pos (starEach es env)).all (fun x => !x.1) = true
  | [], _ => rfl
  | e :: es, h => by
    rw [List.all_cons, Bool.and_eq_true] at h
    rw [starEach_ns h.1]
    have ih := backTo_all (pos := pos) (env := env) h.2
    show (true && (backTo pos (starEach es env)).all (fun x => !x.1)) = true
    rw [ih]
    rfl
theorem ns_hd {e : Expr} {es : List Expr} (h : (e :: es).all notStar = true) : notStar e = true ∧ es.all notStar = true := by
  rw [List.all_cons, Bool.and_eq_true] at h
  exact h
end L2

set_option Elab.async false
set_option linter.all false
set_option maxRecDepth 100000
/-! The judgements as structures (so that no elaborator unfolds them), and the rules over them: q.. for p... -/
namespace L2
open PySem PySem.Spec PyProof.Rows
structure QE (X : Cx) (e : Expr) (t : TE) : Prop where run : PE X e t
structure QT (X : Cx) (e : Expr) (t : TT) : Prop where run : PT X e t
structure QW (X : Cx) (e : Expr) (t : TT) : Prop where run : PW X e t
structure QA (X : Cx) (es : List Expr) (t : TA) : Prop where
  run : PA X es t
  ns : es.all notStar = true
structure QS (X : Cx) (st : Stmt) (t : TS) : Prop where run : PS X st t
structure QSs (X : Cx) (st : List Stmt) (t : TS) : Prop where run : PSs X st t
structure QG (X : Cx) (e : Expr) (t : TG) : Prop where run : PG X e t
structure QGs (X : Cx) (es : List Expr) (t : TGs) : Prop where run : PGs X es t
structure QI (X : Cx) (tg iter : Expr) (t : TI) : Prop where run : PI X tg iter t
structure QO (X : Cx) (e : Option Expr) (t : TO) : Prop where run : PO X e t
structure QK (X : Cx) (ifs : List Expr) (t : TT) : Prop where run : PCk X ifs t
section
variable {X : Cx} {a b c e o i' tg iter elt : Expr} {es : List Expr} {ta tb tc te to ti : TE} {tA tB' : TT} {t : TA} {pos p apos cpos p2 : Pos} {k : Nat} {x name : Str} {ps : List Str} {sp : Sp} {id T : String} {rest : List Expr}
theorem qv (i : Nat) {x : Str} {pos : Pos} (hN : X.N[i]? = some x := by rfl) (hv : Vis X.env.scope x := by first | exact Or.inl rfl | exact Or.inr (Or.inl rfl) | exact Or.inr (Or.inr rfl)) (hd : (x == ("__debug__" : Str)) = false := by decide)
    (hcd : (x == ("__classdict__" : Str)) = false := by decide) : QE X (.Name x pos) (tVar i) := ⟨pe_var hN hv hd hcd⟩
theorem qe_int {i j pos} : QE X (.Constant (.int i) j pos) (tC (.int i)) := ⟨pe_int⟩
theorem qe_bl {b j pos} : QE X (.Constant (.bool b) j pos) (tC (.bl b)) := ⟨pe_bl⟩
theorem qe_non {j pos} : QE X (.Constant .none j pos) (tC .non) := ⟨pe_non⟩
theorem qe_str {x j pos} : QE X (.Constant (.str x) j pos) (tC (.str x)) := ⟨pe_str⟩
theorem qe_ty (T : String) {x : Str} {pos : Pos} (hg : Gl X x) (hm : X.mg x = none) (hv : bootBuiltins x = some (.type T)) (hn : x ≠ "__name__" := by decide) (hd : (x == ("__debug__" : Str)) = false := by decide) : QE X (.Name x pos) (tC (.ty T)) := ⟨pe_ty T hg hm hv hn hd⟩
theorem qe_op {op : Operator} {r : R2} (ho : OpR X (binaryOp op) r) (ha : QE X a ta) (hb : QE X b tb) : QE X (.BinOp a op b pos) (tOp r ta tb) := ⟨pe_op ho ha.run hb.run⟩
theorem qe_un {op : UnaryOp} {r : V → Hp → VK → Prop} (ho : UnR X (unaryOp op) r) (ha : QE X a ta) : QE X (.UnaryOp op a pos) (tUn r ta) := ⟨pe_un ho ha.run⟩
theorem qe_cmpR {op : CmpOp} {r : R2} (ho : OpR X (compareOp op) r) (ha : QE X a ta) (hb : QE X b tb) (hm : behindInMarks op b = false) : QE X (.Compare a [op] [b] pos) (tOp r ta tb) := ⟨pe_cmpR ho ha.run hb.run hm⟩
theorem qt_cmpR {op : CmpOp} {r : R2} (ho : OpR X (compareOp op) r) (ha : QE X a ta) (hb : QE X b tb) (hm : behindInMarks op b = false) : QT X (.Compare a [op] [b] pos) (tTest (tOp r ta tb)) := ⟨pt_cmpR ho ha.run hb.run hm⟩
theorem qe_chain {op op' : CmpOp} {r r' : R2} (ho : OpR X (compareOp op) r) (ho' : OpR X (compareOp op') r') (ha : QE X a ta) (hb : QE X b tb) (hc : QE X c tc)
    (hm : lastMarks [op, op'] [b, c] = false := by with_unfolding_all rfl) : QE X (.Compare a [op, op'] [b, c] pos) (tChain r r' ta tb tc) := ⟨pe_chain ho ho' ha.run hb.run hc.run hm⟩
theorem qt_val (h : QE X e te) (he : ∀ whole, isTrue e X.env whole = (do let v ← whole; standAt e.pos; holding [v] (truthy v)) := by intro _; rfl) : QT X e (tB te) := ⟨pt_val h.run he⟩
theorem qw_and1 (ha : QT X a tA) : QW X (.BoolOp .And [a] pos) tA := ⟨pw_and1 ha.run⟩
theorem qw_or1 (ha : QT X a tA) : QW X (.BoolOp .Or [a] pos) tA := ⟨pw_or1 ha.run⟩
theorem qw_and (ha : QT X a tA) (hb : QW X (.BoolOp .And (b :: rest) pos) tB') : QW X (.BoolOp .And (a :: b :: rest) pos) (tAnd tA tB') := ⟨pw_and ha.run hb.run⟩
theorem qw_or (ha : QT X a tA) (hb : QW X (.BoolOp .Or (b :: rest) pos) tB') : QW X (.BoolOp .Or (a :: b :: rest) pos) (tOr tA tB') := ⟨pw_or ha.run hb.run⟩
theorem QW.pt (h : QW X e tA) : QT X e tA := ⟨h.run.pt⟩
theorem qt_not (ha : QT X a tA) : QT X (.UnaryOp .Not a pos) (tNot tA) := ⟨pt_not ha.run⟩
theorem qe_one {op} (h : QE X a ta) : QE X (.BoolOp op [a] pos) ta := ⟨pe_one h.run⟩
theorem qe_and (ha : QE X a ta) (hb : QE X (.BoolOp .And (b :: rest) pos) tb) : QE X (.BoolOp .And (a :: b :: rest) pos) (tAndV ta tb) := ⟨pe_and ha.run hb.run⟩
theorem qe_not (ha : QE X a ta) : QE X (.UnaryOp .Not a pos) (tNotV ta) := ⟨pe_not ha.run⟩
theorem qe_ifExp (hc : QT X c tA) (ha : QE X a ta) (hb : QE X b tb) : QE X (.IfExp c a b pos) (tIf tA ta tb) := ⟨pe_ifExp hc.run ha.run hb.run⟩
theorem qa_nil : QA X [] tNil := ⟨pa_nil, rfl⟩
theorem qa_c (ha : QE X e te) (hr : QA X es t) (hs : notStar e = true := by rfl) : QA X (e :: es) (tCons te t) := ⟨pa_cons ha.run hr.run (starEach_ns hs), by rw [List.all_cons, hs, hr.ns]; rfl⟩
theorem qe_lst (h : QA X es t) : QE X (.List es pos) (tLst t) := ⟨pe_lst h.run⟩
theorem qe_tup {x1} (h : QA X es t) : QE X (.Tuple es x1 pos) (tTup t) := ⟨pe_tup h.run⟩
theorem qe_ix {r : R2} (hr : IxR X r) (ha : QE X a ta) (hb : QE X b tb) (hs : PlainIx b) : QE X (.Subscript a b pos) (tOp r ta tb) := ⟨pe_ix hr ha.run hb.run hs⟩
theorem qo_none : QO X none tNoPart := ⟨po_none⟩
theorem qo_some (h : QE X e te) : QO X (some e) (tPart te) := ⟨po_some h.run⟩
theorem qe_slice {r : V → Option Int → Option Int → Hp → VK → Prop} {lo hi : Option Expr} {tl th : TO} (hr : SlR X r) (he : QE X e te) (hl : QO X lo tl) (hu : QO X hi th) : QE X (.Subscript e (.Slice lo hi none p2) pos) (tSl r te tl th) := ⟨pe_slice hr he.run hl.run hu.run⟩
theorem qe_callD (D : DefOk X.prog X.w X.K X.mg X.base k x ps sp) (hr : Room k X.A) (ha : QA X (e :: es) t) (hg : Gl X x := by rfl) (hdb : (x == ("__debug__" : Str)) = false := by decide) :
    QE X (.Call (.Name x p) (e :: es) [] pos) (tCallD sp t) := ⟨pe_callD D hr ha.run hg hdb (starEach_ns (ns_hd ha.ns).1) (backTo_ns (ns_hd ha.ns).2)⟩
theorem qe_callD0 (D : DefOk X.prog X.w X.K X.mg X.base k x ps sp) (hr : Room k X.A) (hg : Gl X x := by rfl) (hdb : (x == ("__debug__" : Str)) = false := by decide) : QE X (.Call (.Name x p) [] [] pos) (tCallD sp tNil) := ⟨pe_callD0 D hr hg hdb⟩
theorem qe_callB {r : List V → Hp → VK → Prop} (hc : CallR X (.builtin id) r) (hg : Gl X x) (hm : X.mg x = none) (hv : bootBuiltins x = some (.builtin id)) (ha : QA X (e :: es) t) (hn : x ≠ "__name__" := by decide) (hdb : (x == ("__debug__" : Str)) = false := by decide) :
    QE X (.Call (.Name x p) (e :: es) [] pos) (tCB r t) := ⟨pe_callB hc hg hm hv ha.run hn hdb (starEach_ns (ns_hd ha.ns).1) (backTo_ns (ns_hd ha.ns).2)⟩
theorem qe_callTy {r : List V → Hp → VK → Prop} (hc : CallR X (.type T) r) (hg : Gl X x) (hm : X.mg x = none) (hv : bootBuiltins x = some (.type T)) (ha : QA X (e :: es) t) (hn : x ≠ "__name__" := by decide) (hdb : (x == ("__debug__" : Str)) = false := by decide) :
    QE X (.Call (.Name x p) (e :: es) [] pos) (tCB r t) := ⟨pe_callTy hc hg hm hv ha.run hn hdb (starEach_ns (ns_hd ha.ns).1) (backTo_ns (ns_hd ha.ns).2)⟩
theorem qe_bm {r : V → List V → Hp → VK → Prop} (pa : PlainAttrs T) (slot : Slot T name id) (hty : typeOf (.builtin id) = pure (.type "method_descriptor")) (hm : MtR X id r) (ho : QE X o to) (ha : QA X (e :: es) t)
    (hbase : attributeBase o name X.env (eval o X.env) = eval o X.env := by rfl) (hl : decide ((e :: es).length + 0 + 0 < 30) = true := by rfl)
    (hline : (apos.endLine == cpos.line) = true := by rfl) : QE X (.Call (.Attribute o name apos) (e :: es) [] cpos) (tBM X.K T r to t) := by
  refine ⟨pe_bm pa slot hty hm ho.run ha.run hbase ?_ hline (starEach_ns (ns_hd ha.ns).1) (backTo_ns (ns_hd ha.ns).2)⟩
  rw [backTo_all ha.ns]
  exact hl
/-! targets, iterators -/
theorem qg_name {i : Nat} {x : Str} (hN : X.N.Nodup) (hi : X.N[i]? = some x) (hx : Loc X.env.scope x) (hf : X.fn x = true ∨ X.env.scope.names.lookup x = some .local := by first | exact .inl rfl | exact .inr rfl | assumption) : QG X (.Name x pos) (gName i) := ⟨pg_name hN hi hx hf⟩
theorem qgs_nil : QGs X [] gNil := ⟨pgs_nil⟩
theorem qgs_cons {tt : TG} {u : TGs} (h1 : QG X e tt) (h2 : QGs X es u) (hs : (assignEach (e :: es) X.env).map (·.2) = assign e X.env :: (assignEach es X.env).map (·.2) := by rfl) : QGs X (e :: es) (gCons tt u) := ⟨pgs_cons h1.run h2.run hs⟩
theorem qg_tup {k n : Nat} {tt : TGs} (hc : X.calm = true) (h : QGs X es tt) (hn : (assignEach es X.env).length = n := by rfl) (hst : (assignEach es X.env).findIdx? (·.1) = none := by rfl) : QG X (.Tuple es k pos) (gTup X.K n tt) := ⟨pg_tup hc h.run hn hst⟩
theorem qg_sub {tt : TSet} (ho : QE X o to) (hi : QE X i' ti) (hs : PSet X tt)
    (ha : ∀ v, assign (.Subscript o i' pos) X.env v = (do
      let ov ← holding [v] (eval o X.env)
      let iv ← holding [v, ov] (eval i' X.env)
      standAt pos
      holding [v, ov, iv] (setItem ov iv v)
      release [v, ov, iv] []) := by intro _; rfl) : QG X (.Subscript o i' pos) (gSub to ti tt) := ⟨pg_sub ho.run hi.run hs ha⟩
theorem qi_list (hl : QE X a ta) : QI X tg a (iList X.K ta) := ⟨pi_list hl.run⟩
theorem qi_tup (hl : QE X a ta) : QI X tg a (iTup X.K ta) := ⟨pi_tup hl.run⟩
theorem qi_range1 (hg : Gl X "range") (hm : X.mg "range" = none) (ha : QA X [a] t) : QI X tg (.Call (.Name "range" p) [a] [] pos) (iRng1 t) := ⟨pi_range1 hg hm ha.run (starEach_ns (ns_hd ha.ns).1)⟩
theorem qi_range2 (hg : Gl X "range") (hm : X.mg "range" = none) (ha : QA X [a, b] t) : QI X tg (.Call (.Name "range" p) [a, b] [] pos) (iRng2 t) :=
  ⟨pi_range2 hg hm ha.run ((starEach_ns (ns_hd ha.ns).1).trans (by rw [starEach_ns (ns_hd (ns_hd ha.ns).2).1]; rfl)) (starEach_ns (ns_hd (ns_hd ha.ns).2).1)⟩
theorem qk_nil : QK X [] tTrue := ⟨pk_nil1⟩
/-! statements -/
variable {st : Stmt} {sts body els : List Stmt} {ts us : TS} {ifs : List Expr} {sc : Scope} {N : List Str} {mp : List (Option Nat)} {wi : TI} {g : TG}
theorem qss_nil : QSs X [] tNext := ⟨pss_nil⟩
theorem qss_cons (h1 : QS X st ts) (h2 : QSs X sts us) : QSs X (st :: sts) (tSeq ts us) := ⟨pss_cons h1.run h2.run⟩
theorem qss_cut (h1 : QS X st ts) (h2 : QSs X sts us) : QSs X (st :: sts) (tCut ts us) := ⟨pss_cut h1.run h2.run⟩
theorem qss_one (h1 : QS X st ts) : QSs X [st] ts := ⟨pss_one h1.run⟩
theorem qs_expr (he : QE X e te) (hs : swapsWith e none pos.line X.env = pure false := by rfl) : QS X (.Expr e pos) (tDrop te) := ⟨ps_expr he.run hs⟩
theorem qs_ret (he : QE X e te) : QS X (.Return (some e) pos) (tRet te) := ⟨ps_ret he.run⟩
theorem qs_if (hc : QT X c tA) (ha : QSs X body ts) (hb : QSs X els us) : QS X (.If c body els pos) (tIfS tA ts us) := ⟨ps_if hc.run ha.run hb.run⟩
theorem qs_set {i : Nat} {x : Str} {pos' : Pos} (hN : X.N.Nodup) (hi : X.N[i]? = some x) (hx : Loc X.env.scope x) (he : QE X e te) (hs : swapsWith e (some (.Name x pos')) pos.line X.env = pure false := by rfl)
    (hf : X.fn x = true ∨ X.env.scope.names.lookup x = some .local := by first | exact .inl rfl | exact .inr rfl | assumption) : QS X (.Assign [.Name x pos'] e pos) (tAsg te (gName i)) := ⟨ps_set hN hi hx he.run hs hf⟩
theorem qs_asg (he : QE X e te) (hg : QG X tg g) (hs : swapsWithSole [tg] e pos.line X.env = pure false := by rfl) (hw : swappedStores [tg] e X.env = pure none := by rfl)
    (h1 : (assignEach [tg] X.env).map (·.2) = [assign tg X.env] := by rfl) : QS X (.Assign [tg] e pos) (tAsg te g) := ⟨ps_asg he.run hg.run hs hw h1⟩
theorem qs_for (hp : PassesOwn (model X.prog X.w) X.A X.env X.xe) (hc : X.calm = true) (hi : QI X tg iter wi) (hg : QG X tg g) (hb : QSs X body ts) (hs : ∀ x, foldedSetIterable iter X.env x = pure x := by intro _; rfl) :
    QS X (.For tg iter body [] pos) (tFor wi g ts) := ⟨ps_for hp hc hi.run hg.run hb.run hs⟩
theorem qe_comp (hc : X.calm = true) (hi : QI X tg iter wi) (hk : sc.kind = .function) (hm : compOk X.N X.env.scope sc N mp = true)
    (hb : ∀ (cl : List (Str × Addr)) (C : Addr) (s₂ : Shared) (H₂ : Hp) (fp : List Addr), QG (cxComp X sc N cl C s₂ H₂ fp) tg g ∧ QK (cxComp X sc N cl C s₂ H₂ fp) ifs tA ∧ QE (cxComp X sc N cl C s₂ H₂ fp) elt te)
    (hs : ∀ x, foldedSetIterable iter X.env x = pure x := by intro _; rfl) : QE X (.ListComp elt [⟨tg, iter, ifs, 0⟩] sc pos) (tCompE (tComp wi mp g tA te)) :=
  ⟨pe_comp hc hi.run hk hm (fun cl C s₂ H₂ fp => ⟨(hb cl C s₂ H₂ fp).1.run, (hb cl C s₂ H₂ fp).2.1.run, (hb cl C s₂ H₂ fp).2.2.run⟩) hs⟩
theorem qs_comp {i : Nat} {x : Str} {py spos : Pos} (hN : X.N.Nodup) (hix : X.N[i]? = some x) (hx : X.env.scope.names.lookup x = some .local) (hc : X.calm = true) (hi : QI X tg iter wi) (hk : sc.kind = .function) (hm : compOk X.N X.env.scope sc N mp = true)
    (hb : ∀ (cl : List (Str × Addr)) (C : Addr) (s₂ : Shared) (H₂ : Hp) (fp : List Addr), QG (cxComp X sc N cl C s₂ H₂ fp) tg g ∧ QK (cxComp X sc N cl C s₂ H₂ fp) ifs tA ∧ QE (cxComp X sc N cl C s₂ H₂ fp) elt te)
    (hsw : swapsWith (.ListComp elt [⟨tg, iter, ifs, 0⟩] sc pos) (some (.Name x py)) spos.line X.env = pure true := by rfl)
    (hs : ∀ x, foldedSetIterable iter X.env x = pure x := by intro _; rfl) : QS X (.Assign [.Name x py] (.ListComp elt [⟨tg, iter, ifs, 0⟩] sc pos) spos) (tCompS i (tComp wi mp g tA te)) :=
  ⟨ps_comp hN hix hx hc hi.run hk hm (fun cl C s₂ H₂ fp => ⟨(hb cl C s₂ H₂ fp).1.run, (hb cl C s₂ H₂ fp).2.1.run, (hb cl C s₂ H₂ fp).2.2.run⟩) hsw hs⟩
end
theorem Fun.okQ {P : Program} {w : World} {K : PySem.W.Frag} {mg : Str → Option Value} {base : Heap} {x qual : Str} {st : Stmt} {f : Addr} {fd : FuncData} {N ps : List Str} {k : Nat} {sp : Sp} (F : Fun K x qual st f fd) (S : FnScope N ps (defScope st)) (len : ∀ vs H Q E, sp vs H Q E → vs.length = ps.length)
    (hbody : ∀ (cdv : Value) (A : Around) (outer : List Env) (s : Shared) (H : Hp) (vs : List V) (Q : VK) (E : XK), Room k (A.deeper (envOfC qual (defScope st) s.heap.objs.size f cdv)) → sp vs H Q E →
      ∃ t, QSs (cxOf CX0 P w K mg base N qual (defScope st) f cdv A outer s H E).nox (defBody st) t ∧ t { nx := fun _ H' => Q .non H', rt := Q } (start N vs) H) : FnOk P w K mg base CX0 (k + 1) f fd ps sp :=
  F.ok S len fun cdv A outer s H vs Q E hr h => let ⟨t, q, r⟩ := hbody cdv A outer s H vs Q E hr h; ⟨t, q.run, r⟩
/-! ### the rules that name the written part: K said outright (a block's own context must not stand in a reading) -/
section
variable {X : Cx} (K : PySem.W.Frag)
theorem ixT (h : X.K = K := by rfl) : IxR X (rIxT K) := by subst h; exact ix_tup
theorem ixL (h : X.K = K := by rfl) : IxR X (rIxL K) := by subst h; exact ix_list
theorem slL (h : X.K = K := by rfl) : SlR X (rSlL K) := by subst h; exact sl_list
theorem lenK (h : X.K = K := by rfl) : CallR X (.builtin "len") (fun xs H Q => ∃ p ys, xs = [.ref p] ∧ (SqL K H p ys ∨ SqT K H p ys) ∧ Q (.int ys.length) H) := by subst h; exact call_len_seq
theorem isiK (h : X.K = K := by rfl) : CallR X (.builtin "isinstance") (fun xs H Q => ∃ x t c b, xs = [x, .ty c] ∧ TyOf K H x (.type t) ∧ PySem.W.kitOne K (.type t) (.type c) = some b ∧ Q (.bl b) H) := by subst h; exact call_isi
theorem listK (h : X.K = K := by rfl) : CallR X (.type "list") (fun xs H Q => ∃ p ys, xs = [.ref p] ∧ (SqL K H p ys ∨ SqT K H p ys) ∧ ∀ l, H l = none → Q (.ref l) (upd H l (.lst ys))) := by subst h; exact call_list_of
theorem tupleK (h : X.K = K := by rfl) : CallR X (.type "tuple") (fun xs H Q => ∃ p ys, xs = [.ref p] ∧ ((SqL K H p ys ∧ ∀ l, H l = none → Q (.ref l) (upd H l (.tup ys))) ∨ (SqT K H p ys ∧ Q (.ref p) H))) := by subst h; exact call_tuple_of
variable {a o e tg : Expr} {es : List Expr} {ta to : TE} {t : TA} {apos cpos : Pos} {name : Str} {id T : String}
theorem qi_listK (hl : QE X a ta) (h : X.K = K := by rfl) : QI X tg a (iList K ta) := by subst h; exact qi_list hl
theorem qi_tupK (hl : QE X a ta) (h : X.K = K := by rfl) : QI X tg a (iTup K ta) := by subst h; exact qi_tup hl
theorem qe_bmK {r : V → List V → Hp → VK → Prop} (pa : PlainAttrs T) (slot : Slot T name id) (hty : typeOf (.builtin id) = pure (.type "method_descriptor")) (hm : MtR X id r) (ho : QE X o to) (ha : QA X (e :: es) t) (h : X.K = K := by rfl)
    (hbase : attributeBase o name X.env (eval o X.env) = eval o X.env := by rfl) (hl : decide ((e :: es).length + 0 + 0 < 30) = true := by rfl)
    (hline : (apos.endLine == cpos.line) = true := by rfl) : QE X (.Call (.Attribute o name apos) (e :: es) [] cpos) (tBM K T r to t) := by subst h; exact qe_bm pa slot hty hm ho ha hbase hl hline
theorem qg_tupK {k n : Nat} {pos : Pos} {tt : TGs} (hc : X.calm = true) (hh : QGs X es tt) (h : X.K = K := by rfl) (hn : (assignEach es X.env).length = n := by rfl) (hst : (assignEach es X.env).findIdx? (·.1) = none := by rfl) : QG X (.Tuple es k pos) (gTup K n tt) := by subst h; exact qg_tup hc hh hn hst
end
end L2

set_option Elab.async false
set_option linter.all false
set_option maxRecDepth 100000
/-! Slices of tuples: the whole, turned about; sums with an empty tuple. -/
namespace HT
open PySem PyProof.Rows
section
variable {prog : Program} {w : World} {A : Around} {E : Value → Shared → Prop} {s : Shared}
theorem getItem_tuple_whole {t sl : Addr} {items : Array Value} {vl vu : Value} {lo hi : Option Int} {Q : Value → Shared → Prop} (ht : IsTup s.heap t items) (hs : s.heap.IsSliceOf sl vl vu .none) (pl : IsPart vl lo) (pu : IsPart vu hi)
    (hw : sIx items.size 0 lo = 0 ∧ sIx items.size items.size hi = items.size) (h : Q (.ref t) s) : wpAny (model prog w) A (getItem (.ref t) (.ref sl)) Q E s := by
  obtain ⟨os, hos, hcs, hds⟩ := id hs
  have hTs : s.TypeIs (.ref sl) "slice" := ⟨os, hos, hcs⟩
  unfold getItem
  try with_reducible refine wpAny_holding ?_
  first | refine wpAny_bind (wpAny_pure ?_) | skip
  refine wpAny_bind (wpAny_sequenceKey ht.typeIs (by decide) ?_)
  refine wpAny_bind (wpAny_callSpecial?_slot (name := Str.ofString "__getitem__") ht.typeIs PyProof.Rows.slot_tuple_getitem
    (wpAny_call_entry PyProof.Rows.slot_tuple_getitem ht.typeIs entry_tuple_getitem ?_ (args_tuple_getitem _ _)))
  show wpAny _ _ (Builtin.Tuple.tupleItemsOf (.ref t) >>= _) _ _ s
  refine wpAny_bind (tupleItemsOf_ ht ?_)
  refine wpAny_bind (wpAny_typeOf hTs ?_)
  rw [if_pos (by decide)]
  refine wpAny_bind (sliceApplied_gen hs pl pu ?_)
  have hyes : ((((sIx items.size 0 lo : Nat) : Int) == 0 && (1 : Int) == 1 && (sIx items.size items.size hi - sIx items.size 0 lo) == items.size) = true) := by
    rw [hw.1, hw.2]; simp
  show wpAny _ _ (if (((sIx items.size 0 lo : Nat) : Int) == 0 && (1 : Int) == 1 && (sIx items.size items.size hi - sIx items.size 0 lo) == items.size) = true then _ else _) _ _ s
  rw [if_pos hyes]
  refine wpAny_bind ?_
  unfold Builtin.Tuple.tupleIsExact
  refine wpAny_bind (wpAny_typeOf ht.typeIs (wpAny_pure ?_))
  show wpAny _ _ (if (Value.type "tuple" == Value.type "tuple") = true then _ else _) _ _ s
  rw [if_pos (by decide)]
  exact wpAny_bind (wpAny_rule (wpAny_pure ⟨_, rfl, wpAny_pure h⟩))
theorem sliceApplied_rev {sl : Addr} {tk : Tok} {n : Nat} {Q : Int × Int × Nat → Shared → Prop} (hs : s.heap.IsSliceOf sl .none .none (.int (-1) tk))
    (h : Q ((n : Int) - 1, -1, n) s) : wpAny (model prog w) A (Builtin.Slice.sliceApplied (.ref sl) (pure (n : Int))) Q E s := by
  obtain ⟨os, hos, hcs, hds⟩ := id hs
  unfold Builtin.Slice.sliceApplied Builtin.Slice.sliceFields
  refine wpAny_bind (wpAny_bind (wpAny_field hos hds (x := .none) rfl (wpAny_bind (wpAny_field hos hds (x := .none) rfl (wpAny_bind (wpAny_field hos hds (x := .int (-1) tk) rfl (wpAny_pure ?_)))))))
  refine wpAny_bind (slicePart_int ?_)
  show wpAny _ _ (if ((-1 : Int) == 0) = true then _ else _) _ _ s
  rw [if_neg (by decide)]
  refine wpAny_bind (slicePart_none (wpAny_bind (slicePart_none (wpAny_bind (wpAny_pure ?_)))))
  have e1 : Builtin.Slice.sliceAdjust none none (-1) (n : Int) = ((n : Int) - 1, -1) := rfl
  have e2 : Builtin.Slice.slicePlaces ((n : Int) - 1) (-1) (-1) = n := by
    unfold Builtin.Slice.slicePlaces
    rw [if_neg (by decide)]
    by_cases hn : (n : Int) - 1 > -1
    · rw [if_pos hn]
      have : ((n : Int) - 1 - -1 - 1) / (- -1) + 1 = n := by
        rw [show (- -1 : Int) = 1 from rfl, Int.ediv_one]
        omega
      rw [this]
      simp
    · rw [if_neg hn]
      omega
  show wpAny _ _ (match Builtin.Slice.sliceAdjust none none (-1) (n : Int) with | (lo, hi) => pure (lo, (-1 : Int), Builtin.Slice.slicePlaces lo hi (-1))) _ _ s
  rw [e1]
  show wpAny _ _ (pure ((n : Int) - 1, (-1 : Int), Builtin.Slice.slicePlaces ((n : Int) - 1) (-1) (-1))) _ _ s
  rw [e2]
  exact wpAny_pure h
theorem fm_map {α β : Type} {f : α → Option β} {g : α → β} : ∀ {l : List α}, (∀ m ∈ l, f m = some (g m)) → l.filterMap f = l.map g
  | [], _ => rfl
  | a :: l, h => by
    rw [List.filterMap_cons, h a List.mem_cons_self, List.map_cons, fm_map fun m hm => h m (List.mem_cons_of_mem _ hm)]
theorem pick_rev (xs : Array Value) : ((List.range xs.size).filterMap fun (m : Nat) => xs[(((xs.size : Nat) : Int) - 1 + (m : Int) * -1).toNat]?).toArray = xs.toList.reverse.toArray := by
  congr 1
  apply List.ext_getElem?
  intro i
  have key : ∀ m ∈ List.range xs.size, (fun (m : Nat) => xs[(((xs.size : Nat) : Int) - 1 + (m : Int) * -1).toNat]?) m = some (xs.getD (xs.size - 1 - m) .none) := by
    intro m hm
    have hm' := List.mem_range.mp hm
    have e : (((xs.size : Nat) : Int) - 1 + (m : Int) * -1).toNat = xs.size - 1 - m := by omega
    show xs[_]? = _
    rw [e]
    simp [Array.getD, show xs.size - 1 - m < xs.size by omega]
  have e3 : (List.range xs.size).filterMap (fun (m : Nat) => xs[(((xs.size : Nat) : Int) - 1 + (m : Int) * -1).toNat]?) = (List.range xs.size).map fun m => xs.getD (xs.size - 1 - m) .none := by
    exact fm_map key
  rw [e3, List.getElem?_map]
  by_cases hi : i < xs.size
  · rw [List.getElem?_range hi, List.getElem?_reverse (by simpa using hi)]
    simp [Array.getD, show xs.size - 1 - i < xs.size by omega]
  · rw [List.getElem?_eq_none (by simp; omega), List.getElem?_eq_none (by simp; omega)]
    rfl
theorem getItem_tuple_rev {t sl : Addr} {items : Array Value} {tk : Tok} {Q : Value → Shared → Prop} (ht : IsTup s.heap t items) (hs : s.heap.IsSliceOf sl .none .none (.int (-1) tk))
    (h : Q (.ref s.heap.objs.size) { s with heap := s.heap.push { cls := .type "tuple", data := .seq items.toList.reverse.toArray } }) (hsz : items.size ≤ sizeLine) : wpAny (model prog w) A (getItem (.ref t) (.ref sl)) Q E s := by
  obtain ⟨os, hos, hcs, hds⟩ := id hs
  have hTs : s.TypeIs (.ref sl) "slice" := ⟨os, hos, hcs⟩
  have hz : sizeOk (.seq items.toList.reverse.toArray) := by
    show items.toList.reverse.toArray.size ≤ sizeLine
    simpa using hsz
  unfold getItem
  try with_reducible refine wpAny_holding ?_
  first | refine wpAny_bind (wpAny_pure ?_) | skip
  refine wpAny_bind (wpAny_sequenceKey ht.typeIs (by decide) ?_)
  refine wpAny_bind (wpAny_callSpecial?_slot (name := Str.ofString "__getitem__") ht.typeIs PyProof.Rows.slot_tuple_getitem
    (wpAny_call_entry PyProof.Rows.slot_tuple_getitem ht.typeIs entry_tuple_getitem ?_ (args_tuple_getitem _ _)))
  show wpAny _ _ (Builtin.Tuple.tupleItemsOf (.ref t) >>= _) _ _ s
  refine wpAny_bind (tupleItemsOf_ ht ?_)
  refine wpAny_bind (wpAny_typeOf hTs ?_)
  rw [if_pos (by decide)]
  refine wpAny_bind (sliceApplied_rev (n := items.size) hs ?_)
  have hno : ¬ ((((items.size : Nat) : Int) - 1 == 0 && (-1 : Int) == 1 && items.size == items.size) = true) := by
    intro q
    rw [Bool.and_eq_true, Bool.and_eq_true] at q
    exact absurd q.1.2 (by decide)
  show wpAny _ _ (if (((items.size : Nat) : Int) - 1 == 0 && (-1 : Int) == 1 && items.size == items.size) = true then _ else _) _ _ s
  rw [if_neg hno, pick_rev]
  first
    | exact wpAny_bind (m := Builtin.Tuple.tupleExact _) (wpAny_newObj_type (wpAny_pure ⟨_, rfl, wpAny_pure h⟩) hz)
    | exact wpAny_bind (m := Builtin.Tuple.tupleExact _) (wpAny_newObj_type (wpAny_bind (wpAny_pure (wpAny_pure ⟨_, rfl, wpAny_pure h⟩))) hz)
    | exact wpAny_bind (wpAny_bind (m := Builtin.Tuple.tupleExact _) (wpAny_newObj_type (wpAny_pure (wpAny_pure ⟨_, rfl, wpAny_pure h⟩)) hz))
    | exact wpAny_bind (wpAny_bind (m := Builtin.Tuple.tupleExact _) (wpAny_newObj_type (wpAny_pure ⟨_, rfl, wpAny_pure h⟩) hz))
end
end HT
namespace L2
open PySem PySem.Spec PyProof.Rows
/-- t[lo:hi], also the whole (t itself) -/
def rSlTA (K : PySem.W.Frag) : V → Option Int → Option Int → Hp → VK → Prop := fun x lo hi H Q => ∃ a xs, x = .ref a ∧ SqT K H a xs ∧ (cutV xs lo hi = xs → Q (.ref a) H) ∧ ∀ p, H p = none → Q (.ref p) (upd H p (.tup (cutV xs lo hi)))
section
variable {X : Cx} (K : PySem.W.Frag)
theorem slT (h : X.K = K := by rfl) : SlR X (rSlTA K) := by
  subst h
  intro pins s σ H x v vl vu lo hi sl Q I rx hs pl pu h
  obtain ⟨a, xs, rfl, hx, hw, q⟩ := h
  by_cases hc : HT.sIx xs.length 0 lo = 0 ∧ HT.sIx xs.length xs.length hi = xs.length
  · cases rx
    obtain ⟨its, r, ht, hz⟩ := I.tuple hx
    have hlen : its.toArray.size = xs.length := by rw [List.size_toArray]; exact r.length.symm
    refine ⟨"tuple", _, PyProof.Rows.slot_tuple_getitem.lookup, ht.typeIs, ?_⟩
    refine HT.getItem_tuple_whole ht hs pl pu (by rw [hlen]; exact hc) ⟨.ref a, H, I, rfl, hw ?_⟩
    unfold cutV
    rw [hc.1, hc.2]
    simp
  · exact sl_tup pins s σ H (.ref a) v vl vu lo hi sl Q I rx hs pl pu ⟨a, xs, rfl, hx, hc, q⟩
/-- t[::-1] -/
def tRev (K : PySem.W.Frag) (te : TE) : TE := fun σ H Q => te σ H fun x H1 => ∃ a xs, x = .ref a ∧ SqT K H1 a xs ∧ ∀ p, H1 p = none → Q (.ref p) (upd H1 p (.tup xs.reverse))
theorem qe_rev {e : Expr} {te : TE} {pos p2 p3 p4 : Pos} {k : Nat} (he : QE X e te) (h : X.K = K := by rfl) : QE X (.Subscript e (.Slice none none (some (.UnaryOp .USub (.Constant (.int 1) k p4) p3)) p2) pos) (tRev K te) := by
  subst h
  refine ⟨fun pins s σ H Q I h => ?_⟩
  have hst : PE X (.UnaryOp .USub (.Constant (.int 1) k p4) p3) (tUn (rU fun i => .int (-i)) (tC (.int 1))) := pe_un un_neg pe_int
  refine Subscript_ (thn (he.run pins s σ H _ I h) fun v s1 ⟨x, H1, I1, r1, a, xs, ex, hx, q⟩ => ?_)
  subst ex
  cases r1
  refine wpAny_Slice ?_
  rw [evalPart_none]
  refine wpAny_pure (wpAny_pure ?_)
  rw [evalPart_some]
  refine thn (hst pins s1 σ H1 (fun z H2 => z = .int (-1) ∧ H2 = H1) I1 ⟨1, rfl, rfl, rfl⟩) fun u s3 ⟨z, H3, I3, r3, ez, eH⟩ => ?_
  subst ez eH
  obtain ⟨tk, rfl⟩ := r3
  have I4 : Inv X pins σ H3 { s3 with heap := s3.heap.push { cls := .type "slice", data := .fields #[.none, .none, .int (-1) tk] } } := I3.kept (t' := s3.toks) fun b ob q => Heap.get?_push_of_some _ q
  obtain ⟨its, r, ht, hz⟩ := I4.tuple hx
  show wpAny (model X.prog X.w) X.A (subscriptTail e (.Slice none none (some (.UnaryOp .USub (.Constant (.int 1) k p4) p3)) p2) (.ref a) (.ref s3.heap.objs.size)) (EP X pins σ Q) X.xe { s3 with heap := s3.heap.push { cls := .type "slice", data := .fields #[.none, .none, .int (-1) tk] } }
  refine tail_any (ops := [.ref a, .ref s3.heap.objs.size]) ht.typeIs PyProof.Rows.slot_tuple_getitem.lookup (HT.getItem_tuple_rev ht (Heap.IsSliceOf.new ..) ?_ (by rw [List.size_toArray, ← r.length]; exact hz)) (by with_unfolding_all rfl)
  refine ⟨.ref _, _, I4.laid (t' := s3.toks) (o := .tup xs.reverse) (fun b ob q => Heap.get?_push_of_some _ q) (Nat.le_refl _) ?_, rfl, q _ (I4.hok.fresh (Nat.le_refl _))⟩
  exact ⟨by rw [List.length_reverse]; exact hz, _, by simpa using r.reverse, IsTup.new _ _⟩
end
/-- t + u, any -/
def rCatA (K : PySem.W.Frag) : R2 := fun x y H Q => ∃ a b xs ys, x = .ref a ∧ y = .ref b ∧ SqT K H a xs ∧ SqT K H b ys ∧ xs.length + ys.length ≤ sizeLine ∧ (xs = [] → Q (.ref b) H) ∧ (ys = [] → Q (.ref a) H) ∧ ∀ p, H p = none → Q (.ref p) (upd H p (.tup (xs ++ ys)))
theorem catT {X : Cx} (K : PySem.W.Frag) (h : X.K = K := by rfl) : OpR X (binaryOp .Add) (rCatA K) := by
  subst h
  intro pins s σ H x y v u Q I rx ry h
  obtain ⟨a, b, xs, ys, rfl, rfl, ha, hb, hz, q0, q1, q2⟩ := h
  by_cases hx : xs = []
  · cases rx
    cases ry
    obtain ⟨its, r1, p1, _⟩ := I.tuple ha
    obtain ⟨its2, r2, p2, _⟩ := I.tuple hb
    have hi : its = [] := r1.nil_iff.mpr hx
    obtain ⟨⟨cls, dd, data, sl⟩, ho, hc, n, hd⟩ := id p1
    obtain ⟨⟨cls2, dd2, data2, sl2⟩, ho2, hc2, n2, hd2⟩ := id p2
    simp only at hc hd hc2 hd2
    subst hc hd hc2 hd2
    exact concat_meets ⟨_, ho, rfl⟩ ⟨_, ho2, rfl⟩ noFill_tuple_add seq_tuple_add PySem.F.slot_tuple_add PySem.F.entry_tuple_add (PySem.F.args_tuple_add_2 _ _)
      (tuple_addW0 a b its.toArray its2.toArray n n2 dd dd2 sl sl2 (by simp [hi])) ⟨ho, ho2, ⟨.ref b, H, I, rfl, q0 hx⟩⟩
  · exact op_catT pins s σ H _ _ v u Q I rx ry ⟨a, b, xs, ys, rfl, rfl, ha, hb, hx, hz, q1, fun _ => q2⟩
end L2

set_option Elab.async false
set_option linter.all false
set_option maxRecDepth 100000
/-! min and max of a tuple of two ints. -/
namespace L2
open PySem PySem.Spec PyProof.Rows
section
variable {X : Cx}
theorem call_minT (K : PySem.W.Frag) (hc : X.calm = true) (hk : X.K = K := by rfl) : CallR X (.builtin "min") (fun xs H Q => ∃ p i j, xs = [.ref p] ∧ SqT K H p [.int i, .int j] ∧ Q (.int (if j < i then j else i)) H) := by
  subst hk
  intro pins s σ H xs us Q I r h
  obtain ⟨p, i, j, rfl, hp, q⟩ := h
  obtain ⟨u, rfl, ru⟩ := vals1 r
  cases ru
  obtain ⟨its, rv, ht, hz⟩ := I.tuple hp
  obtain ⟨u1, u2, rfl, ⟨t1, rfl⟩, ⟨t2, rfl⟩⟩ := vals2 rv
  have hh := I.ok.hd hc
  have hpl : p < s.heap.objs.size := ht.lt
  refine call_min_walk (wpAny_pyIter_tuple (show s.heap.IsTuple p _ from ht) ⟨s.heap.objs.size, _, _, 2, _, _, fun a b => decide ((if a = 0 then i else j) < (if b = 0 then i else j)), rfl, Walks.tuple (A := X.A.in1) hh _ p (Nat.ne_of_lt hpl) #[.int i t1, .int j t2], ⟨⟨_, Heap.get?_push_size _ rfl, rfl, rfl⟩, (show s.heap.IsTuple p _ from ht).at fun o e => Heap.get?_push_of_some _ e⟩, ?_, by decide, ?_, ?_⟩)
  · intro b hb
    rw [Heap.size_push]
    rcases List.mem_cons.mp hb with e | hb
    · rw [e]; exact Nat.lt_succ_self _
    · have e : b = p := by simpa using hb
      rw [e]; exact Nat.lt_succ_of_lt hpl
  · have key : ∀ (a : Nat) (v : Value), #[Value.int i t1, Value.int j t2][a]? = some v → ∃ t, v = .int (if a = 0 then i else j) t := by
      intro a v e
      match a, e with
      | 0, e => exact ⟨t1, (Option.some.inj e).symm⟩
      | 1, e => exact ⟨t2, (Option.some.inj e).symm⟩
      | a + 2, e => cases e
    intro a b va vb s' Q' E' ha hb hq
    obtain ⟨ta, rfl⟩ := key a va ha
    obtain ⟨tb, rfl⟩ := key b vb hb
    show wpAny _ _ (compareOp .Lt _ _) _ _ _
    exact lt_int hq
  · intro v h' tk hv kp
    have I1 : Inv X pins σ H { s with heap := h', toks := tk } := I.kept fun b o e => kp b o (fun z => by
      have e2 : b = s.heap.objs.size := by simpa using z
      rw [e2] at e
      exact absurd (Heap.lt_size e) (Nat.lt_irrefl _)) (Heap.get?_push_of_some _ e)
    by_cases hji : j < i
    · have e : argBest (fun a b => decide ((if a = 0 then i else j) < (if b = 0 then i else j))) (2 - 1) = 1 := by
        show (if decide (j < i) = true then 1 else 0) = 1
        rw [if_pos (decide_eq_true hji)]
      rw [e] at hv
      have hv' : Value.int j t2 = v := Option.some.inj hv
      subst hv'
      rw [if_pos hji] at q
      exact ⟨.int j, H, I1, ⟨_, rfl⟩, q⟩
    · have e : argBest (fun a b => decide ((if a = 0 then i else j) < (if b = 0 then i else j))) (2 - 1) = 0 := by
        show (if decide (j < i) = true then 1 else 0) = 0
        rw [if_neg (fun z => hji (of_decide_eq_true z))]
      rw [e] at hv
      have hv' : Value.int i t1 = v := Option.some.inj hv
      subst hv'
      rw [if_neg hji] at q
      exact ⟨.int i, H, I1, ⟨_, rfl⟩, q⟩
theorem call_maxT (K : PySem.W.Frag) (hc : X.calm = true) (hk : X.K = K := by rfl) : CallR X (.builtin "max") (fun xs H Q => ∃ p i j, xs = [.ref p] ∧ SqT K H p [.int i, .int j] ∧ Q (.int (if i < j then j else i)) H) := by
  subst hk
  intro pins s σ H xs us Q I r h
  obtain ⟨p, i, j, rfl, hp, q⟩ := h
  obtain ⟨u, rfl, ru⟩ := vals1 r
  cases ru
  obtain ⟨its, rv, ht, hz⟩ := I.tuple hp
  obtain ⟨u1, u2, rfl, ⟨t1, rfl⟩, ⟨t2, rfl⟩⟩ := vals2 rv
  have hh := I.ok.hd hc
  have hpl : p < s.heap.objs.size := ht.lt
  refine call_max_walk (wpAny_pyIter_tuple (show s.heap.IsTuple p _ from ht) ⟨s.heap.objs.size, _, _, 2, _, _, fun a b => decide ((if b = 0 then i else j) < (if a = 0 then i else j)), rfl, Walks.tuple (A := X.A.in1) hh _ p (Nat.ne_of_lt hpl) #[.int i t1, .int j t2], ⟨⟨_, Heap.get?_push_size _ rfl, rfl, rfl⟩, (show s.heap.IsTuple p _ from ht).at fun o e => Heap.get?_push_of_some _ e⟩, ?_, by decide, ?_, ?_⟩)
  · intro b hb
    rw [Heap.size_push]
    rcases List.mem_cons.mp hb with e | hb
    · rw [e]; exact Nat.lt_succ_self _
    · have e : b = p := by simpa using hb
      rw [e]; exact Nat.lt_succ_of_lt hpl
  · have key : ∀ (a : Nat) (v : Value), #[Value.int i t1, Value.int j t2][a]? = some v → ∃ t, v = .int (if a = 0 then i else j) t := by
      intro a v e
      match a, e with
      | 0, e => exact ⟨t1, (Option.some.inj e).symm⟩
      | 1, e => exact ⟨t2, (Option.some.inj e).symm⟩
      | a + 2, e => cases e
    intro a b va vb s' Q' E' ha hb hq
    obtain ⟨ta, rfl⟩ := key a va ha
    obtain ⟨tb, rfl⟩ := key b vb hb
    show wpAny _ _ (compareOp .Gt _ _) _ _ _
    exact gt_int hq
  · intro v h' tk hv kp
    have I1 : Inv X pins σ H { s with heap := h', toks := tk } := I.kept fun b o e => kp b o (fun z => by
      have e2 : b = s.heap.objs.size := by simpa using z
      rw [e2] at e
      exact absurd (Heap.lt_size e) (Nat.lt_irrefl _)) (Heap.get?_push_of_some _ e)
    by_cases hji : i < j
    · have e : argBest (fun a b => decide ((if b = 0 then i else j) < (if a = 0 then i else j))) (2 - 1) = 1 := by
        show (if decide (i < j) = true then 1 else 0) = 1
        rw [if_pos (decide_eq_true hji)]
      rw [e] at hv
      have hv' : Value.int j t2 = v := Option.some.inj hv
      subst hv'
      rw [if_pos hji] at q
      exact ⟨.int j, H, I1, ⟨_, rfl⟩, q⟩
    · have e : argBest (fun a b => decide ((if b = 0 then i else j) < (if a = 0 then i else j))) (2 - 1) = 0 := by
        show (if decide (i < j) = true then 1 else 0) = 0
        rw [if_neg (fun z => hji (of_decide_eq_true z))]
      rw [e] at hv
      have hv' : Value.int i t1 = v := Option.some.inj hv
      subst hv'
      rw [if_neg hji] at q
      exact ⟨.int i, H, I1, ⟨_, rfl⟩, q⟩
end
end L2

set_option Elab.async false
set_option linter.all false
set_option maxRecDepth 100000
/-! Displays of plain data read at once; all(..) of a list of truths; a tuple times a number. -/
namespace PySem
open Sem (wp)
theorem noFill_tuple_mul : fillsNumberSlot (.type "tuple") "mul" = pure false :=
  fillsNumberSlot_seq (id := "tuple.__mul__") (r := some (.builtin "tuple.__rmul__")) F.slot_tuple_mul.lookup (by decide +kernel) F.slot_tuple_rmul.lookup (by decide +kernel)
theorem repeat_tuple : seqRepeat? (.type "tuple") = pure (some (.builtin "tuple.__mul__")) := by
  unfold seqRepeat?
  rw [seqSlot_of (T := "tuple") (name := "__mul__") (id := "tuple.__mul__") F.slot_tuple_mul.lookup (by decide +kernel), seqSlot_of (T := "tuple") (name := "__rmul__") (id := "tuple.__rmul__") F.slot_tuple_rmul.lookup (by decide +kernel)]
  rfl
theorem int_rmul_tuple (a : Int) (t : Tok) (l : Addr) (items : Array Value) (n : Nat) (dd : Option Addr) (sl : Array (Option Value)) :
    Meets (Builtin.«int.__rmul__» ⟨[.int a t, .ref l], []⟩) (fun _ R s => s.heap.get? l = some { cls := .type "tuple", dict := dd, data := .seq items n, slots := sl } ∧ R (.ok (.ret Value.notImplemented)) s) :=
  .of_wp fun prog w A R s h => by obtain ⟨hp, g, d, tk, os⟩ := s; obtain ⟨hl, h⟩ := h; wp_walk; exact ⟨_, rfl, h⟩
theorem tuple_mul_int (l : Addr) (items : Array Value) (n : Nat) (dd : Option Addr) (sl : Array (Option Value)) (k : Int) (t : Tok) (hne : items.isEmpty = false) (h2 : 2 ≤ k) (hk : k < 2 ^ 40) (hz : items.size * k.toNat ≤ 16000000) :
    Meets (Builtin.«tuple.__mul__» ⟨[.ref l, .int k t], []⟩) (fun _ R s => s.heap.get? l = some { cls := .type "tuple", dict := dd, data := .seq items n, slots := sl } ∧ R (.ok (.ret (Value.ref s.heap.objs.size))) { s with heap := s.heap.push { cls := Value.type "tuple", data := Data.seq (List.foldl (fun x1 x2 => x1 ++ x2) #[] (List.replicate k.toNat items)) }, toks := s.toks }) :=
  .of_wp fun prog w A R s h => by
    obtain ⟨hp, g, d, tk, os⟩ := s
    obtain ⟨hl, h⟩ := h
    have f1 := AutoSeq1.idx_int
    have c0 : ¬ (decide (k < -(2 ^ 63)) || decide (k ≥ 2 ^ 63)) = true := by simp; omega
    have c1 : ¬ (items.isEmpty || k == 1) = true := by rw [hne]; simp; omega
    have c2 : ¬ (decide (k ≤ 0) || items.isEmpty) = true := by rw [hne]; simp; omega
    wp_walk
    have hk2 : k = ((k.toNat : Nat) : Int) := by omega
    have hm : (items.size : Int) * k = ((items.size * k.toNat : Nat) : Int) := by rw [Int.natCast_mul, ← hk2]
    have c3 : ¬ (items.size : Int) * k > (2 ^ 63 - 1) / 8 := by rw [hm]; omega
    have c4 : ¬ Builtin.Tuple.tupleTooMany ((items.size : Int) * k) = true := by
      rw [hm]
      unfold Builtin.Tuple.tupleTooMany
      rw [decide_eq_true_eq, show sizeLine = 16777216 by decide]
      omega
    have hit : PyProof.Rows.IsTup hp l items := ⟨_, hl, rfl, n, rfl⟩
    have hsz : (List.foldl (fun x1 x2 => x1 ++ x2) #[] (List.replicate k.toNat items)).size ≤ sizeLine := by
      have e := AutoListH.size_joined items k.toNat #[]
      have e0 : (#[] : Array Value).size = 0 := rfl
      rw [e0, Nat.zero_add, Nat.mul_comm] at e
      rw [e]
      exact Nat.le_trans hz (by decide)
    rw [if_neg c0]
    show wpAny _ _ (Builtin.Tuple.tupleItemsOf (.ref l) >>= _) _ _ _
    refine wpAny_bind (PyProof.Rows.tupleItemsOf_ hit ?_)
    dsimp only
    rw [if_neg c1, if_neg c2, if_neg c3, if_neg c4]
    first
      | exact wpAny_bind (m := Builtin.Tuple.tupleExact _) (wpAny_newObj_type (wpAny_pure ⟨_, rfl, h⟩) hsz)
      | exact wpAny_bind (m := Builtin.Tuple.tupleExact _) (wpAny_newObj_type (wpAny_bind (wpAny_pure (wpAny_pure ⟨_, rfl, h⟩))) hsz)
      | exact wpAny_bind (wpAny_bind (m := Builtin.Tuple.tupleExact _) (wpAny_newObj_type (wpAny_pure (wpAny_pure ⟨_, rfl, h⟩)) hsz))
      | exact wpAny_bind (wpAny_bind (m := Builtin.Tuple.tupleExact _) (wpAny_newObj_type (wpAny_pure ⟨_, rfl, h⟩) hsz))
end PySem
namespace L2
open PySem PySem.Spec PyProof.Rows
section
variable {X : Cx}
theorem QE.weaken {e : Expr} {t t' : TE} (h : QE X e t) (w : ∀ σ H Q, t' σ H Q → t σ H Q) : QE X e t' := ⟨fun pins s σ H Q I q => h.run pins s σ H Q I (w σ H Q q)⟩
theorem QA.weaken {es : List Expr} {t t' : TA} (h : QA X es t) (w : ∀ σ H Q, t' σ H Q → t σ H Q) : QA X es t' := ⟨fun pos pins s σ H Q I q => h.run pos pins s σ H Q I (w σ H Q q), h.ns⟩
end
/-- what a display asks: the data of the names in it (ints in slots ui, any in slots us) -/
def Has (us ui : List Nat) (S : List Addr) (ρ : Nat → PyData) (ι : Nat → Int) (σ : St) (H : Hp) : Prop :=
  (∀ b ∈ S, H b ≠ none) ∧ (∀ i ∈ us, ∃ v, σ[i]? = some (some v) ∧ Rep S H (ρ i) v) ∧ (∀ i ∈ ui, σ[i]? = some (some (.int (ι i))))
theorem Has.ext {us ui : List Nat} {S : List Addr} {ρ : Nat → PyData} {ι : Nat → Int} {σ : St} {H H' : Hp} (h : Has us ui S ρ ι σ H) (x : Ext [] H H') : Has us ui S ρ ι σ H' := by
  refine ⟨fun b hb => ?_, fun i hi => ?_, h.2.2⟩
  · have := h.1 b hb
    cases e : H b with
    | none => exact absurd e this
    | some o => rw [x.keep b o (by simp) e]; simp
  · obtain ⟨v, e, r⟩ := h.2.1 i hi
    exact ⟨v, e, r.ext (x.mono (by simp))⟩
abbrev DD := (Nat → PyData) → (Nat → Int) → PyData
def tDat (us ui : List Nat) (d : DD) : TE := fun σ H Q => ∃ S ρ ι, Has us ui S ρ ι σ H ∧ ∀ v H', Ext [] H H' → Rep S H' (d ρ ι) v → Q v H'
def tDats (us ui : List Nat) (d : (Nat → PyData) → (Nat → Int) → List PyData) : TA := fun σ H Q => ∃ S ρ ι, Has us ui S ρ ι σ H ∧ ∀ v H', Ext [] H H' → Reps S H' (d ρ ι) v → Q v H'
section
variable {X : Cx} {us ui : List Nat} {a b e : Expr} {es : List Expr} {pos : Pos}
theorem qd_of {v : V} {d : PyData} (h : QE X e (tC v)) (r : ∀ S H, Rep S H d v) : QE X e (tDat us ui fun _ _ => d) := h.weaken fun σ H Q ⟨S, ρ, ι, hh, k⟩ => k v H (.refl _ _) (r S H)
theorem qd_int {i : Int} {j pos} : QE X (.Constant (.int i) j pos) (tDat us ui fun _ _ => .int i) := qd_of qe_int fun _ _ => .int i
theorem qd_bl {i : Bool} {j pos} : QE X (.Constant (.bool i) j pos) (tDat us ui fun _ _ => .bool i) := qd_of qe_bl fun _ _ => .bl i
theorem qd_non {j pos} : QE X (.Constant .none j pos) (tDat us ui fun _ _ => .none) := qd_of qe_non fun _ _ => .non
theorem qd_str {x j pos} : QE X (.Constant (.str x) j pos) (tDat us ui fun _ _ => .str x) := qd_of qe_str fun _ _ => .str x
theorem qd_ivar (i : Nat) (h : QE X e (tVar i)) (hi : i ∈ ui := by decide) : QE X e (tDat us ui fun _ ι => .int (ι i)) := h.weaken fun σ H Q ⟨S, ρ, ι, hh, k⟩ => ⟨_, hh.2.2 i hi, k _ H (.refl _ _) (.int _)⟩
theorem qd_neg {n : (Nat → PyData) → (Nat → Int) → Int} (h : QE X e (tDat us ui fun ρ ι => .int (n ρ ι))) : QE X (.UnaryOp .USub e pos) (tDat us ui fun ρ ι => .int (-(n ρ ι))) :=
  (qe_un un_neg h).weaken fun σ H Q ⟨S, ρ, ι, hh, k⟩ => ⟨S, ρ, ι, hh, fun v H' x r => ⟨_, r.of_int, k _ H' x (.int _)⟩⟩
theorem qd_pow {i j : Int} (ha : QE X a (tDat us ui fun _ _ => .int i)) (hb : QE X b (tDat us ui fun _ _ => .int j)) (hc : CPow i j) : QE X (.BinOp a .Pow b pos) (tDat us ui fun _ _ => .int (i ^ j.toNat)) :=
  (qe_op op_pow ha hb).weaken fun σ H Q ⟨S, ρ, ι, hh, k⟩ => ⟨S, ρ, ι, hh, fun v H' x r => ⟨S, ρ, ι, hh.ext x, fun v2 H2 x2 r2 => ⟨_, _, r.of_int, r2.of_int, hc, k _ H2 (x.trans x2) (.int _)⟩⟩⟩
theorem qds_nil : QA X [] (tDats us ui fun _ _ => []) := qa_nil.weaken fun σ H Q ⟨S, ρ, ι, hh, k⟩ => k [] H (.refl _ _) .nil
theorem qds_c {d : DD} {ds : (Nat → PyData) → (Nat → Int) → List PyData} (ha : QE X e (tDat us ui d)) (hr : QA X es (tDats us ui ds)) (hs : notStar e = true := by rfl) : QA X (e :: es) (tDats us ui fun ρ ι => d ρ ι :: ds ρ ι) :=
  (qa_c ha hr hs).weaken fun σ H Q ⟨S, ρ, ι, hh, k⟩ => ⟨S, ρ, ι, hh, fun v H' x r => ⟨S, ρ, ι, hh.ext x, fun v2 H2 x2 r2 => k _ H2 (x.trans x2) (.cons (r.ext (x2.mono (by simp))) r2)⟩⟩
theorem qd_tup {x1 : Nat} {ds : (Nat → PyData) → (Nat → Int) → List PyData} (h : QA X es (tDats us ui ds)) (hl : ∀ ρ ι, (ds ρ ι).length = es.length := by intro _ _; rfl) (hn : es.length ≤ sizeLine := by decide) : QE X (.Tuple es x1 pos) (tDat us ui fun ρ ι => .tuple (ds ρ ι)) :=
  (qe_tup h).weaken fun σ H Q ⟨S, ρ, ι, hh, k⟩ => ⟨S, ρ, ι, hh, fun v H' x r => ⟨by rw [r.length, hl]; exact hn, fun p hp => k _ _ (x.trans (.new hp)) (.tup upd_same (r.ext (.new hp)))⟩⟩
theorem qd_lst {ds : (Nat → PyData) → (Nat → Int) → List PyData} (h : QA X es (tDats us ui ds)) (hl : ∀ ρ ι, (ds ρ ι).length = es.length := by intro _ _; rfl) (hn : es.length ≤ sizeLine := by decide) : QE X (.List es pos) (tDat us ui fun ρ ι => .list (ds ρ ι)) :=
  (qe_lst h).weaken fun σ H Q ⟨S, ρ, ι, hh, k⟩ => ⟨S, ρ, ι, hh, fun v H' x r => ⟨by rw [r.length, hl]; exact hn, fun p hp => k _ _ (x.trans (.new hp)) (.lst upd_same (fun z => (hh.ext x).1 p z hp) (r.ext (.new hp)))⟩⟩
/-- a tuple, not empty, times a number from 2 on -/
def rRepT (K : PySem.W.Frag) : R2 := fun x y H Q => ∃ a k xs, x = .ref a ∧ y = .int k ∧ SqT K H a xs ∧ xs ≠ [] ∧ 2 ≤ k ∧ k < 2 ^ 40 ∧ xs.length * k.toNat ≤ 16000000 ∧ ∀ p, H p = none → Q (.ref p) (upd H p (.tup (List.replicate k.toNat xs).flatten))
theorem op_repT (K : PySem.W.Frag) (h : X.K = K := by rfl) : OpR X (binaryOp .Mult) (rRepT K) := by
  subst h
  intro pins s σ H x y v u Q I rx ry h
  obtain ⟨a, k, xs, rfl, rfl, hx, hne, h2, hk, hz, q⟩ := h
  cases rx
  obtain ⟨t, rfl⟩ := ry
  obtain ⟨its, r, ht, hl⟩ := I.tuple hx
  obtain ⟨⟨cls, dd, data, sl⟩, ho, hc, n, hd⟩ := id ht
  simp only at hc hd
  subst hc hd
  have hne' : its.toArray.isEmpty = false := by
    cases its with
    | nil => exact absurd (r.nil_iff.mp rfl) hne
    | cons _ _ => rfl
  have hsz : its.toArray.size * k.toNat ≤ 16000000 := by rw [List.size_toArray, ← r.length]; exact hz
  refine wpAny_binaryOp_repeat_ref (T := "tuple") (U := "int") (by decide) ⟨_, ho, rfl⟩ (fun s' => typeIs_int s' k t) noFill_tuple_mul F.fills_int_mul F.slot_int_rmul repeat_tuple F.slot_int_index.lookup
    (call_meets F.slot_int_rmul (typeIs_int s k t) F.entry_int_rmul (F.args_int_rmul_2 _ _) (int_rmul_tuple k t a its.toArray n dd sl)
      ⟨ho, rfl, ⟨_, ho, rfl⟩, call_meets F.slot_tuple_mul ⟨_, ho, rfl⟩ F.entry_tuple_mul (F.args_tuple_mul_2 _ _) (tuple_mul_int a its.toArray n dd sl k t hne' h2 hk hsz) ⟨ho, ?_⟩⟩)
  have hnew : List.foldl (fun x1 x2 => x1 ++ x2) #[] (List.replicate k.toNat its.toArray) = (List.replicate k.toNat its).flatten.toArray := by
    have := foldl_rep its k.toNat []
    rw [List.nil_append] at this
    exact this
  rw [hnew]
  have hlen : (List.replicate k.toNat xs).flatten.length ≤ sizeLine := by
    rw [len_rep, Nat.mul_comm, show sizeLine = 16777216 by decide]
    omega
  exact ⟨.ref _, _, I.laid (t' := s.toks) (o := .tup (List.replicate k.toNat xs).flatten) (fun b o e => Heap.get?_push_of_some _ e) (Nat.le_refl _) ⟨hlen, _, r.rep k.toNat, IsTup.new _ _⟩, rfl, q _ (I.hok.fresh (Nat.le_refl _))⟩
theorem Reps.rep {S : List Addr} {H : Hp} {ds : List PyData} {xs : List V} (r : Reps S H ds xs) : ∀ k : Nat, Reps S H (List.replicate k ds).flatten (List.replicate k xs).flatten
  | 0 => .nil
  | k + 1 => by
    rw [List.replicate_succ, List.replicate_succ, List.flatten_cons, List.flatten_cons]
    exact r.append (Reps.rep r k)
theorem qd_repT (K : PySem.W.Frag) {k : Int} {j pos2} {n : Nat} {ds : (Nat → PyData) → (Nat → Int) → List PyData} (ha : QE X a (tDat us ui fun ρ ι => .tuple (ds ρ ι))) (h : X.K = K := by rfl) (hl : ∀ ρ ι, (ds ρ ι).length = n + 1 := by intro _ _; rfl) (h2 : 2 ≤ k := by decide) (hk : k < 2 ^ 40 := by decide) (hz : (n + 1) * k.toNat ≤ 16000000 := by decide) :
    QE X (.BinOp a .Mult (.Constant (.int k) j pos2) pos) (tDat us ui fun ρ ι => .tuple (List.replicate k.toNat (ds ρ ι)).flatten) :=
  (qe_op (op_repT K h) ha qe_int).weaken fun σ H Q ⟨S, ρ, ι, hh, q⟩ => ⟨S, ρ, ι, hh, fun v H' x r => by
    obtain ⟨p, xs, rfl, hp, rs⟩ := r.of_tup
    have hxl := rs.length
    rw [hl] at hxl
    exact ⟨p, k, xs, rfl, rfl, SqT.of hp, (fun z => by rw [z] at hxl; cases hxl), h2, hk, by rw [hxl]; exact hz, fun p' hp' => q _ _ (x.trans (.new hp')) (.tup upd_same ((rs.rep _).ext (.new hp')))⟩⟩
/-- a name of the module that holds an int -/
theorem qe_globI {x : Str} {i : Int} (hg : Gl X x) (hm : ∃ t, X.mg x = some (.int i t)) (hd : (x == ("__debug__" : Str)) = false := by decide) : QE X (.Name x pos) (tC (.int i)) := by
  obtain ⟨t, e⟩ := hm
  exact ⟨pe_glob hg e ⟨t, rfl⟩ hd⟩
theorem Vals.at' {xs : List V} {us : List Value} {i : Nat} {u : Value} (r : Vals xs us) (h : us[i]? = some u) : ∃ x, xs[i]? = some x ∧ RelV x u := by
  have hi : i < us.length := (List.getElem?_eq_some_iff.mp h).1
  have hi' : i < xs.length := by rw [r.length]; exact hi
  have e : xs[i]? = some xs[i] := by simp [hi']
  obtain ⟨w, hw, rw'⟩ := r.get e
  rw [h] at hw
  cases hw
  exact ⟨_, e, rw'⟩
/-- all of a list of truths -/
theorem call_allL (K : PySem.W.Frag) (hc : X.calm = true) (hk : X.K = K := by rfl) : CallR X (.builtin "all") (fun xs H Q => ∃ (p : Addr) (bs : List Bool), xs = [.ref p] ∧ SqL K H p (bs.map V.bl) ∧ Q (.bl (bs.all id)) H) := by
  subst hk
  intro pins s σ H xs us Q I r h
  obtain ⟨p, bs, rfl, hp, q⟩ := h
  obtain ⟨u, rfl, ru⟩ := vals1 r
  cases ru
  obtain ⟨its, rv, ht, hz⟩ := I.list hp
  have hh := I.ok.hd hc
  have hpl : p < s.heap.objs.size := ht.lt
  have hlen : its.toArray.size = bs.length := by rw [List.size_toArray, ← rv.length, List.length_map]
  have key : ∀ (a : Nat) (v : Value), its.toArray[a]? = some v → v = .bool (bs.getD a true) := by
    intro a v e
    have e' : its[a]? = some v := by simpa using e
    obtain ⟨x, hx, rx⟩ := rv.at' e'
    rw [List.getElem?_map] at hx
    cases hb : bs[a]? with
    | none => rw [hb] at hx; cases hx
    | some b =>
      rw [hb] at hx
      cases hx
      rw [List.getD_eq_getElem?_getD, hb]
      exact rx
  refine call_all_walk (wpAny_pyIter_list ht.isList ⟨s.heap.objs.size, _, _, its.toArray.size, _, _, fun a => bs.getD a true, rfl, Walks.list (A := X.A.in1) hh _ p (Nat.ne_of_lt hpl) its.toArray, ⟨⟨_, Heap.get?_push_size _ rfl, rfl, rfl⟩, ht.isList.at fun o e => Heap.get?_push_of_some _ e⟩, ?_, ?_⟩)
  · intro i v s' Q' E' hP hq
    rw [key i v hP]
    exact wpAny_truthy_bool hq
  · intro h' tk kp
    have I1 : Inv X pins σ H { s with heap := h', toks := tk } := I.kept fun b o e => kp b o (fun z => by
      have e2 : b = s.heap.objs.size := by simpa using z
      rw [e2] at e
      exact absurd (Heap.lt_size e) (Nat.lt_irrefl _)) (Heap.get?_push_of_some _ e)
    have e : (List.range its.toArray.size).all (fun a => bs.getD a true) = bs.all id := by
      rw [hlen]
      clear q hp rv hlen key hz
      induction bs with
      | nil => rfl
      | cons b bs ih =>
        rw [List.length_cons, List.range_succ_eq_map, List.all_cons, List.all_map, List.all_cons]
        have : ((fun a => (b :: bs).getD a true) ∘ Nat.succ) = fun a => bs.getD a true := rfl
        rw [this, ih]
        rfl
    rw [e]
    exact ⟨.bl _, H, I1, rfl, q⟩
end
end L2

open PySem
namespace Odj
def isIntD : PyData → Bool | .int _ => true | _ => false
def wholeD (lo hi : Int) : PyData → Bool
  | .int i => decide (lo ≤ i) && decide (i ≤ hi)
  | _ => false
def intOf : PyData → Int | .int i => i | _ => 0
end Odj

set_option linter.all false
open PySem
namespace Odj
def tupOf (n : Int) : PyData → Bool
  | .tuple ds => decide ((ds.length : Int) = n)
  | _ => false
def isTieD (many : Int) : PyData → Bool
  | .tuple [.int a, .int b, .int _] => decide (0 ≤ a) && decide (a < b) && decide (b < many)
  | _ => false
def isWebD : PyData → Bool
  | .tuple [.int m, .tuple ts] => decide (1 ≤ m) && decide (m ≤ 60) && decide (ts.length ≤ 200) && ts.all (isTieD m)
  | _ => false
theorem tie_len {m : Int} {ds : List PyData} (h : ds.length ≠ 3) : isTieD m (.tuple ds) = false := by
  match ds, h with
  | [], _ => rfl
  | [_], _ => simp [isTieD]
  | [_, _], _ => simp [isTieD]
  | [_, _, _], h => exact absurd rfl h
  | _ :: _ :: _ :: _ :: _, _ => simp [isTieD]
theorem tie_eq (m : Int) (x y z : PyData) : isTieD m (.tuple [x, y, z]) = (wholeD 0 (m - 2) x && (wholeD (intOf x + 1) (m - 1) y && isIntD z)) := by
  cases x with
  | int a =>
    cases y with
    | int b =>
      cases z with
      | int c =>
        show (decide (0 ≤ a) && decide (a < b) && decide (b < m)) = ((decide (0 ≤ a) && decide (a ≤ m - 2)) && ((decide (a + 1 ≤ b) && decide (b ≤ m - 1)) && true))
        by_cases h1 : 0 ≤ a <;> by_cases h2 : a < b <;> by_cases h3 : b < m
        · have e1 : a ≤ m - 2 := by omega
          have e2 : a + 1 ≤ b := by omega
          have e3 : b ≤ m - 1 := by omega
          simp [h1, h2, h3, e1, e2, e3]
        · have e3 : ¬ b ≤ m - 1 := by omega
          simp [h1, h2, h3, e3]
        · have e2 : ¬ a + 1 ≤ b := by omega
          simp [h1, h2, h3, e2]
        · have e2 : ¬ a + 1 ≤ b := by omega
          simp [h1, h2, h3, e2]
        · simp [h1]
        · simp [h1]
        · simp [h1]
        · simp [h1]
      | _ => simp [isTieD, isIntD]
    | _ => simp [isTieD, wholeD]
  | _ => simp [isTieD, wholeD]
theorem web_len {ds : List PyData} (h : ds.length ≠ 2) : isWebD (.tuple ds) = false := by
  match ds, h with
  | [], _ => rfl
  | [_], _ => simp [isWebD]
  | [_, _], h => exact absurd rfl h
  | _ :: _ :: _ :: _, _ => simp [isWebD]
def isTupD : PyData → Bool
  | .tuple _ => true
  | _ => false
theorem web_no2 {x y : PyData} (h : isTupD y = false) : isWebD (.tuple [x, y]) = false := by
  cases x <;> cases y <;> first | rfl | (exact absurd (show false = true from h) Bool.false_ne_true) | (exact absurd (show true = false from h).symm Bool.false_ne_true) | simp [isTieD] | simp [isWebD]
theorem web_no3 {m : Int} {ts : List PyData} (h : ¬ 1 ≤ m ∨ ¬ m ≤ 60 ∨ ¬ ts.length ≤ 200) : isWebD (.tuple [.int m, .tuple ts]) = false := by
  show (decide (1 ≤ m) && decide (m ≤ 60) && decide (ts.length ≤ 200) && ts.all (isTieD m)) = false
  rcases h with h | h | h <;> simp [h]
theorem web_yes {m : Int} {ts : List PyData} (h1 : 1 ≤ m) (h2 : m ≤ 60) (h3 : ts.length ≤ 200) : isWebD (.tuple [.int m, .tuple ts]) = ts.all (isTieD m) := by
  show (decide (1 ≤ m) && decide (m ≤ 60) && decide (ts.length ≤ 200) && ts.all (isTieD m)) = _
  simp [h1, h2, h3]
/-- what is written by hand -/
def tie01 (a b p : Int) : PyData := .tuple [.int a, .int b, .int p]
def hand0 : List PyData := [.tuple [.int 60, .tuple (List.replicate (Int.toNat 200) [tie01 0 59 1]).flatten], .tuple [.int 60, .tuple (List.replicate (Int.toNat 201) [tie01 0 59 1]).flatten], .tuple [.int 61, .tuple []], .tuple [.int 60, .tuple []], .tuple [.int 1, .tuple []], .tuple [.int 0, .tuple []], .tuple [.int (-1), .tuple []]]
def hand1 : List PyData := [.tuple [.int 1, .tuple [tie01 0 1 1]], .tuple [.int 2, .tuple [tie01 0 1 (-(10 ^ Int.toNat 39))]], .tuple [.int 2, .tuple [tie01 1 0 1]], .tuple [.int 2, .tuple [tie01 1 1 1]], .tuple [.int 2, .tuple [.tuple [.int 0, .int 1]]]]
def hand2 : List PyData := [.tuple [.int 2, .tuple [.tuple [.int 0, .int 1, .int 1, .int 1]]], .tuple [.bool true, .tuple []], .tuple [.int 2, .tuple [.tuple [.bool false, .int 1, .int 1]]], .tuple [.int 2, .tuple [.tuple [.int 0, .bool true, .int 1]]], .tuple [.int 2, .tuple [.tuple [.int 0, .int 1, .bool true]]]]
def hand3 : List PyData := [.tuple [.int 2, .list [tie01 0 1 1]], .tuple [.int 2, .tuple [.list [.int 0, .int 1, .int 1]]], .tuple [.int 2, .tuple [tie01 0 1 1], .tuple []], .tuple [.int 3, .tuple [tie01 (-1) 2 5]], .tuple [.int 3, .tuple [tie01 0 3 5]]]
def hand4 : List PyData := [.none, .tuple [], .int 2, .str "web", .tuple [.int 2], .list [.int 2, .tuple []], .tuple [.int 2, .none], .tuple [.str "2", .tuple []], .tuple [.int 2, .tuple [.tuple [.int 0, .int 1, .str "1"]]], .tuple [.int 2, .tuple [.tuple [.int 0, .int 1, .none]]]]
end Odj

set_option Elab.async false
set_option linter.all false
set_option maxRecDepth 100000
namespace Odj
open PySem L2
def top (i : Nat) : Stmt := PySem.Challenge.pw_oddjoins_k01_what_is_a_web.main.body.getD i (.Pass ⟨0, 0, 0, 0⟩)
/-- the built-ins are not called otherwise -/
structure Bt (mg : Str → Option Value) : Prop where
  isinstance : mg "isinstance" = none
  int : mg "int" = none
  bool : mg "bool" = none
  tuple : mg "tuple" = none
  len : mg "len" = none
section
variable {P : Program} {w : World} {K : PySem.W.Frag} {mg : Str → Option Value} {base : Heap}
theorem kit1 (d : PyData) : PySem.W.kitOne K (.type (tyD d)) (.type "int") = some (match d with | .int _ => true | .bool _ => true | _ => false) := by
  cases d <;> rfl
theorem kit2 (d : PyData) : PySem.W.kitOne K (.type (tyD d)) (.type "bool") = some (match d with | .bool _ => true | _ => false) := by
  cases d <;> rfl
theorem kit3 (d : PyData) : PySem.W.kitOne K (.type (tyD d)) (.type "tuple") = some (match d with | .tuple _ => true | _ => false) := by
  cases d <;> rfl
end
end Odj

set_option Elab.async false
set_option linter.all false
set_option maxRecDepth 100000
namespace Odj
open PySem L2
def spIsWhole : Sp := fun vs H Q _ => ∃ S d v, vs = [v] ∧ Rep S H d v ∧ Q (.bl (isIntD d)) H
section
variable {P : Program} {w : World} {K : PySem.W.Frag} {mg : Str → Option Value} {base : Heap} {f : Addr} {fd : FuncData}
theorem d_is_whole (F : Fun K "is_whole" "is_whole" (top 1) f fd) (hm : mg "is_whole" = some (.ref f)) (B : Bt mg) : DefOk P w K mg base 1 "is_whole" ["thing"] spIsWhole := by
  refine ⟨f, fd, ?_, hm, F.kp, F.binds fun _ _ _ _ _ _ us hl => match us, hl with | [_], _ => rfl⟩
  have sc : FnScope ["thing"] ["thing"] (defScope (top 1)) := ⟨rfl, rfl, rfl, by decide +kernel, rfl, by decide +kernel, by decide +kernel⟩
  refine F.okQ sc (fun vs H Q E h => ?_) (fun cdv A outer s H vs Q E hr h => ?_)
  · obtain ⟨S, d, v, rfl, _⟩ := h
    rfl
  · obtain ⟨S, d, v, rfl, rp, q⟩ := h
    refine ⟨_, (qss_one (qs_ret (qe_and (qe_callB call_isi (by rfl) B.isinstance (by decide +kernel) (qa_c (qv 0) (qa_c (qe_ty "int" (by rfl) B.int (by decide +kernel)) qa_nil))) (qe_one (qe_not (qe_callB call_isi (by rfl) B.isinstance (by decide +kernel) (qa_c (qv 0) (qa_c (qe_ty "bool" (by rfl) B.bool (by decide +kernel)) qa_nil)))))))), ?_⟩
    refine ⟨v, rfl, v, _, _, _, rfl, rp.ty, kit1 d, _, rfl, ?_⟩
    cases d with
    | int i => exact iteT ⟨v, rfl, v, _, _, _, rfl, rp.ty, kit2 _, _, rfl, q⟩
    | bool b => exact iteT ⟨v, rfl, v, _, _, _, rfl, rp.ty, kit2 _, _, rfl, q⟩
    | _ => exact iteF q
end
end Odj

set_option Elab.async false
set_option linter.all false
set_option maxRecDepth 100000
namespace Odj
open PySem L2
/-- the feed at fa, its script at sa, asked n times so far -/
structure Feed (H : Hp) (fa sa : Addr) (n : Int) : Prop where
  ex : ∃ (ns : List Int) (i c : Int), H fa = some (.lst [.ref sa, .int i, .int c, .int n]) ∧ H sa = some (.lst (ns.map V.int))
  ne : sa ≠ fa
  lo : 0 ≤ n
theorem Feed.ext {S : List Addr} {H H' : Hp} {fa sa : Addr} {n : Int} (f : Feed H fa sa n) (x : Ext S H H') (h1 : fa ∉ S) (h2 : sa ∉ S) : Feed H' fa sa n := by
  obtain ⟨ns, i, c, e1, e2⟩ := f.ex
  exact ⟨⟨ns, i, c, x.keep _ _ h1 e1, x.keep _ _ h2 e2⟩, f.ne, f.lo⟩
theorem Feed.put {H : Hp} {fa sa : Addr} {n : Int} (f : Feed H fa sa n) (i c n' : Int) (h : 0 ≤ n') : Feed (upd H fa (.lst [.ref sa, .int i, .int c, .int n'])) fa sa n' ∧ Ext [fa] H (upd H fa (.lst [.ref sa, .int i, .int c, .int n'])) := by
  obtain ⟨ns, i0, c0, e1, e2⟩ := f.ex
  exact ⟨⟨⟨ns, i, c, upd_same, by rw [upd_ne f.ne]; exact e2⟩, f.ne, h⟩, .set (by simp) e1⟩
def most : Int := 1099511627776
/-- a draw below many -/
def spDraw : Sp := fun vs H Q _ => ∃ (fa sa : Addr) (n many : Int), vs = [.ref fa, .int many] ∧ Feed H fa sa n ∧ 0 < many ∧ many < 1073741824 ∧ n < most ∧
  ∀ (r : Int) (H' : Hp), 0 ≤ r → r < many → Feed H' fa sa (n + 1) → Ext [fa] H H' → Q (.int r) H'
theorem canLay_ints (ns : List Int) : PyData.canLayAll0 (ns.map PyData.int) = true := by
  induction ns with
  | nil => rfl
  | cons n ns ih => simpa [PyData.canLayAll0, PyData.canLay0] using ih
theorem depth_ints (ns : List Int) : PyData.depthAll (ns.map PyData.int) = 0 := by
  induction ns with
  | nil => rfl
  | cons n ns ih => simpa [PyData.depthAll, PyData.depth] using ih
section
variable {P : Program} {w : World} {K : PySem.W.Frag} {mg : Str → Option Value} {base : Heap} {f : Addr} {fd : FuncData}
theorem d_draw (F : Fun K "_law_draw" "_law_draw" (top 12) f fd) (hm : mg "_law_draw" = some (.ref f)) (B : Bt mg) : DefOk P w K mg base 1 "_law_draw" ["_law_feed_here", "_law_many"] spDraw := by
  refine ⟨f, fd, ?_, hm, F.kp, F.binds fun _ _ _ _ _ _ us hl => match us, hl with | [_, _], _ => rfl⟩
  have sc : FnScope ["_law_feed_here", "_law_many", "_law_found", "_law_cell", "_law_mixed"] ["_law_feed_here", "_law_many"] (defScope (top 12)) := ⟨rfl, rfl, rfl, by decide +kernel, rfl, by decide +kernel, by decide +kernel⟩
  refine F.okQ sc (fun vs H Q E h => ?_) (fun cdv A outer s H vs Q E hr h => ?_)
  · obtain ⟨fa, sa, n, many, rfl, _⟩ := h
    rfl
  · obtain ⟨fa, sa, n, many, rfl, fe, m0, m1, nm, q⟩ := h
    refine ⟨_, (qss_cons (qs_asg (qe_op op_add (qe_ix ix_list (qv 0) qe_int (fun _ _ => rfl)) qe_int) (qg_sub (qv 0) qe_int set_list))
      (qss_cons (qs_if (qt_cmpR op_gt (qe_ix ix_list (qv 0) qe_int (fun _ _ => rfl)) qe_int (nomark _)) (qss_cons (qs_set (i := 2) sc.nd rfl (Or.inl rfl) (qe_op op_mod (qe_ix ix_list (qv 0) qe_int (fun _ _ => rfl)) (qv 1)))
      (qss_cons (qs_asg (qe_op op_fdiv (qe_ix ix_list (qv 0) qe_int (fun _ _ => rfl)) (qv 1)) (qg_sub (qv 0) qe_int set_list))
      (qss_one (qs_ret (qv 2))))) qss_nil)
      (qss_cons (qs_set (i := 3) sc.nd rfl (Or.inl rfl) qe_int)
      (qss_cut (qs_if (qt_cmpR (op_neD hr) (qe_ix ix_list (qv 0) qe_int (fun _ _ => rfl)) (qe_lst qa_nil) (nomark _)) (qss_one (qs_set (i := 3) sc.nd rfl (Or.inl rfl) (qe_ix ix_list (qe_ix ix_list (qv 0) qe_int (fun _ _ => rfl)) (qe_op op_mod (qe_ix ix_list (qv 0) qe_int (fun _ _ => rfl)) (qe_callB call_len_seq (by rfl) B.len (by decide +kernel) (qa_c (qe_ix ix_list (qv 0) qe_int (fun _ _ => rfl)) qa_nil))) (fun _ _ => rfl)))) qss_nil)
      (qss_cons (qs_asg (qe_op op_add (qe_ix ix_list (qv 0) qe_int (fun _ _ => rfl)) qe_int) (qg_sub (qv 0) qe_int set_list))
      (qss_cut (qs_if (QW.pt (qw_and (qt_cmpR op_ge (qv 3) (qe_op op_pow qe_int qe_int) (nomark _)) (qw_and1 (qt_cmpR op_le (qe_ix ix_list (qv 0) qe_int (fun _ _ => rfl)) (qe_callB call_len_seq (by rfl) B.len (by decide +kernel) (qa_c (qe_ix ix_list (qv 0) qe_int (fun _ _ => rfl)) qa_nil)) (nomark _))))) (qss_cons (qs_asg (qe_op op_fdiv (qv 3) (qv 1)) (qg_sub (qv 0) qe_int set_list))
      (qss_one (qs_ret (qe_op op_mod (qv 3) (qv 1))))) qss_nil)
      (qss_cons (qs_set (i := 4) sc.nd rfl (Or.inl rfl) (qe_op op_mod (qe_op op_mul (qe_op op_add (qe_op op_mod (qv 3) qe_int) (qe_op op_mul qe_int (qe_ix ix_list (qv 0) qe_int (fun _ _ => rfl)))) qe_int) qe_int))
      (qss_cons (qs_set (i := 4) sc.nd rfl (Or.inl rfl) (qe_op op_mod (qe_op op_mul (qe_op op_add (qe_op op_fdiv (qv 4) qe_int) (qe_op op_mul (qe_op op_mul qe_int (qe_ix ix_list (qv 0) qe_int (fun _ _ => rfl))) (qe_ix ix_list (qv 0) qe_int (fun _ _ => rfl)))) qe_int) qe_int))
      (qss_one (qs_ret (qe_op op_mod (qe_op op_fdiv (qv 4) qe_int) (qv 1)))))))))))), ?_⟩
    obtain ⟨ns, i, c, e1, e2⟩ := fe.ex
    have n0 := fe.lo
    obtain ⟨f1, x1⟩ := fe.put i c (n + 1) (by omega)
    refine ⟨_, rfl, fa, _, 3, _, rfl, rfl, SqL.of e1, rfl, n, 1, rfl, rfl, _, rfl, fa, _, 3, 3, rfl, rfl, e1, rfl, ?_⟩
    refine ⟨_, rfl, fa, _, 2, _, rfl, rfl, SqL.of upd_same, rfl, c, 0, rfl, rfl, _, rfl, ite2 (fun hc => ?_) (fun hc => ?_)⟩
    · refine ⟨_, rfl, fa, _, 2, _, rfl, rfl, SqL.of upd_same, rfl, _, rfl, c, many, rfl, rfl, m0, ?_⟩
      refine ⟨_, rfl, fa, _, 2, _, rfl, rfl, SqL.of upd_same, rfl, _, rfl, c, many, rfl, rfl, ⟨m0, m1⟩, _, rfl, fa, _, 2, 2, rfl, rfl, upd_same, rfl, ?_⟩
      obtain ⟨f2, x2⟩ := f1.put i (c / many) (n + 1) (by omega)
      exact ⟨_, rfl, q _ _ (Int.emod_nonneg _ (by omega)) (Int.emod_lt_of_pos _ m0) f2 (x1.trans x2)⟩
    · -- the cell
      refine ⟨fun σ' H' => ∃ cell : Int, σ' = [some (.ref fa), some (.int many), none, some (.int cell), none] ∧ Feed H' fa sa (n + 1) ∧ Ext [fa] H H', ?_, ?_⟩
      · refine ⟨_, rfl, fa, _, 0, _, rfl, rfl, SqL.of upd_same, rfl, Nat.zero_le _, fun p hp => ?_⟩
        have hpf : p ≠ fa := fun z => by rw [z, upd_same] at hp; cases hp
        have x2 : Ext [] (upd H fa (.lst [.ref sa, .int i, .int c, .int (n + 1)])) (upd (upd H fa (.lst [.ref sa, .int i, .int c, .int (n + 1)])) p (.lst [])) := .new hp
        have f2 := f1.ext x2 (by simp) (by simp)
        have x3 := x1.trans (x2.mono (S' := [fa]) (by simp))
        have a2 : (upd (upd H fa (.lst [.ref sa, .int i, .int c, .int (n + 1)])) p (.lst [])) sa = some (.lst (ns.map V.int)) := x2.keep _ _ (by simp) (by rw [upd_ne fe.ne]; exact e2)
        have a1 : (upd (upd H fa (.lst [.ref sa, .int i, .int c, .int (n + 1)])) p (.lst [])) fa = some (.lst [.ref sa, .int i, .int c, .int (n + 1)]) := x2.keep _ _ (by simp) upd_same
        refine ⟨[], .list (ns.map .int), .list [], .lst a2 (by simp) (.ints ns), .lst upd_same (by simp) .nil, canLay_ints ns, rfl, by simp [PyData.depth, depth_ints], _, rfl, ?_⟩
        cases ns with
        | nil => exact iteF ⟨7, rfl, f2, x3⟩
        | cons k ns =>
          refine iteT ?_
          have hl : (0 : Int) < (((k :: ns).map V.int).length : Nat) := by simp
          obtain ⟨v, hv, hv2⟩ := atI_ex (xs := (k :: ns).map V.int) (Int.emod_nonneg i (by omega)) (Int.emod_lt_of_pos i hl)
          obtain ⟨z, rfl⟩ : ∃ z, v = V.int z := by
            rw [List.getElem?_map] at hv2
            cases e : (k :: ns)[(i % (((k :: ns).map V.int).length : Nat)).toNat]? with
            | none => rw [e] at hv2; cases hv2
            | some z => rw [e] at hv2; exact ⟨z, (Option.some.inj hv2).symm⟩
          refine ⟨_, rfl, fa, _, 0, _, rfl, rfl, SqL.of a1, rfl, _, rfl, fa, _, 1, _, rfl, rfl, SqL.of a1, rfl, _, rfl, fa, _, 0, _, rfl, rfl, SqL.of a1, rfl, sa, _, rfl, .inl (SqL.of a2), i, _, rfl, rfl, hl, sa, _, _, _, rfl, rfl, SqL.of a2, hv, z, rfl, f2, x3⟩
      · rintro σ' H' ⟨cell, rfl, f2, x2⟩
        obtain ⟨ns2, i2, c2, b1, b2⟩ := f2.ex
        obtain ⟨f3, x3⟩ := f2.put (i2 + 1) c2 (n + 1) (by omega)
        have b3 : (upd H' fa (.lst [.ref sa, .int (i2 + 1), .int c2, .int (n + 1)])) sa = some (.lst (ns2.map V.int)) := by rw [upd_ne fe.ne]; exact b2
        refine ⟨_, rfl, fa, _, 1, _, rfl, rfl, SqL.of b1, rfl, i2, 1, rfl, rfl, _, rfl, fa, _, 1, 1, rfl, rfl, b1, rfl, ?_⟩
        refine ⟨fun σ' H2 => σ' = [some (.ref fa), some (.int many), none, some (.int cell), none] ∧ H2 = upd H' fa (.lst [.ref sa, .int (i2 + 1), .int c2, .int (n + 1)]), ?_, ?_⟩
        · refine ⟨_, rfl, 10, 18, rfl, rfl, ⟨by decide, by decide, by decide⟩, cell, _, rfl, rfl, _, rfl, ite2 (fun hb => ?_) (fun hb => ?_)⟩
          · refine ⟨_, rfl, fa, _, 1, _, rfl, rfl, SqL.of upd_same, rfl, _, rfl, fa, _, 0, _, rfl, rfl, SqL.of upd_same, rfl, sa, _, rfl, .inl (SqL.of b3), _, _, rfl, rfl, _, rfl, ite2 (fun hd => ?_) (fun hd => ?_)⟩
            · refine ⟨_, rfl, _, rfl, cell, many, rfl, rfl, ⟨m0, m1⟩, _, rfl, fa, _, 2, 2, rfl, rfl, upd_same, rfl, ?_⟩
              obtain ⟨f4, x4⟩ := f3.put (i2 + 1) (cell / many) (n + 1) (by omega)
              exact ⟨_, rfl, _, rfl, cell, many, rfl, rfl, m0, q _ _ (Int.emod_nonneg _ (by omega)) (Int.emod_lt_of_pos _ m0) f4 ((x2.trans x3).trans x4)⟩
            · exact ⟨rfl, rfl⟩
          · exact iteF ⟨rfl, rfl⟩
        · rintro σ' H2 ⟨rfl, rfl⟩
          have nb : -(2 ^ 64) < n + 1 ∧ n + 1 < 2 ^ 64 := by
            have : most = 1099511627776 := rfl
            constructor <;> omega
          refine ⟨_, rfl, _, _, rfl, rfl, (by show (0 : Int) < 1000000007; decide), _, rfl, fa, _, 3, _, rfl, rfl, SqL.of upd_same, rfl, _, _, rfl, rfl, .inl ⟨by decide, by decide⟩, _, _, rfl, rfl, _, _, rfl, rfl, .inr ⟨by decide, by decide⟩, _, _, rfl, rfl, (by show (0 : Int) < 2147483629; decide), ?_⟩
          refine ⟨_, rfl, _, _, rfl, rfl, ⟨by decide, by decide⟩, _, rfl, fa, _, 3, _, rfl, rfl, SqL.of upd_same, rfl, _, _, rfl, rfl, .inl ⟨by decide, by decide⟩, _, rfl, fa, _, 3, _, rfl, rfl, SqL.of upd_same, rfl, _, _, rfl, rfl, .inr nb, _, _, rfl, rfl, _, _, rfl, rfl, .inr ⟨by decide, by decide⟩, _, _, rfl, rfl, (by show (0 : Int) < 2147483587; decide), ?_⟩
          exact ⟨_, rfl, _, _, rfl, rfl, ⟨by decide, by decide⟩, _, rfl, _, _, rfl, rfl, m0, q _ _ (Int.emod_nonneg _ (by omega)) (Int.emod_lt_of_pos _ m0) f3 (x2.trans x3)⟩
end
end Odj

set_option Elab.async false
set_option linter.all false
set_option maxRecDepth 100000
set_option maxHeartbeats 4000000
namespace Odj
open PySem L2
/-- a web's own shape -/
def webD (many : Int) (ts : List PyData) : PyData := .tuple [.int many, .tuple ts]
def spWhole : Sp := fun vs H Q _ => ∃ S d v lo hi, vs = [v, .int lo, .int hi] ∧ Rep S H d v ∧ Q (.bl (wholeD lo hi d)) H
theorem web_of {S : List Addr} {H : Hp} {many : Int} {ts : List PyData} {v : V} (h : Rep S H (webD many ts) v) : ∃ a t xs, v = .ref a ∧ H a = some (.tup [.int many, .ref t]) ∧ H t = some (.tup xs) ∧ Reps S H ts xs := by
  obtain ⟨a, xs, e, ha, r⟩ := h.of_tup
  obtain ⟨x, r1, e1, h1, h2⟩ := r.of_cons
  obtain ⟨y, r2, e2, h3, h4⟩ := h2.of_cons
  have e3 := h4.of_nil
  have e4 := h1.of_int
  subst e1 e2 e3 e4
  obtain ⟨t, ys, e5, ht, h5⟩ := h3.of_tup
  subst e5
  exact ⟨a, t, ys, e, ha, ht, h5⟩
def spFeed (K : PySem.W.Frag) : Sp := fun vs H Q _ => ∃ (a : Addr) (ns : List Int), vs = [.ref a] ∧ SqL K H a (ns.map V.int) ∧ ∀ (fa sa : Addr) (H' : Hp), Feed H' fa sa 0 → Ext [] H H' → H fa = none → H sa = none → Q (.ref fa) H'
def spPrice : Sp := fun vs H Q _ => ∃ (fa sa : Addr) (n : Int) (b : Bool), vs = [.ref fa, .bl b] ∧ Feed H fa sa n ∧ n + 3 ≤ most ∧
  ∀ (p n' : Int) (H' : Hp), -99 ≤ p → p ≤ 99 → n ≤ n' → n' ≤ n + 3 → Feed H' fa sa n' → Ext [fa] H H' → Q (.int p) H'
theorem Feed.has {H : Hp} {fa sa : Addr} {n : Int} (f : Feed H fa sa n) {l : Addr} (h : H l = none) : l ≠ fa ∧ l ≠ sa := by
  obtain ⟨ns, i, c, e1, e2⟩ := f.ex
  exact ⟨(ne_of_none e1 h).symm, (ne_of_none e2 h).symm⟩
section
variable {P : Program} {w : World} {K : PySem.W.Frag} {mg : Str → Option Value} {base : Heap} {f : Addr} {fd : FuncData}
theorem d_whole (F : Fun K "_law_whole" "_law_whole" (top 15) f fd) (hm : mg "_law_whole" = some (.ref f)) (B : Bt mg) : DefOk P w K mg base 1 "_law_whole" ["_law_thing", "_law_least", "_law_most"] spWhole := by
  refine ⟨f, fd, ?_, hm, F.kp, F.binds fun _ _ _ _ _ _ us hl => match us, hl with | [_, _, _], _ => rfl⟩
  have sc : FnScope ["_law_thing", "_law_least", "_law_most"] ["_law_thing", "_law_least", "_law_most"] (defScope (top 15)) := ⟨rfl, rfl, rfl, by decide +kernel, rfl, by decide +kernel, by decide +kernel⟩
  refine F.okQ sc (fun vs H Q E h => ?_) (fun cdv A outer s H vs Q E hr h => ?_)
  · obtain ⟨S, d, v, lo, hi, rfl, _⟩ := h
    rfl
  · obtain ⟨S, d, v, lo, hi, rfl, rp, q⟩ := h
    refine ⟨_, (qss_one (qs_ret (qe_and (qe_callB (isiK K) (by rfl) B.isinstance (by decide +kernel) (qa_c (qv 0) (qa_c (qe_ty "int" (by rfl) B.int (by decide +kernel)) qa_nil))) (qe_and (qe_not (qe_callB (isiK K) (by rfl) B.isinstance (by decide +kernel) (qa_c (qv 0) (qa_c (qe_ty "bool" (by rfl) B.bool (by decide +kernel)) qa_nil)))) (qe_one (qe_chain op_le op_le (qv 1) (qv 0) (qv 2))))))), ?_⟩
    refine ⟨v, rfl, v, _, _, _, rfl, rp.ty, kit1 d, _, rfl, ?_⟩
    cases d with
    | int i =>
      have ev := rp.of_int
      refine iteT ⟨v, rfl, v, _, _, _, rfl, rp.ty, kit2 _, _, rfl, _, rfl, iteT ⟨_, rfl, _, rfl, lo, i, rfl, ev, _, rfl, ite2 (fun h => ?_) (fun h => ?_)⟩⟩
      · refine ⟨_, rfl, i, hi, ev, rfl, ?_⟩
        have e : wholeD lo hi (.int i) = decide (i ≤ hi) := by show (decide (lo ≤ i) && decide (i ≤ hi)) = _; rw [h]; rfl
        rw [e] at q
        exact q
      · have e : wholeD lo hi (.int i) = false := by show (decide (lo ≤ i) && decide (i ≤ hi)) = _; rw [Bool.not_eq_true _ |>.mp h]; rfl
        rw [e] at q
        exact q
    | bool b => exact iteT ⟨v, rfl, v, _, _, _, rfl, rp.ty, kit2 _, _, rfl, _, rfl, iteF q⟩
    | _ => exact iteF q
theorem d_feed (F : Fun K "_law_feed" "_law_feed" (top 11) f fd) (hm : mg "_law_feed" = some (.ref f)) : DefOk P w K mg base 1 "_law_feed" ["_law_script"] (spFeed K) := by
  refine ⟨f, fd, ?_, hm, F.kp, F.binds fun _ _ _ _ _ _ us hl => match us, hl with | [_], _ => rfl⟩
  have sc : FnScope ["_law_script"] ["_law_script"] (defScope (top 11)) := ⟨rfl, rfl, rfl, by decide +kernel, rfl, by decide +kernel, by decide +kernel⟩
  refine F.okQ sc (fun vs H Q E h => ?_) (fun cdv A outer s H vs Q E hr h => ?_)
  · obtain ⟨a, ns, rfl, _⟩ := h
    rfl
  · obtain ⟨a, ns, rfl, hs, q⟩ := h
    refine ⟨_, (qss_one (qs_ret (qe_lst (qa_c (qe_slice (slL K) (qv 0) qo_none (qo_some qe_int)) (qa_c qe_int (qa_c qe_int (qa_c qe_int qa_nil))))))), ?_⟩
    refine ⟨_, rfl, 63, rfl, a, _, rfl, hs, fun p hp => ⟨by show 4 ≤ sizeLine; decide, fun l hl => ?_⟩⟩
    have hpl : p ≠ l := fun z => by rw [← z, upd_same] at hl; cases hl
    have hl0 : H l = none := by rw [upd_ne hpl.symm] at hl; exact hl
    have x : Ext [] H (upd (upd H p (.lst (cutV (ns.map V.int) none (some 63)))) l (.lst [.ref p, .int 0, .int 0, .int 0])) := (Ext.new hp).trans (.new hl)
    refine q l p _ ⟨⟨(ns.drop (HT.sIx (ns.map V.int).length 0 none)).take (HT.sIx (ns.map V.int).length (ns.map V.int).length (some 63) - HT.sIx (ns.map V.int).length 0 none), 0, 0, upd_same, ?_⟩, hpl, by decide⟩ x hl0 hp
    rw [upd_ne hpl, upd_same]
    unfold cutV
    rw [List.map_take, List.map_drop]
theorem d_price (F : Fun K "_law_price" "_law_price" (top 13) f fd) (hm : mg "_law_price" = some (.ref f)) (D_law_draw : DefOk P w K mg base 1 "_law_draw" ["_law_feed_here", "_law_many"] spDraw) : DefOk P w K mg base 2 "_law_price" ["_law_feed_here", "_law_signed"] spPrice := by
  refine ⟨f, fd, ?_, hm, F.kp, F.binds fun _ _ _ _ _ _ us hl => match us, hl with | [_, _], _ => rfl⟩
  have sc : FnScope ["_law_feed_here", "_law_signed", "_law_price_here"] ["_law_feed_here", "_law_signed"] (defScope (top 13)) := ⟨rfl, rfl, rfl, by decide +kernel, rfl, by decide +kernel, by decide +kernel⟩
  refine F.okQ sc (fun vs H Q E h => ?_) (fun cdv A outer s H vs Q E hr h => ?_)
  · obtain ⟨fa, sa, n, b, rfl, _⟩ := h
    rfl
  · obtain ⟨fa, sa, n, b, rfl, fe, nm, q⟩ := h
    refine ⟨_, (qss_cons (qs_set (i := 2) sc.nd rfl (Or.inl rfl) (qe_ix (ixL K) (qe_lst (qa_c qe_int (qa_c qe_int (qa_c qe_int (qa_c qe_int (qa_c qe_int (qa_c qe_int (qa_c qe_int (qa_c (qe_callD D_law_draw (hr.mono (by decide)) (qa_c (qv 0) (qa_c qe_int qa_nil))) qa_nil))))))))) (qe_callD D_law_draw (hr.mono (by decide)) (qa_c (qv 0) (qa_c qe_int qa_nil))) (fun _ _ => rfl)))
      (qss_one (qs_ret (qe_ifExp (QW.pt (qw_and (qt_val (qv 1)) (qw_and1 (qt_cmpR op_eq (qe_callD D_law_draw (hr.mono (by decide)) (qa_c (qv 0) (qa_c qe_int qa_nil))) qe_int (nomark _))))) (qe_un un_neg (qv 2)) (qv 2))))), ?_⟩
    refine ⟨_, rfl, fa, sa, n, 100, rfl, fe, by decide, by decide, by omega, fun r H1 h0 h1 f1 x1 => ⟨by show 8 ≤ sizeLine; decide, fun l hl => ?_⟩⟩
    have f1' := f1.ext (Ext.new (S := []) (o := .lst [.int 1, .int 2, .int 3, .int 0, .int 5, .int 1, .int 99, .int r]) hl) (by simp) (by simp)
    refine ⟨_, rfl, fa, sa, n + 1, 8, rfl, f1', by decide, by decide, by omega, fun r2 H2 g0 g1 f2 x2 => ?_⟩
    have hlf := (f1.has hl).1
    have hl2 : H2 l = some (.lst [.int 1, .int 2, .int 3, .int 0, .int 5, .int 1, .int 99, .int r]) := x2.keep l _ (by simpa using hlf) upd_same
    obtain ⟨v, hv, hv2⟩ := atI_ex (xs := [V.int 1, .int 2, .int 3, .int 0, .int 5, .int 1, .int 99, .int r]) g0 (by simpa using g1)
    obtain ⟨p, rfl, p0, p1⟩ : ∃ p, v = V.int p ∧ 0 ≤ p ∧ p ≤ 99 := by
      have hm := List.mem_of_getElem? hv2
      simp only [List.mem_cons, List.not_mem_nil, or_false] at hm
      rcases hm with e | e | e | e | e | e | e | e <;> exact ⟨_, e, by omega, by omega⟩
    have xx : Ext [fa] H H2 := (x1.trans (.new hl)).trans x2
    refine ⟨l, _, r2, _, rfl, rfl, SqL.of hl2, hv, ?_⟩
    refine ⟨_, rfl, b, rfl, ?_⟩
    cases b with
    | false => exact iteF (iteF ⟨_, rfl, q p _ H2 (by omega) (by omega) (by omega) (by omega) f2 xx⟩)
    | true =>
      refine iteT ⟨_, rfl, fa, sa, n + 1 + 1, 3, rfl, f2, by decide, by decide, by omega, fun r3 H3 k0 k1 f3 x3 => ⟨rfl, _, rfl, ite2 (fun hz => ?_) (fun hz => ?_)⟩⟩
      · exact ⟨_, rfl, p, rfl, q (-p) _ H3 (by omega) (by omega) (by omega) (by omega) f3 (xx.trans x3)⟩
      · exact ⟨_, rfl, q p _ H3 (by omega) (by omega) (by omega) (by omega) f3 (xx.trans x3)⟩
end
end Odj

set_option Elab.async false
set_option linter.all false
set_option maxRecDepth 100000
set_option maxHeartbeats 4000000
namespace L2
open PySem
/-! ### comprehensions by a word -/
section
variable {mp : List (Option Nat)} {g : TG} {tc : TT} {te : TE} {σ : St} {H : Hp} {R : List V → Hp → Prop}
theorem comp_range {lo : Int} {n : Nat} (Pv : Nat → List V → St → Hp → Prop) (h0 : Pv 0 [] (seed mp σ) H)
    (hs : ∀ i ys σ' H', i < n → Pv i ys σ' H' → ys.length < sizeLine ∧ g (.int (lo + i)) σ' H' fun σ2 H2 => tc σ2 H2 fun b H3 => if b = true then te σ2 H3 fun y H4 => Pv (i + 1) (ys ++ [y]) σ2 H4 else Pv (i + 1) ys σ2 H3)
    (hd : ∀ ys σ' H', Pv n ys σ' H' → ys.length ≤ sizeLine ∧ R ys H') :
    ∃ W : Nat → Nat → List V → St → Hp → Prop, (∃ m, W 0 m [] (seed mp σ) H) ∧ ∀ i m ys σ' H', W i m ys σ' H' →
      ((Itr lo n).stop i H' ∧ ys.length ≤ sizeLine ∧ R ys H') ∨
      ((Itr lo n).go i H' ∧ ys.length < sizeLine ∧ ∀ x H'', (Itr lo n).yld i H' x H'' → g x σ' H'' fun σ2 H2 => tc σ2 H2 fun b H3 =>
        if b = true then te σ2 H3 fun y H4 => ∃ m', m' < m ∧ W (i + 1) m' (ys ++ [y]) σ2 H4 else ∃ m', m' < m ∧ W (i + 1) m' ys σ2 H3) := by
  refine ⟨fun i m ys σ H => m = n - i ∧ i ≤ n ∧ Pv i ys σ H, ⟨n, by simp, Nat.zero_le _, h0⟩, ?_⟩
  rintro i m ys σ' H' ⟨rfl, hi, p⟩
  by_cases hlt : i < n
  · obtain ⟨hl, q⟩ := hs i ys σ' H' hlt p
    refine .inr ⟨hlt, hl, fun x H'' y => ?_⟩
    obtain ⟨e, y⟩ := y
    subst e y
    have e : ∀ ys σ H, (∃ m', m' < n - i ∧ m' = n - (i + 1) ∧ i + 1 ≤ n ∧ Pv (i + 1) ys σ H) = Pv (i + 1) ys σ H := fun ys σ H => propext ⟨fun ⟨_, _, _, _, z⟩ => z, fun z => ⟨_, by omega, rfl, hlt, z⟩⟩
    simp only [e]
    exact q
  · have e : i = n := by omega
    subst e
    obtain ⟨hl, q⟩ := hd ys σ' H' p
    exact .inl ⟨Nat.le_refl _, hl, q⟩
theorem comp_tup {K : PySem.W.Frag} {a : Addr} {xs : List V} (Pv : Nat → List V → St → Hp → Prop) (h0 : Pv 0 [] (seed mp σ) H) (hl : ∀ i ys σ' H', Pv i ys σ' H' → SqT K H' a xs)
    (hs : ∀ i x ys σ' H', xs[i]? = some x → Pv i ys σ' H' → ys.length < sizeLine ∧ g x σ' H' fun σ2 H2 => tc σ2 H2 fun b H3 => if b = true then te σ2 H3 fun y H4 => Pv (i + 1) (ys ++ [y]) σ2 H4 else Pv (i + 1) ys σ2 H3)
    (hd : ∀ ys σ' H', Pv xs.length ys σ' H' → ys.length ≤ sizeLine ∧ R ys H') :
    ∃ W : Nat → Nat → List V → St → Hp → Prop, (∃ m, W 0 m [] (seed mp σ) H) ∧ ∀ i m ys σ' H', W i m ys σ' H' →
      ((Itt K a).stop i H' ∧ ys.length ≤ sizeLine ∧ R ys H') ∨
      ((Itt K a).go i H' ∧ ys.length < sizeLine ∧ ∀ x H'', (Itt K a).yld i H' x H'' → g x σ' H'' fun σ2 H2 => tc σ2 H2 fun b H3 =>
        if b = true then te σ2 H3 fun y H4 => ∃ m', m' < m ∧ W (i + 1) m' (ys ++ [y]) σ2 H4 else ∃ m', m' < m ∧ W (i + 1) m' ys σ2 H3) := by
  refine ⟨fun i m ys σ H => m = xs.length - i ∧ i ≤ xs.length ∧ Pv i ys σ H, ⟨xs.length, by simp, Nat.zero_le _, h0⟩, ?_⟩
  rintro i m ys σ' H' ⟨rfl, hi, p⟩
  have q0 := hl i ys σ' H' p
  by_cases hlt : i < xs.length
  · have e : ∀ ys σ H, (∃ m', m' < xs.length - i ∧ m' = xs.length - (i + 1) ∧ i + 1 ≤ xs.length ∧ Pv (i + 1) ys σ H) = Pv (i + 1) ys σ H := fun ys σ H => propext ⟨fun ⟨_, _, _, _, z⟩ => z, fun z => ⟨_, by omega, rfl, hlt, z⟩⟩
    have hx : xs[i]? = some xs[i] := by simp [hlt]
    refine .inr ⟨⟨xs, xs[i], q0, hx⟩, (hs i _ ys σ' H' hx p).1, fun x H'' y => ?_⟩
    obtain ⟨e1, y⟩ := y
    subst e1
    simp only [e]
    exact (hs i x ys σ' _ (y xs q0) p).2
  · have e : i = xs.length := by omega
    subst e
    obtain ⟨hl, q⟩ := hd ys σ' H' p
    exact .inl ⟨⟨xs, q0, Nat.le_refl _⟩, hl, q⟩
end
end L2
namespace Odj
open PySem L2
structure Bt2 (mg : Str → Option Value) : Prop where
  range : mg "range" = none
section
variable {P : Program} {w : World} {K : PySem.W.Frag} {mg : Str → Option Value} {base : Heap} {f : Addr} {fd : FuncData}
end
end Odj

set_option Elab.async false
set_option linter.all false
set_option maxRecDepth 100000
set_option maxHeartbeats 4000000
namespace Odj
open PySem L2
theorem truN {i : Nat} {x : V} {σ : St} {H : Hp} {A B : St → Hp → Prop} (h : A (σ.set i (some x)) H) : gName i x σ H fun σ2 H2 => tTrue σ2 H2 fun b H3 => if b = true then A σ2 H3 else B σ2 H3 := by
  show if true = true then A (σ.set i (some x)) H else B (σ.set i (some x)) H
  exact iteT h
def lenD : PyData → Nat
  | .tuple ds => ds.length
  | _ => 0
section
variable {P : Program} {w : World} {K : PySem.W.Frag} {mg : Str → Option Value} {base : Heap} {f : Addr} {fd : FuncData}
end
end Odj

set_option Elab.async false
set_option linter.all false
set_option maxRecDepth 100000
set_option maxHeartbeats 8000000
namespace Odj
open PySem L2
abbrev Tie := Int × Int × Int
def tieD (t : Tie) : PyData := .tuple [.int t.1, .int t.2.1, .int t.2.2]
structure TieOk (many : Int) (t : Tie) : Prop where
  a0 : 0 ≤ t.1
  ab : t.1 < t.2.1
  bm : t.2.1 < many
  p0 : -99 ≤ t.2.2
  p1 : t.2.2 ≤ 99
/-- ties stand so in H, whatever lists change -/
def Ties (H : Hp) (ts : List Tie) (xs : List V) : Prop := ∀ S, Reps S H (ts.map tieD) xs
theorem Ties.ext {S : List Addr} {H H' : Hp} {ts : List Tie} {xs : List V} (h : Ties H ts xs) (x : Ext S H H') : Ties H' ts xs := fun S' => ((h (S' ++ S)).ext (x.mono fun b hb => List.mem_append_right _ hb)).less fun b hb => List.mem_append_left _ hb
theorem Ties.nil {H : Hp} : Ties H [] [] := fun _ => .nil
theorem Ties.append {H : Hp} {ts us : List Tie} {xs ys : List V} (h : Ties H ts xs) (k : Ties H us ys) : Ties H (ts ++ us) (xs ++ ys) := fun S => by rw [List.map_append]; exact (h S).append (k S)
theorem Ties.one {H : Hp} {t : Tie} {p : Addr} (h : H p = some (.tup [.int t.1, .int t.2.1, .int t.2.2])) : Ties H [t] [.ref p] := fun S => .cons (.tup h (.cons (.int _) (.cons (.int _) (.cons (.int _) .nil)))) .nil
theorem Ties.take {H : Hp} {ts : List Tie} {xs : List V} (h : Ties H ts xs) (n : Nat) : Ties H (ts.take n) (xs.take n) := fun S => by rw [List.map_take]; exact (h S).take n
theorem Ties.drop {H : Hp} {ts : List Tie} {xs : List V} (h : Ties H ts xs) (n : Nat) : Ties H (ts.drop n) (xs.drop n) := fun S => by rw [List.map_drop]; exact (h S).drop n
theorem Ties.length {H : Hp} {ts : List Tie} {xs : List V} (h : Ties H ts xs) : xs.length = ts.length := by have := (h []).length; rw [List.length_map] at this; exact this
theorem Ties.at {H : Hp} {ts : List Tie} {xs : List V} (h : Ties H ts xs) {i : Nat} {x : V} (hx : xs[i]? = some x) : ∃ t, ts[i]? = some t ∧ Ties H [t] [x] := by
  have hi : i < xs.length := (List.getElem?_eq_some_iff.mp hx).1
  have hi' : i < ts.length := by rw [← h.length]; exact hi
  refine ⟨ts[i], by simp [hi'], fun S => ?_⟩
  obtain ⟨d, hd, r⟩ := (h S).get hx
  rw [List.getElem?_map] at hd
  have : ts[i]? = some ts[i] := by simp [hi']
  rw [this] at hd
  have hd' : tieD ts[i] = d := Option.some.inj hd
  subst hd'
  exact .cons r .nil
/-- the list of ties under work: at l, new since H0 -/
structure Found (H0 H : Hp) (fa sa l : Addr) (many : Int) (ts : List Tie) : Prop where
  ex : ∃ xs, H l = some (.lst xs) ∧ Ties H ts xs
  ok : ∀ t ∈ ts, TieOk many t
  nf : l ≠ fa
  ns : l ≠ sa
  new : H0 l = none
  ext : Ext [fa] H0 H
section
variable {H0 H H' : Hp} {fa sa l : Addr} {many n : Int} {ts : List Tie}
theorem Found.step (f : Found H0 H fa sa l many ts) (x : Ext [fa] H H') : Found H0 H' fa sa l many ts := by
  obtain ⟨xs, h1, h2⟩ := f.ex
  exact ⟨⟨xs, x.keep _ _ (by simpa using f.nf) h1, h2.ext x⟩, f.ok, f.nf, f.ns, f.new, f.ext.trans x⟩
theorem Found.set (f : Found H0 H fa sa l many ts) {ys : List V} {us : List Tie} (h : Ties H us ys) (hk : ∀ t ∈ us, TieOk many t) : Found H0 (upd H l (.lst ys)) fa sa l many us := by
  obtain ⟨xs, h1, h2⟩ := f.ex
  exact ⟨⟨ys, upd_same, h.ext (.set (S := [l]) (by simp) h1)⟩, hk, f.nf, f.ns, f.new, f.ext.set' f.new h1⟩
theorem Found.feed (f : Found H0 H fa sa l many ts) (fe : Feed H fa sa n) {o : HO} : Feed (upd H l o) fa sa n := by
  obtain ⟨xs, h1, _⟩ := f.ex
  exact fe.ext (.set (S := [l]) (by simp) h1) (by simpa using f.nf.symm) (by simpa using f.ns.symm)
end
def spWeb : Sp := fun vs H Q _ => ∃ (fa sa : Addr) (n mp ties : Int) (b : Bool), vs = [.ref fa, .int mp, .int ties, .bl b] ∧ Feed H fa sa n ∧ 0 < mp ∧ mp ≤ 60 ∧ 0 ≤ ties ∧ ties ≤ 200 ∧ n + 3000 ≤ most ∧
  ∀ (many : Int) (ts : List Tie) (v : V) (n' : Int) (H' : Hp), Rep [fa] H' (webD many (ts.map tieD)) v → 1 ≤ many → many ≤ mp → ts.length ≤ ties.toNat → (∀ t ∈ ts, TieOk many t) → n ≤ n' → n' ≤ n + 3000 → Feed H' fa sa n' → Ext [fa] H H' → Q v H'
section
variable {P : Program} {w : World} {K : PySem.W.Frag} {mg : Str → Option Value} {base : Heap} {f : Addr} {fd : FuncData}
theorem d_web (F : Fun K "_law_web" "_law_web" (top 14) f fd) (hm : mg "_law_web" = some (.ref f)) (B : Bt mg) (B2 : Bt2 mg) (D_law_draw : DefOk P w K mg base 1 "_law_draw" ["_law_feed_here", "_law_many"] spDraw)
    (D_law_price : DefOk P w K mg base 2 "_law_price" ["_law_feed_here", "_law_signed"] spPrice) : DefOk P w K mg base 3 "_law_web" ["_law_feed_here", "_law_most", "_law_ties", "_law_signed"] spWeb := by
  refine ⟨f, fd, ?_, hm, F.kp, F.binds fun _ _ _ _ _ _ us hl => match us, hl with | [_, _, _, _], _ => rfl⟩
  have sc : FnScope ["_law_feed_here", "_law_most", "_law_ties", "_law_signed", "_law_many", "_law_way", "_law_found", "_law_k", "_law_a", "_law_tie"] ["_law_feed_here", "_law_most", "_law_ties", "_law_signed"] (defScope (top 14)) := ⟨rfl, rfl, rfl, by decide +kernel, rfl, by decide +kernel, by decide +kernel⟩
  refine F.okQ sc (fun vs H Q E h => ?_) (fun cdv A outer s H vs Q E hr h => ?_)
  · obtain ⟨fa, sa, n, mp, ties, b, rfl, _⟩ := h
    rfl
  · obtain ⟨fa, sa, n, mp, ties, b, rfl, fe, m0, m1, t0, t1, nm, q⟩ := h
    have hsz : sizeLine = 16777216 := by decide
    have hmo : most = 1099511627776 := rfl
    refine ⟨_, (qss_cons (qs_set (i := 4) sc.nd rfl (Or.inl rfl) (qe_op op_add qe_int (qe_callD D_law_draw (hr.mono (by decide)) (qa_c (qv 0) (qa_c (qv 1) qa_nil)))))
      (qss_cons (qs_set (i := 5) sc.nd rfl (Or.inl rfl) (qe_callD D_law_draw (hr.mono (by decide)) (qa_c (qv 0) (qa_c qe_int qa_nil))))
      (qss_cons (qs_set (i := 6) sc.nd rfl (Or.inl rfl) (qe_lst qa_nil))
      (qss_cut (qs_if (qt_cmpR op_lt (qv 5) qe_int (nomark _)) (qss_one (qs_comp (i := 6) sc.nd rfl rfl (N := ["_law_k", "_law_feed_here", "_law_signed"]) (mp := [none, some 0, some 3]) rfl (qi_range1 (by rfl) B2.range (qa_c (qe_op op_sub (qv 4) qe_int) qa_nil)) rfl (by show compOk ["_law_feed_here", "_law_most", "_law_ties", "_law_signed", "_law_many", "_law_way", "_law_found", "_law_k", "_law_a", "_law_tie"] (defScope (top 14)) _ _ _ = true; decide +kernel) fun _ _ _ _ _ => ⟨(qg_name (i := 0) (by show List.Nodup [("_law_k" : Str), ("_law_feed_here" : Str), ("_law_signed" : Str)]; decide +kernel) rfl (Or.inl rfl)), qk_nil, (qe_tup (qa_c (qv 0) (qa_c (qe_op op_add (qv 0) qe_int) (qa_c (qe_callD D_law_price (hr.mono (by decide)) (qa_c (qv 1) (qa_c (qv 2) qa_nil))) qa_nil))))⟩)) qss_nil)
      (qss_cut (qs_if (QW.pt (qw_and (qt_cmpR op_eq (qv 5) qe_int (nomark _)) (qw_and1 (qt_cmpR op_gt (qv 4) qe_int (nomark _))))) (qss_one (qs_expr (qe_bmK K PySem.F.plainAttrs_list PySem.F.slot_list_append PySem.F.type_list_append mt_append (qv 6) (qa_c (qe_tup (qa_c qe_int (qa_c (qe_op op_sub (qv 4) qe_int) (qa_c (qe_callD D_law_price (hr.mono (by decide)) (qa_c (qv 0) (qa_c (qv 3) qa_nil))) qa_nil)))) qa_nil)))) qss_nil)
      (qss_cons (qs_for PassesOwn.never rfl (qi_range1 (by rfl) B2.range (qa_c (qe_op op_mul (qe_callD D_law_draw (hr.mono (by decide)) (qa_c (qv 0) (qa_c (qe_op op_add (qv 2) qe_int) qa_nil))) (qe_callTy call_int1 (by rfl) B.int (by decide +kernel) (qa_c (qe_cmpR op_gt (qv 4) qe_int (nomark _)) qa_nil))) qa_nil)) (qg_name (i := 7) sc.nd rfl (Or.inl rfl)) (qss_cons (qs_set (i := 8) sc.nd rfl (Or.inl rfl) (qe_callD D_law_draw (hr.mono (by decide)) (qa_c (qv 0) (qa_c (qe_op op_sub (qv 4) qe_int) qa_nil))))
      (qss_cons (qs_set (i := 9) sc.nd rfl (Or.inl rfl) (qe_tup (qa_c (qv 8) (qa_c (qe_op op_add (qe_op op_add (qv 8) qe_int) (qe_callD D_law_draw (hr.mono (by decide)) (qa_c (qv 0) (qa_c (qe_op op_sub (qe_op op_sub (qv 4) qe_int) (qv 8)) qa_nil)))) (qa_c (qe_callD D_law_price (hr.mono (by decide)) (qa_c (qv 0) (qa_c (qv 3) qa_nil))) qa_nil)))))
      (qss_cut (qs_if (QW.pt (qw_and (qt_cmpR (op_neD hr) (qv 6) (qe_lst qa_nil) (nomark _)) (qw_and1 (qt_cmpR op_eq (qe_callD D_law_draw (hr.mono (by decide)) (qa_c (qv 0) (qa_c qe_int qa_nil))) qe_int (nomark _))))) (qss_one (qs_set (i := 9) sc.nd rfl (Or.inl rfl) (qe_ix (ixL K) (qv 6) (qe_callD D_law_draw (hr.mono (by decide)) (qa_c (qv 0) (qa_c (qe_callB (lenK K) (by rfl) B.len (by decide +kernel) (qa_c (qv 6) qa_nil)) qa_nil))) (fun _ _ => rfl)))) qss_nil)
      (qss_one (qs_expr (qe_bmK K PySem.F.plainAttrs_list PySem.F.slot_list_insert PySem.F.type_list_insert mt_insert (qv 6) (qa_c (qe_callD D_law_draw (hr.mono (by decide)) (qa_c (qv 0) (qa_c (qe_op op_add (qe_callB (lenK K) (by rfl) B.len (by decide +kernel) (qa_c (qv 6) qa_nil)) qe_int) qa_nil))) (qa_c (qv 9) qa_nil)))))))))
      (qss_one (qs_ret (qe_tup (qa_c (qv 4) (qa_c (qe_callTy (tupleK K) (by rfl) B.tuple (by decide +kernel) (qa_c (qe_slice (slL K) (qv 6) qo_none (qo_some (qv 2))) qa_nil)) qa_nil))))))))))), ?_⟩
    have n0 := fe.lo
    refine ⟨_, rfl, _, rfl, fa, sa, n, mp, rfl, fe, by omega, by omega, by omega, fun r H1 r0 r1 f1 x1 => ⟨_, _, rfl, rfl, ?_⟩⟩
    refine ⟨_, rfl, fa, sa, n + 1, 4, rfl, f1, by decide, by decide, by omega, fun way H2 w0 w1 f2 x2 => ?_⟩
    refine ⟨Nat.zero_le _, fun l hl => ?_⟩
    have hmany : 1 ≤ 1 + r ∧ 1 + r ≤ mp := by omega
    dsimp only
    generalize (1 + r) = many at hmany ⊢
    have hlf := f2.has hl
    have x12 := x1.trans x2
    have g0 : Found H (upd H2 l (.lst [])) fa sa l many [] := ⟨⟨[], upd_same, .nil⟩, by simp, hlf.1, hlf.2, x12.fresh (by simpa using hlf.1) hl, x12.trans (.new hl)⟩
    have f3 : Feed (upd H2 l (.lst [])) fa sa (n + 1 + 1) := f2.ext (Ext.new (S := []) hl) (by simp) (by simp)
    refine ⟨fun σ' H' => ∃ l ts n', σ' = [some (.ref fa), some (.int mp), some (.int ties), some (.bl b), some (.int many), some (.int way), some (.ref l), none, none, none] ∧ Found H H' fa sa l many ts ∧ ts.length ≤ 60 ∧ Feed H' fa sa n' ∧ n ≤ n' ∧ n' ≤ n + 182, ?_, ?_⟩
    · refine ⟨_, rfl, _, _, rfl, rfl, _, rfl, ite2 (fun hw => ?_) (fun hw => ⟨l, [], _, rfl, g0, by simp, f3, by omega, by omega⟩)⟩
      refine ⟨_, rfl, _, _, rfl, rfl, many - 1, rfl, by omega, by omega, comp_range (fun i ys σ' H' => (∃ y, σ' = [y, some (.ref fa), some (.bl b)]) ∧ ∃ ts n', Ties H' ts ys ∧ (∀ t ∈ ts, TieOk many t) ∧ ts.length = i ∧ i ≤ (many - 1).toNat ∧ Feed H' fa sa n' ∧ n ≤ n' ∧ n' ≤ n + 2 + 3 * i ∧ Ext [fa] H H')
        ⟨⟨none, rfl⟩, [], _, .nil, by simp, rfl, Nat.zero_le _, f3, by omega, by omega, g0.ext⟩ ?_ ?_⟩
      · rintro i ys σ' H' hi ⟨⟨y, rfl⟩, ts, n', hts, hok, hlen, hi2, f4, n1, n2, x4⟩
        refine ⟨by rw [hts.length]; omega, truN ⟨_, rfl, _, rfl, _, _, rfl, rfl, _, rfl, _, rfl, fa, sa, n', b, rfl, f4, by omega, fun p n'' H'' p0 p1 k0 k1 f5 x5 => ⟨by show 3 ≤ sizeLine; decide, fun t ht => ?_⟩⟩⟩
        have x6 : Ext [] H'' (upd H'' t (.tup [.int (0 + (i : Int)), .int (0 + (i : Int) + 1), .int p])) := .new ht
        refine ⟨⟨_, rfl⟩, ts ++ [(0 + (i : Int), 0 + (i : Int) + 1, p)], n'', ((hts.ext x5).ext x6).append (.one upd_same), ?_, by simp [hlen], by omega, f5.ext x6 (by simp) (by simp), by omega, by omega, (x4.trans x5).trans (x6.mono (by simp))⟩
        intro t' ht'
        rcases List.mem_append.mp ht' with h | h
        · exact hok t' h
        · have : t' = (0 + (i : Int), 0 + (i : Int) + 1, p) := by simpa using h
          subst this
          exact ⟨by show 0 ≤ 0 + (i : Int); omega, by show 0 + (i : Int) < 0 + (i : Int) + 1; omega, by show 0 + (i : Int) + 1 < many; omega, p0, p1⟩
      · rintro ys σ' H' ⟨_, ts, n', hts, hok, hlen, hi2, f4, n1, n2, x4⟩
        refine ⟨by rw [hts.length]; omega, fun D hD => ?_⟩
        have hDf := f4.has hD
        exact ⟨D, ts, n', rfl, ⟨⟨ys, upd_same, hts.ext (Ext.new (S := []) hD)⟩, hok, hDf.1, hDf.2, x4.fresh (by simpa using hDf.1) hD, x4.trans (.new hD)⟩, by omega, f4.ext (Ext.new (S := []) hD) (by simp) (by simp), n1, by omega⟩
    rintro σ1 H3 ⟨l, ts, n1, rfl, g1, hlen1, f4, a1, a2⟩
    refine ⟨fun σ' H' => ∃ l ts n', σ' = [some (.ref fa), some (.int mp), some (.int ties), some (.bl b), some (.int many), some (.int way), some (.ref l), none, none, none] ∧ Found H H' fa sa l many ts ∧ ts.length ≤ 61 ∧ Feed H' fa sa n' ∧ n ≤ n' ∧ n' ≤ n + 185, ?_, ?_⟩
    · refine ⟨_, rfl, rfl, _, rfl, ite2 (fun hw => ?_) (fun hw => iteF ⟨l, ts, n1, rfl, g1, by omega, f4, a1, by omega⟩)⟩
      refine ⟨_, rfl, _, _, rfl, rfl, _, rfl, ite2 (fun hgt => ?_) (fun hgt => ⟨l, ts, n1, rfl, g1, by omega, f4, a1, by omega⟩)⟩
      have hgt' : 1 < many := of_decide_eq_true hgt
      obtain ⟨xs, e1, e2⟩ := g1.ex
      refine ⟨_, rfl, .inl ⟨rfl, _, SqL.of e1⟩, _, rfl, _, _, rfl, rfl, _, rfl, _, rfl, fa, sa, n1, b, rfl, f4, by omega, fun p n'' H'' p0 p1 k0 k1 f5 x5 => ⟨by show 3 ≤ sizeLine; decide, fun t ht => ?_⟩⟩
      have g2 := g1.step x5
      have x6 : Ext [] H'' (upd H'' t (.tup [.int 0, .int (many - 1), .int p])) := .new ht
      have g3 := g2.step (x6.mono (by simp))
      obtain ⟨ys, e3, e4⟩ := g3.ex
      refine ⟨l, ys, .ref t, rfl, rfl, e3, by rw [e4.length]; omega, l, ts ++ [(0, many - 1, p)], n'', rfl, g3.set (e4.append (.one upd_same)) ?_, by simp; omega, g3.feed (f5.ext x6 (by simp) (by simp)), by omega, by omega⟩
      intro t' ht'
      rcases List.mem_append.mp ht' with h | h
      · exact g1.ok t' h
      · have : t' = (0, many - 1, p) := by simpa using h
        subst this
        exact ⟨by show (0 : Int) ≤ 0; decide, by show 0 < many - 1; omega, by show many - 1 < many; omega, p0, p1⟩
    rintro σ2 H4 ⟨l, ts, n2, rfl, g2, hlen2, f5, b1, b2⟩
    refine ⟨_, rfl, _, rfl, _, _, rfl, rfl, fa, sa, n2, ties + 1, rfl, f5, by omega, by omega, by omega, fun r5 H5 c0 c1 f6 x6 => ⟨_, rfl, _, _, rfl, rfl, .inr ⟨_, rfl, _, _, rfl, rfl, .inl ⟨by omega, by omega⟩, _, rfl, ?_⟩⟩⟩
    have hj : ∃ j : Int, r5 * (if decide (1 < many) = true then 1 else 0) = j ∧ 0 ≤ j ∧ j ≤ 200 ∧ (0 < j → 1 < many) := by
      by_cases h : 1 < many
      · exact ⟨r5, by simp [h], by omega, by omega, fun _ => h⟩
      · exact ⟨0, by simp [h], by omega, by omega, fun z => absurd z (by decide)⟩
    obtain ⟨j, ej, j0, j1, j2⟩ := hj
    rw [ej]
    refine ⟨by omega, by omega, for_range (fun i σ' H' => ∃ l ts n' x7 x8 x9, σ' = [some (.ref fa), some (.int mp), some (.int ties), some (.bl b), some (.int many), some (.int way), some (.ref l), x7, x8, x9] ∧ Found H H' fa sa l many ts ∧ i ≤ 200 ∧ ts.length ≤ 61 + i ∧ Feed H' fa sa n' ∧ n ≤ n' ∧ n' ≤ n + 186 + 8 * i)
      ⟨l, ts, _, none, none, none, rfl, g2.step x6, by omega, by omega, f6, by omega, by omega⟩ ?_ ?_⟩
    · rintro i σ' H' hi ⟨l, ts, n', x7, x8, x9, rfl, g3, hi2, hlen3, f7, d1, d2⟩
      have h1m : 1 < many := j2 (by omega)
      refine ⟨_, rfl, _, rfl, _, _, rfl, rfl, fa, sa, n', many - 1, rfl, f7, by omega, by omega, by omega, fun a H6 u0 u1 f8 x8' => ?_⟩
      refine ⟨_, rfl, _, rfl, _, _, rfl, rfl, _, rfl, _, rfl, _, _, rfl, rfl, _, rfl, _, _, rfl, rfl, fa, sa, n' + 1, many - 1 - a, rfl, f8, by omega, by omega, by omega, fun c H7 v0 v1 f9 x9' => ⟨_, _, rfl, rfl, _, rfl, _, rfl, fa, sa, n' + 1 + 1, b, rfl, f9, by omega, fun p n'' H8 p0 p1 k0 k1 f10 x10 => ⟨by show 3 ≤ sizeLine; decide, fun t ht => ?_⟩⟩⟩
      have x11 : Ext [] H8 (upd H8 t (.tup [.int a, .int (a + 1 + c), .int p])) := .new ht
      have g4 := (((g3.step x8').step x9').step x10).step (x11.mono (S' := [fa]) (by simp))
      have f11 := f10.ext x11 (by simp) (by simp)
      have t4 : Ties (upd H8 t (.tup [.int a, .int (a + 1 + c), .int p])) [(a, a + 1 + c, p)] [.ref t] := .one upd_same
      generalize upd H8 t (.tup [.int a, .int (a + 1 + c), .int p]) = H9 at g4 f11 t4
      refine ⟨fun σ' H' => ∃ tv tt n', σ' = [some (.ref fa), some (.int mp), some (.int ties), some (.bl b), some (.int many), some (.int way), some (.ref l), some (.int (0 + (i : Int))), some (.int a), some tv] ∧ Found H H' fa sa l many ts ∧ Ties H' [tt] [tv] ∧ TieOk many tt ∧ Feed H' fa sa n' ∧ n'' ≤ n' ∧ n' ≤ n'' + 2, ?_, ?_⟩
      · obtain ⟨xs, e1, e2⟩ := g4.ex
        have ok0 : TieOk many (a, a + 1 + c, p) := ⟨u0, by show a < a + 1 + c; omega, by show a + 1 + c < many; omega, p0, p1⟩
        refine ⟨_, rfl, Nat.zero_le _, fun pp hpp => ?_⟩
        have x12 : Ext [] H9 (upd H9 pp (.lst [])) := .new hpp
        have g5 := g4.step (x12.mono (S' := [fa]) (by simp))
        have f12 := f11.ext x12 (by simp) (by simp)
        have t5 := t4.ext x12
        have e3 : (upd H9 pp (.lst [])) l = some (.lst xs) := x12.keep _ _ (by simp) e1
        refine ⟨[], .list (ts.map tieD), .list [], .lst e3 (by simp) ((e2.ext x12) []), .lst upd_same (by simp) .nil, ?_, rfl, ?_, _, rfl, ite2 (fun hne => ?_) (fun hne => iteF ⟨.ref t, _, n'', rfl, g5, t5, ok0, f12, by omega, by omega⟩)⟩
        · show PyData.canLayAll0 (ts.map tieD) = true
          clear e2 e3 g5 g4 g3 hlen3
          induction ts with
          | nil => rfl
          | cons t ts ih => simpa [PyData.canLayAll0, PyData.canLay0, tieD] using ih
        · show PyData.depthAll (ts.map tieD) + 1 ≤ 60
          have : PyData.depthAll (ts.map tieD) ≤ 1 := by
            clear e2 e3 g5 g4 g3 hlen3
            induction ts with
            | nil => simp [PyData.depthAll]
            | cons t ts ih => simp only [List.map_cons, PyData.depthAll, tieD, PyData.depth] at ih ⊢; omega
          omega
        have hne' : 0 < ts.length := by
          cases ts with
          | nil => simp [PyData.eqv, PyData.eqvAll] at hne
          | cons _ _ => simp
        refine ⟨_, rfl, fa, sa, n'', 5, rfl, f12, by decide, by decide, by omega, fun r13 H13 w0' w1' f13 x13 => ⟨rfl, _, rfl, ite2 (fun hz => ?_) (fun hz => ⟨.ref t, _, n'' + 1, rfl, g5.step x13, t5.ext x13, ok0, f13, by omega, by omega⟩)⟩⟩
        have g6 := g5.step x13
        obtain ⟨ys, e5, e6⟩ := g6.ex
        refine ⟨_, rfl, _, rfl, _, rfl, l, ys, rfl, .inl (SqL.of e5), fa, sa, n'' + 1, _, rfl, f13, by rw [e6.length]; omega, by rw [e6.length]; omega, by omega, fun r14 H14 y0 y1 f14 x14 => ?_⟩
        have g7 := g6.step x14
        have e7 : H14 l = some (.lst ys) := x14.keep _ _ (by simpa using g7.nf) e5
        obtain ⟨v, hv, hv2⟩ := atI_ex y0 y1
        obtain ⟨tt, ht1, ht2⟩ := (e6.ext x14).at hv2
        exact ⟨l, ys, _, v, rfl, rfl, SqL.of e7, hv, v, tt, n'' + 1 + 1, rfl, g7, ht2, g7.ok tt (List.mem_of_getElem? ht1), f14, by omega, by omega⟩
      · rintro σ3 H10 ⟨tv, tt, n3, rfl, g5, t5, ok5, f12, o1, o2⟩
        obtain ⟨xs, e1, e2⟩ := g5.ex
        refine ⟨_, rfl, .inl ⟨rfl, _, SqL.of e1⟩, _, rfl, _, rfl, l, xs, rfl, .inl (SqL.of e1), _, _, rfl, rfl, fa, sa, n3, _, rfl, f12, by rw [e2.length]; omega, by rw [e2.length]; omega, by omega, fun r13 H13 w0' w1' f13 x13 => ⟨_, rfl, ?_⟩⟩
        have g6 := g5.step x13
        have e3 : H13 l = some (.lst xs) := x13.keep _ _ (by simpa using g5.nf) e1
        have e4 := e2.ext x13
        rw [e2.length] at w1'
        refine ⟨l, xs, r13, tv, rfl, rfl, e3, by rw [e2.length]; omega, w0', by omega, l, ts.take r13.toNat ++ [tt] ++ ts.drop r13.toNat, n3 + 1, _, _, _, rfl, g6.set (ys := xs.take r13.toNat ++ tv :: xs.drop r13.toNat) ?_ ?_, by omega, ?_, g6.feed f13, by omega, by omega⟩
        · have := ((e4.take r13.toNat).append (t5.ext x13)).append (e4.drop r13.toNat)
          simpa using this
        · intro t' ht'
          simp only [List.mem_append, List.mem_singleton] at ht'
          rcases ht' with (h | h) | h
          · exact g5.ok t' (List.mem_of_mem_take h)
          · exact h ▸ ok5
          · exact g5.ok t' (List.mem_of_mem_drop h)
        · simp
          omega
    · rintro σ' H' ⟨l, ts, n', x7, x8, x9, rfl, g3, hi2, hlen3, f7, d1, d2⟩
      obtain ⟨xs, e1, e2⟩ := g3.ex
      refine ⟨_, rfl, _, rfl, _, rfl, ties, rfl, l, xs, rfl, SqL.of e1, fun p hp => ⟨p, _, rfl, .inl ⟨SqL.of upd_same, fun t ht => ⟨by show 2 ≤ sizeLine; decide, fun v hv => ?_⟩⟩⟩⟩
      have y1 : Ext [] H' (upd H' p (.lst (cutV xs none (some ties)))) := .new hp
      have y2 : Ext [] (upd H' p (.lst (cutV xs none (some ties)))) (upd (upd H' p (.lst (cutV xs none (some ties)))) t (.tup (cutV xs none (some ties)))) := .new ht
      have e3 : cutV xs none (some ties) = (xs.drop 0).take ties.toNat := by
        unfold cutV
        rw [show ties = ((ties.toNat : Nat) : Int) by omega, HT.sIx_nat, HT.sIx_none]
        simp only [List.drop_zero, Nat.sub_zero, Int.toNat_natCast]
        by_cases hc : ties.toNat ≤ xs.length
        · rw [Nat.min_eq_left hc]
        · rw [Nat.min_eq_right (by omega), List.take_of_length_le (Nat.le_refl _), List.take_of_length_le (by omega)]
      have e4 : Ties (upd (upd H' p (.lst (cutV xs none (some ties)))) t (.tup (cutV xs none (some ties)))) (ts.take ties.toNat) (cutV xs none (some ties)) := by
        have h4 := ((e2.ext y1).ext y2).take ties.toNat
        rw [show xs.take ties.toNat = cutV xs none (some ties) from e3.symm] at h4
        exact h4
      have htv : t ≠ v := fun z => by rw [← z, upd_same] at hv; cases hv
      have y3 : Ext [] (upd (upd H' p (.lst (cutV xs none (some ties)))) t (.tup (cutV xs none (some ties)))) (upd (upd (upd H' p (.lst (cutV xs none (some ties)))) t (.tup (cutV xs none (some ties)))) v (.tup [.int many, .ref t])) := .new hv
      refine q many (ts.take ties.toNat) _ n' _ (.tup upd_same (.cons (.int _) (.cons (.tup (by rw [upd_ne htv]; exact upd_same) (e4.ext y3 _)) .nil))) (by omega) (by omega) (by rw [List.length_take]; omega) (fun t' ht' => g3.ok t' (List.mem_of_mem_take ht')) d1 (by omega) (((f7.ext y1 (by simp) (by simp)).ext y2 (by simp) (by simp)).ext y3 (by simp) (by simp)) (((g3.ext.trans (y1.mono (by simp))).trans (y2.mono (by simp))).trans (y3.mono (by simp)))
end
end Odj

set_option Elab.async false
set_option linter.all false
set_option maxRecDepth 100000
set_option maxHeartbeats 8000000
namespace L2
open PySem
section
variable {mp : List (Option Nat)} {g : TG} {tc : TT} {te : TE} {σ : St} {H : Hp} {R : List V → Hp → Prop}
theorem comp_list {K : PySem.W.Frag} {a : Addr} {xs : List V} (Pv : Nat → List V → St → Hp → Prop) (h0 : Pv 0 [] (seed mp σ) H) (hl : ∀ i ys σ' H', Pv i ys σ' H' → SqL K H' a xs)
    (hs : ∀ i x ys σ' H', xs[i]? = some x → Pv i ys σ' H' → ys.length < sizeLine ∧ g x σ' H' fun σ2 H2 => tc σ2 H2 fun b H3 => if b = true then te σ2 H3 fun y H4 => Pv (i + 1) (ys ++ [y]) σ2 H4 else Pv (i + 1) ys σ2 H3)
    (hd : ∀ ys σ' H', Pv xs.length ys σ' H' → ys.length ≤ sizeLine ∧ R ys H') :
    ∃ W : Nat → Nat → List V → St → Hp → Prop, (∃ m, W 0 m [] (seed mp σ) H) ∧ ∀ i m ys σ' H', W i m ys σ' H' →
      ((Itl K a).stop i H' ∧ ys.length ≤ sizeLine ∧ R ys H') ∨
      ((Itl K a).go i H' ∧ ys.length < sizeLine ∧ ∀ x H'', (Itl K a).yld i H' x H'' → g x σ' H'' fun σ2 H2 => tc σ2 H2 fun b H3 =>
        if b = true then te σ2 H3 fun y H4 => ∃ m', m' < m ∧ W (i + 1) m' (ys ++ [y]) σ2 H4 else ∃ m', m' < m ∧ W (i + 1) m' ys σ2 H3) := by
  refine ⟨fun i m ys σ H => m = xs.length - i ∧ i ≤ xs.length ∧ Pv i ys σ H, ⟨xs.length, by simp, Nat.zero_le _, h0⟩, ?_⟩
  rintro i m ys σ' H' ⟨rfl, hi, p⟩
  have q0 := hl i ys σ' H' p
  by_cases hlt : i < xs.length
  · have e : ∀ ys σ H, (∃ m', m' < xs.length - i ∧ m' = xs.length - (i + 1) ∧ i + 1 ≤ xs.length ∧ Pv (i + 1) ys σ H) = Pv (i + 1) ys σ H := fun ys σ H => propext ⟨fun ⟨_, _, _, _, z⟩ => z, fun z => ⟨_, by omega, rfl, hlt, z⟩⟩
    have hx : xs[i]? = some xs[i] := by simp [hlt]
    refine .inr ⟨⟨xs, xs[i], q0, hx⟩, (hs i _ ys σ' H' hx p).1, fun x H'' y => ?_⟩
    obtain ⟨e1, y⟩ := y
    subst e1
    simp only [e]
    exact (hs i x ys σ' _ (y xs q0) p).2
  · have e : i = xs.length := by omega
    subst e
    obtain ⟨hl, q⟩ := hd ys σ' H' p
    exact .inl ⟨⟨xs, q0, Nat.le_refl _⟩, hl, q⟩
theorem atI_at {α : Type} {xs : List α} {i : Int} (h0 : -(xs.length : Int) ≤ i) (h1 : i < xs.length) : ∃ v, atI xs i = some v ∧ xs[(if 0 ≤ i then i else i + xs.length).toNat]? = some v := by
  by_cases h : 0 ≤ i
  · obtain ⟨v, e1, e2⟩ := atI_ex h h1
    exact ⟨v, e1, by rw [if_pos h]; exact e2⟩
  · have hl : (i + xs.length).toNat < xs.length := by omega
    refine ⟨xs[(i + xs.length).toNat], ?_, by rw [if_neg h]; simp [hl]⟩
    unfold atI ixN
    rw [if_neg h, if_pos h0]
    simp [hl]
theorem erase_perm {α : Type} : ∀ {l : List α} {i : Nat} (h : i < l.length), (l[i] :: l.eraseIdx i).Perm l
  | a :: l, 0, _ => List.Perm.refl _
  | a :: l, i + 1, h => by
    have h' : i < l.length := by simpa using h
    exact (List.Perm.swap a l[i] (l.eraseIdx i)).trans ((erase_perm h').cons a)
theorem nodup_at {α : Type} : ∀ {l : List α}, l.Nodup → ∀ {i j : Nat} {x : α}, l[i]? = some x → l[j]? = some x → i = j
  | [], _, i, j, x, h, _ => by cases h
  | a :: l, hn, 0, 0, x, _, _ => rfl
  | a :: l, hn, 0, j + 1, x, h1, h2 => by
    rw [List.nodup_cons] at hn
    have e : a = x := by simpa using h1
    have h2' : l[j]? = some x := by simpa using h2
    exact absurd (e ▸ List.mem_of_getElem? h2') hn.1
  | a :: l, hn, i + 1, 0, x, h1, h2 => by
    rw [List.nodup_cons] at hn
    have e : a = x := by simpa using h2
    have h1' : l[i]? = some x := by simpa using h1
    exact absurd (e ▸ List.mem_of_getElem? h1') hn.1
  | a :: l, hn, i + 1, j + 1, x, h1, h2 => by
    rw [List.nodup_cons] at hn
    rw [nodup_at hn.2 (i := i) (j := j) (by simpa using h1) (by simpa using h2)]
end
end L2
namespace Odj
open PySem L2
structure WideOk (many : Int) (t : Tie) : Prop where
  a0 : 0 ≤ t.1
  ab : t.1 < t.2.1
  bm : t.2.1 < many
  p0 : -99 ≤ t.2.2
  p1 : t.2.2 ≤ 99
def AllIn (many : Int) (xs : List V) : Prop := ∀ x ∈ xs, ∃ z, x = V.int z ∧ 0 ≤ z ∧ z < many
def PairsIn (many : Int) (H : Hp) (ys : List V) : Prop := ∀ y ∈ ys, ∃ p a b, y = V.ref p ∧ H p = some (.tup [.int a, .int b]) ∧ 0 ≤ a ∧ a < many ∧ 0 ≤ b ∧ b < many ∧ a ≠ b
theorem PairsIn.ext {S : List Addr} {many : Int} {H H' : Hp} {ys : List V} (h : PairsIn many H ys) (x : Ext S H H') : PairsIn many H' ys := fun y hy => let ⟨p, a, b, e, hp, r⟩ := h y hy; ⟨p, a, b, e, x.tup _ _ hp, r⟩
theorem PairsIn.snoc {many : Int} {H : Hp} {ys : List V} (h : PairsIn many H ys) {p : Addr} {a b : Int} (hp : H p = some (.tup [.int a, .int b])) (a0 : 0 ≤ a) (a1 : a < many) (b0 : 0 ≤ b) (b1 : b < many) (ne : a ≠ b) : PairsIn many H (ys ++ [.ref p]) := fun y hy => by
  rcases List.mem_append.mp hy with z | z
  · exact h y z
  · exact ⟨p, a, b, by simpa using z, hp, a0, a1, b0, b1, ne⟩
def spWide : Sp := fun vs H Q _ => ∃ (fa sa : Addr) (n ties : Int), vs = [.ref fa, .int ties] ∧ Feed H fa sa n ∧ 0 ≤ ties ∧ ties ≤ 200 ∧ n + 3000 ≤ most ∧
  ∀ (many : Int) (ts : List Tie) (v : V) (n' : Int) (H' : Hp), Rep [fa] H' (webD many (ts.map tieD)) v → 10 ≤ many → many ≤ 60 → ts.length ≤ 200 → (∀ t ∈ ts, WideOk many t) → n ≤ n' → n' ≤ n + 3000 → Feed H' fa sa n' → Ext [fa] H H' → Q v H'
structure Bt3 (mg : Str → Option Value) : Prop where
  list : mg "list" = none
  min : mg "min" = none
  max : mg "max" = none
section
variable {P : Program} {w : World} {K : PySem.W.Frag} {mg : Str → Option Value} {base : Heap} {f : Addr} {fd : FuncData}
theorem d_wide (F : Fun K "_law_wide" "_law_wide" (top 20) f fd) (hm : mg "_law_wide" = some (.ref f)) (B : Bt mg) (B2 : Bt2 mg) (B3 : Bt3 mg) (D_law_draw : DefOk P w K mg base 1 "_law_draw" ["_law_feed_here", "_law_many"] spDraw)
    (D_law_price : DefOk P w K mg base 2 "_law_price" ["_law_feed_here", "_law_signed"] spPrice) : DefOk P w K mg base 3 "_law_wide" ["_law_feed_here", "_law_ties"] spWide := by
  refine ⟨f, fd, ?_, hm, F.kp, F.binds fun _ _ _ _ _ _ us hl => match us, hl with | [_, _], _ => rfl⟩
  have sc : FnScope ["_law_feed_here", "_law_ties", "_law_many", "_law_left", "_law_names", "_law_way", "_law_pairs", "_law_k", "_law_a"] ["_law_feed_here", "_law_ties"] (defScope (top 20)) := ⟨rfl, rfl, rfl, by decide +kernel, rfl, by decide +kernel, by decide +kernel⟩
  refine F.okQ sc (fun vs H Q E h => ?_) (fun cdv A outer s H vs Q E hr h => ?_)
  · obtain ⟨fa, sa, n, ties, rfl, _⟩ := h
    rfl
  · obtain ⟨fa, sa, n, ties, rfl, fe, t0, t1, nm, q⟩ := h
    have hsz : sizeLine = 16777216 := by decide
    have hmo : most = 1099511627776 := rfl
    refine ⟨_, (qss_cons (qs_set (i := 2) sc.nd rfl (Or.inl rfl) (qe_ix (ixL K) (qe_lst (qa_c qe_int (qa_c qe_int (qa_c qe_int (qa_c (qe_op op_add qe_int (qe_callD D_law_draw (hr.mono (by decide)) (qa_c (qv 0) (qa_c qe_int qa_nil)))) qa_nil))))) (qe_callD D_law_draw (hr.mono (by decide)) (qa_c (qv 0) (qa_c qe_int qa_nil))) (fun _ _ => rfl)))
      (qss_cons (qs_set (i := 3) sc.nd rfl (Or.inr rfl) (qe_callTy (call_list_rng rfl) (by rfl) B3.list (by decide +kernel) (qa_c (qe_callTy call_rng (by rfl) B2.range (by decide +kernel) (qa_c (qv 2) qa_nil)) qa_nil)))
      (qss_cons (qs_set (i := 4) sc.nd rfl (Or.inr rfl) (qe_comp (N := ["_law_k", "_law_left", "_law_feed_here"]) (mp := [none, some 3, some 0]) rfl (qi_range1 (by rfl) B2.range (qa_c (qv 2) qa_nil)) rfl (by show compOk ["_law_feed_here", "_law_ties", "_law_many", "_law_left", "_law_names", "_law_way", "_law_pairs", "_law_k", "_law_a"] (defScope (top 20)) _ _ _ = true; decide +kernel) fun _ _ _ _ _ => ⟨(qg_name (i := 0) (by show List.Nodup [("_law_k" : Str), ("_law_left" : Str), ("_law_feed_here" : Str)]; decide +kernel) rfl (Or.inl rfl)), qk_nil, (qe_bmK K PySem.F.plainAttrs_list PySem.F.slot_list_pop PySem.F.type_list_pop mt_popAt (qv 1) (qa_c (qe_callD D_law_draw (hr.mono (by decide)) (qa_c (qv 2) (qa_c (qe_callB (lenK K) (by rfl) B.len (by decide +kernel) (qa_c (qv 1) qa_nil)) qa_nil))) qa_nil))⟩))
      (qss_cons (qs_set (i := 5) sc.nd rfl (Or.inl rfl) (qe_callD D_law_draw (hr.mono (by decide)) (qa_c (qv 0) (qa_c qe_int qa_nil))))
      (qss_cons (qs_comp (i := 6) sc.nd rfl rfl (N := ["_law_k", "_law_names"]) (mp := [none, some 4]) rfl (qi_range2 (by rfl) B2.range (qa_c (qv 5) (qa_c (qv 2) qa_nil))) rfl (by show compOk ["_law_feed_here", "_law_ties", "_law_many", "_law_left", "_law_names", "_law_way", "_law_pairs", "_law_k", "_law_a"] (defScope (top 20)) _ _ _ = true; decide +kernel) fun _ _ _ _ _ => ⟨(qg_name (i := 0) (by show List.Nodup [("_law_k" : Str), ("_law_names" : Str)]; decide +kernel) rfl (Or.inl rfl)), qk_nil, (qe_tup (qa_c (qe_ix (ixL K) (qv 1) (qe_op op_sub (qv 0) qe_int) (fun _ _ => rfl)) (qa_c (qe_ix (ixL K) (qv 1) (qv 0) (fun _ _ => rfl)) qa_nil)))⟩)
      (qss_cut (qs_if (qt_cmpR op_eq (qv 5) qe_int (nomark _)) (qss_cons (qs_set (i := 6) sc.nd rfl (Or.inl rfl) (qe_lst qa_nil))
      (qss_one (qs_for PassesOwn.never rfl (qi_range1 (by rfl) B2.range (qa_c (qe_callD D_law_draw (hr.mono (by decide)) (qa_c (qv 0) (qa_c (qe_op op_add (qv 1) qe_int) qa_nil))) qa_nil)) (qg_name (i := 7) sc.nd rfl (Or.inl rfl)) (qss_cons (qs_set (i := 8) sc.nd rfl (Or.inl rfl) (qe_callD D_law_draw (hr.mono (by decide)) (qa_c (qv 0) (qa_c (qv 2) qa_nil))))
      (qss_one (qs_expr (qe_bmK K PySem.F.plainAttrs_list PySem.F.slot_list_append PySem.F.type_list_append mt_append (qv 6) (qa_c (qe_tup (qa_c (qv 8) (qa_c (qe_op op_mod (qe_op op_add (qe_op op_add (qv 8) qe_int) (qe_callD D_law_draw (hr.mono (by decide)) (qa_c (qv 0) (qa_c (qe_op op_sub (qv 2) qe_int) qa_nil)))) (qv 2)) qa_nil))) qa_nil)))))))) qss_nil)
      (qss_one (qs_ret (qe_tup (qa_c (qv 2) (qa_c (qe_callTy (tupleK K) (by rfl) B.tuple (by decide +kernel) (qa_c (qe_comp (N := ["_law_pair", "_law_feed_here"]) (mp := [none, some 0]) rfl (qi_listK K (qv 6)) rfl (by show compOk ["_law_feed_here", "_law_ties", "_law_many", "_law_left", "_law_names", "_law_way", "_law_pairs", "_law_k", "_law_a"] (defScope (top 20)) _ _ _ = true; decide +kernel) fun _ _ _ _ _ => ⟨(qg_name (i := 0) (by show List.Nodup [("_law_pair" : Str), ("_law_feed_here" : Str)]; decide +kernel) rfl (Or.inl rfl)), qk_nil, (qe_tup (qa_c (qe_callB (call_minT K rfl) (by rfl) B3.min (by decide +kernel) (qa_c (qv 0) qa_nil)) (qa_c (qe_callB (call_maxT K rfl) (by rfl) B3.max (by decide +kernel) (qa_c (qv 0) qa_nil)) (qa_c (qe_callD D_law_price (hr.mono (by decide)) (qa_c (qv 1) (qa_c qe_bl qa_nil))) qa_nil))))⟩) qa_nil)) qa_nil))))))))))), ?_⟩
    have n0 := fe.lo
    refine ⟨_, rfl, fa, sa, n, 51, rfl, fe, by decide, by decide, by omega, fun r H1 h0 h1 f1 x1 => ⟨_, _, rfl, rfl, by show 4 ≤ sizeLine; decide, fun l0 hl0 => ?_⟩⟩
    have f1' := f1.ext (Ext.new (S := []) (o := .lst [.int 60, .int 10, .int 11, .int (10 + r)]) hl0) (by simp) (by simp)
    refine ⟨_, rfl, fa, sa, n + 1, 4, rfl, f1', by decide, by decide, by omega, fun r2 H2 g0 g1 f2 x2 => ?_⟩
    have hl0f := (f1.has hl0).1
    have hl2 : H2 l0 = some (.lst [.int 60, .int 10, .int 11, .int (10 + r)]) := x2.keep l0 _ (by simpa using hl0f) upd_same
    obtain ⟨v, hv, hv2⟩ := atI_ex (xs := [V.int 60, .int 10, .int 11, .int (10 + r)]) g0 (by simpa using g1)
    obtain ⟨many, rfl, m0, m1⟩ : ∃ p, v = V.int p ∧ 10 ≤ p ∧ p ≤ 60 := by
      have hm := List.mem_of_getElem? hv2
      simp only [List.mem_cons, List.not_mem_nil, or_false] at hm
      rcases hm with e | e | e | e <;> exact ⟨_, e, by omega, by omega⟩
    have xx : Ext [fa] H H2 := (x1.trans (.new hl0)).trans x2
    refine ⟨l0, _, r2, _, rfl, rfl, SqL.of hl2, hv, ?_⟩
    -- left
    refine ⟨_, rfl, many, rfl, fun p hp => ⟨p, 0, many, rfl, upd_same, ⟨by omega, by omega, by omega, by omega⟩, by omega, fun l hl => ?_⟩⟩
    have y1 : Ext [] H2 (upd (upd H2 p (.rng 0 many)) l (.lst (rngV 0 many))) := (Ext.new hp).trans (.new hl)
    have f3 := f2.ext y1 (by simp) (by simp)
    have x3 := xx.trans (y1.mono (S' := [fa]) (by simp))
    have hl2' : H2 l = none := (Ext.new (S := []) (o := .rng 0 many) hp).fresh (by simp) hl
    have hlf := f2.has hl2'
    have hlH : H l = none := xx.fresh (by simpa using hlf.1) hl2'
    have hin : AllIn many (rngV 0 many) := fun x hx => by
      unfold rngV at hx
      obtain ⟨k, hk, rfl⟩ := List.mem_map.mp hx
      have := List.mem_range.mp hk
      exact ⟨_, rfl, by omega, by omega⟩
    have hnd : (rngV 0 many).Nodup := by
      unfold rngV
      refine (List.nodup_range).map _ ?_
      intro a b hab z
      exact hab (by have := V.int.inj z; omega)
    have hlen : (rngV 0 many).length = many.toNat := by
      unfold rngV
      rw [List.length_map, List.length_range]
      omega
    have hat : (upd (upd H2 p (.rng 0 many)) l (.lst (rngV 0 many))) l = some (.lst (rngV 0 many)) := upd_same
    generalize upd (upd H2 p (.rng 0 many)) l (.lst (rngV 0 many)) = H3 at f3 x3 hat
    generalize rngV 0 many = left at hin hnd hlen hat
    -- names
    refine ⟨_, rfl, many, rfl, by omega, by omega, comp_range (fun i ys σ' H' => (∃ y, σ' = [y, some (.ref l), some (.ref fa)]) ∧ ∃ zs, H' l = some (.lst zs) ∧ AllIn many zs ∧ (ys ++ zs).Nodup ∧ zs.length + i = many.toNat ∧ AllIn many ys ∧ ys.length = i ∧ Feed H' fa sa (n + 2 + i) ∧ Ext [fa] H H')
      ⟨⟨none, rfl⟩, left, hat, hin, by simpa using hnd, by omega, (fun x hx => by cases hx), rfl, (by rw [show n + 2 + ((0 : Nat) : Int) = n + 1 + 1 by omega]; exact f3), x3⟩ ?_ ?_⟩
    · rintro i ys σ' H' hi ⟨⟨y, rfl⟩, zs, hz, zin, znd, zl, yin, yl, f4, x4⟩
      have hzp : 0 < zs.length := by omega
      refine ⟨by omega, truN ⟨_, rfl, .inl ⟨rfl, _, SqL.of hz⟩, _, rfl, _, rfl, l, _, rfl, .inl (SqL.of hz), fa, sa, n + 2 + i, _, rfl, f4, by omega, by omega, by omega, fun r5 H5 a0 a1 f5 x5 => ?_⟩⟩
      have hz5 : H5 l = some (.lst zs) := x5.keep _ _ (by simpa using hlf.1) hz
      have hk : r5.toNat < zs.length := by omega
      have hx : zs[r5.toNat]? = some zs[r5.toNat] := by simp [hk]
      refine ⟨l, zs, r5, r5.toNat, zs[r5.toNat], rfl, rfl, hz5, by omega, by omega, PySem.seqIndex_of a0 (by omega), hx, ⟨_, rfl⟩, zs.eraseIdx r5.toNat, upd_same, fun x h => zin x (List.mem_of_mem_eraseIdx h), ?_, ?_, ?_, by simp [yl], ?_, ?_⟩
      · have hp : ((ys ++ [zs[r5.toNat]]) ++ zs.eraseIdx r5.toNat).Perm (ys ++ zs) := by
          rw [List.append_assoc]
          exact (erase_perm hk).append_left ys
        exact hp.symm.nodup znd
      · rw [List.length_eraseIdx_of_lt hk]
        omega
      · intro x h
        rcases List.mem_append.mp h with z | z
        · exact yin x z
        · have : x = zs[r5.toNat] := by simpa using z
          exact zin x (this ▸ List.getElem_mem hk)
      · have : n + 2 + ((i + 1 : Nat) : Int) = n + 2 + (i : Int) + 1 := by omega
        rw [this]
        exact f5.ext (.set (S := [l]) (by simp) hz5) (by simpa using hlf.1.symm) (by simpa using hlf.2.symm)
      · exact (x4.trans x5).set' hlH hz5
    · rintro ys σ' H' ⟨⟨y, rfl⟩, zs, hz, zin, znd, zl, yin, yl, f4, x4⟩
      refine ⟨by omega, fun nmA hnm => ?_⟩
      have y2 : Ext [] H' (upd H' nmA (.lst ys)) := .new hnm
      have f5 := f4.ext y2 (by simp) (by simp)
      have x5 := x4.trans (y2.mono (S' := [fa]) (by simp))
      have hn5 : (upd H' nmA (.lst ys)) nmA = some (.lst ys) := upd_same
      have hnf := f4.has hnm
      generalize upd H' nmA (.lst ys) = H5 at f5 x5 hn5
      refine ⟨_, rfl, fa, sa, _, 3, rfl, f5, by decide, by decide, by omega, fun way H6 b0 b1 f6 x6 => ?_⟩
      have hn6 : H6 nmA = some (.lst ys) := x6.keep _ _ (by simpa using hnf.1) hn5
      have x06 := x5.trans x6
      -- pairs
      refine ⟨_, rfl, _, rfl, way, many, rfl, ⟨by omega, by omega, by omega, by omega⟩, comp_range (fun i zs' σ' H' => (∃ y, σ' = [y, some (.ref nmA)]) ∧ PairsIn many H' zs' ∧ zs'.length = i ∧ Ext [] H6 H') ⟨⟨none, rfl⟩, (fun x hx => by cases hx), rfl, .refl _ _⟩ ?_ ?_⟩
      · rintro i zs' σ' H' hi ⟨⟨y, rfl⟩, pin, pl, x7⟩
        have hn7 := x7.keep _ _ (by simp) hn6
        obtain ⟨v1, e1, at1⟩ := atI_at (xs := ys) (i := way + (i : Int) - 1) (by omega) (by omega)
        obtain ⟨v2, e2, at2⟩ := atI_at (xs := ys) (i := way + (i : Int)) (by omega) (by omega)
        obtain ⟨z1, rfl, c0, c1⟩ := yin _ (List.mem_of_getElem? at1)
        obtain ⟨z2, rfl, d0, d1⟩ := yin _ (List.mem_of_getElem? at2)
        have yn : ys.Nodup := (List.nodup_append.mp znd).1
        have hne : z1 ≠ z2 := fun z => by
          subst z
          have := nodup_at yn at1 at2
          rw [if_pos (show (0 : Int) ≤ way + (i : Int) by omega)] at this
          split at this <;> omega
        refine ⟨by omega, truN ⟨_, rfl, _, rfl, _, 1, rfl, rfl, nmA, ys, _, _, rfl, rfl, SqL.of hn7, e1, _, rfl, _, rfl, nmA, ys, _, _, rfl, rfl, SqL.of hn7, e2, by show 2 ≤ sizeLine; decide, fun t ht => ?_⟩⟩
        exact ⟨⟨_, rfl⟩, (pin.ext (Ext.new (S := []) ht)).snoc upd_same c0 c1 d0 d1 hne, by simp [pl], x7.trans (.new ht)⟩
      · rintro zs' σ' H' ⟨⟨y, rfl⟩, pin, pl, x7⟩
        refine ⟨by omega, fun ps hps => ?_⟩
        have y3 : Ext [] H' (upd H' ps (.lst zs')) := .new hps
        have f7 := (f6.ext x7 (by simp) (by simp)).ext y3 (by simp) (by simp)
        have x8 := x06.trans ((x7.trans y3).mono (S' := [fa]) (by simp))
        refine ⟨fun σ' H' => ∃ ps zs n' x7 x8, σ' = [some (.ref fa), some (.int ties), some (.int many), some (.ref l), some (.ref nmA), some (.int way), some (.ref ps), x7, x8] ∧ H' ps = some (.lst zs) ∧ ps ≠ fa ∧ PairsIn many H' zs ∧ zs.length ≤ 200 ∧ Feed H' fa sa n' ∧ n ≤ n' ∧ n' ≤ n + 500 ∧ Ext [fa] H H', ?_, ?_⟩
        · refine ⟨_, rfl, rfl, _, rfl, ite2 (fun hw => ?_) (fun hw => ⟨ps, zs', _, none, none, rfl, upd_same, ((f6.ext x7 (by simp) (by simp)).has hps).1, pin.ext y3, by omega, f7, by omega, by omega, x8⟩)⟩
          generalize upd H' ps (.lst zs') = H8 at f7 x8
          refine ⟨Nat.zero_le _, fun pz hpz => ?_⟩
          have y4 : Ext [] H8 (upd H8 pz (.lst [])) := .new hpz
          have f8 := f7.ext y4 (by simp) (by simp)
          have hzf := f7.has hpz
          have hz0 : H pz = none := x8.fresh (by simpa using hzf.1) hpz
          refine ⟨_, rfl, _, rfl, _, _, rfl, rfl, fa, sa, _, ties + 1, rfl, f8, by omega, by omega, by omega, fun r9 H9 c0 c1 f9 x9 => ⟨_, rfl, by omega, by omega, for_range (fun i σ' H' => ∃ zs n' x7 x8, σ' = [some (.ref fa), some (.int ties), some (.int many), some (.ref l), some (.ref nmA), some (.int way), some (.ref pz), x7, x8] ∧ H' pz = some (.lst zs) ∧ PairsIn many H' zs ∧ zs.length = i ∧ i ≤ 200 ∧ Feed H' fa sa n' ∧ n ≤ n' ∧ n' ≤ n + 70 + 2 * i ∧ Ext [fa] H H')
            ⟨[], _, none, none, rfl, x9.keep _ _ (by simpa using hzf.1) upd_same, (fun x hx => by cases hx), rfl, by omega, f9, by omega, by omega, (x8.trans (y4.mono (by simp))).trans x9⟩ ?_ ?_⟩⟩
          · rintro i σ' H' hi ⟨zs, n', u7, u8, rfl, hz, zin', zl', i2, f10, e1, e2, x10⟩
            refine ⟨_, rfl, _, rfl, fa, sa, n', many, rfl, f10, by omega, by omega, by omega, fun a H11 a0 a1 f11 x11 => ?_⟩
            have hz11 : H11 pz = some (.lst zs) := x11.keep _ _ (by simpa using hzf.1) hz
            refine ⟨_, rfl, .inl ⟨rfl, _, SqL.of hz11⟩, _, rfl, _, rfl, _, _, rfl, rfl, _, rfl, _, rfl, _, _, rfl, rfl, fa, sa, n' + 1, many - 1, rfl, f11, by omega, by omega, by omega, fun c H12 c0' c1' f12 x12 => ⟨_, _, rfl, rfl, _, rfl, _, _, rfl, rfl, by omega, by show 2 ≤ sizeLine; decide, fun t ht => ?_⟩⟩
            have y5 : Ext [] H12 (upd H12 t (.tup [.int a, .int ((a + 1 + c) % many)])) := .new ht
            have hz12 : (upd H12 t (.tup [.int a, .int ((a + 1 + c) % many)])) pz = some (.lst zs) := y5.keep _ _ (by simp) (x12.keep _ _ (by simpa using hzf.1) hz11)
            have pin2 := ((zin'.ext x11).ext x12).ext y5
            have hmod : 0 ≤ (a + 1 + c) % many ∧ (a + 1 + c) % many < many := ⟨Int.emod_nonneg _ (by omega), Int.emod_lt_of_pos _ (by omega)⟩
            have hne : a ≠ (a + 1 + c) % many := by
              by_cases hb : a + 1 + c < many
              · rw [Int.emod_eq_of_lt (by omega) hb]
                omega
              · have e : (a + 1 + c) % many = a + 1 + c - many := by
                  rw [← Int.sub_emod_right, Int.emod_eq_of_lt (by omega) (by omega)]
                omega
            refine ⟨pz, zs, .ref t, rfl, rfl, hz12, by omega, zs ++ [.ref t], n' + 1 + 1, _, _, rfl, upd_same, ?_, by simp [zl'], by omega, ?_, by omega, by omega, ?_⟩
            · exact (pin2.snoc upd_same a0 a1 hmod.1 hmod.2 hne).ext (.set (S := [pz]) (by simp) hz12)
            · exact (f12.ext y5 (by simp) (by simp)).ext (.set (S := [pz]) (by simp) hz12) (by simpa using hzf.1.symm) (by simpa using hzf.2.symm)
            · exact (((x10.trans x11).trans x12).trans (y5.mono (by simp))).set' hz0 hz12
          · rintro σ' H' ⟨zs, n', u7, u8, rfl, hz, zin', zl', i2, f10, e1, e2, x10⟩
            exact ⟨pz, zs, n', u7, u8, rfl, hz, hzf.1, zin', by omega, f10, e1, by omega, x10⟩
        · rintro σ' H9 ⟨ps, zs, n9, u7, u8, rfl, hz, hpf, pin9, pl9, f9, e1, e2, x9⟩
          refine ⟨_, rfl, _, rfl, ps, rfl, ⟨_, SqL.of hz⟩, comp_list (K := K) (a := ps) (xs := zs) (fun i ys σ' H' => (∃ y, σ' = [y, some (.ref fa)]) ∧ ∃ ts n', Ties H' ts ys ∧ (∀ t ∈ ts, WideOk many t) ∧ ts.length = i ∧ i ≤ zs.length ∧ Feed H' fa sa n' ∧ n9 ≤ n' ∧ n' ≤ n9 + 3 * i ∧ Ext [fa] H9 H')
            ⟨⟨none, rfl⟩, [], n9, .nil, by simp, rfl, Nat.zero_le _, f9, by omega, by omega, .refl _ _⟩ (fun i ys σ' H' h => by obtain ⟨_, _, _, _, _, _, _, _, _, _, x⟩ := h; exact SqL.of (x.keep _ _ (by simpa using hpf) hz)) ?_ ?_⟩
          · rintro i x ys σ' H' hx ⟨⟨y, rfl⟩, ts, n', hts, hok, tl, tl2, f10, k1, k2, x10⟩
            obtain ⟨pp, a, b, rfl, hpp, a0, a1, b0', b1', hab⟩ := pin9 x (List.mem_of_getElem? hx)
            have hi : i < zs.length := (List.getElem?_eq_some_iff.mp hx).1
            have hpp' := x10.tup _ _ hpp
            refine ⟨by rw [hts.length]; omega, truN ⟨_, rfl, pp, a, b, rfl, SqT.of hpp', _, rfl, pp, a, b, rfl, SqT.of hpp', _, rfl, fa, sa, n', true, rfl, f10, by omega, fun p n'' H'' p0 p1 g0' g1' f11 x11 => ⟨by show 3 ≤ sizeLine; decide, fun t ht => ?_⟩⟩⟩
            have y5 : Ext [] H'' (upd H'' t (.tup [.int (if b < a then b else a), .int (if a < b then b else a), .int p])) := .new ht
            refine ⟨⟨_, rfl⟩, ts ++ [((if b < a then b else a), (if a < b then b else a), p)], n'', ((hts.ext x11).ext y5).append (.one upd_same), ?_, by simp [tl], by omega, f11.ext y5 (by simp) (by simp), by omega, by omega, (x10.trans x11).trans (y5.mono (by simp))⟩
            intro t' ht'
            rcases List.mem_append.mp ht' with h | h
            · exact hok t' h
            · have : t' = ((if b < a then b else a), (if a < b then b else a), p) := by simpa using h
              subst this
              refine ⟨?_, ?_, ?_, p0, p1⟩
              · show 0 ≤ if b < a then b else a
                split <;> omega
              · show (if b < a then b else a) < if a < b then b else a
                split <;> split <;> omega
              · show (if a < b then b else a) < many
                split <;> omega
          · rintro ys σ' H' ⟨⟨y, rfl⟩, ts, n', hts, hok, tl, tl2, f10, k1, k2, x10⟩
            refine ⟨by rw [hts.length]; omega, fun D hD => ⟨D, _, rfl, .inl ⟨SqL.of upd_same, fun t ht => ⟨by show 2 ≤ sizeLine; decide, fun v hv => ?_⟩⟩⟩⟩
            have z1 : Ext [] H' (upd H' D (.lst ys)) := .new hD
            have z2 : Ext [] (upd H' D (.lst ys)) (upd (upd H' D (.lst ys)) t (.tup ys)) := .new ht
            have z3 : Ext [] (upd (upd H' D (.lst ys)) t (.tup ys)) (upd (upd (upd H' D (.lst ys)) t (.tup ys)) v (.tup [.int many, .ref t])) := .new hv
            have htv : t ≠ v := fun z => by rw [← z, upd_same] at hv; cases hv
            exact q many ts _ n' _ (.tup upd_same (.cons (.int _) (.cons (.tup (by rw [upd_ne htv]; exact upd_same) ((((hts.ext z1).ext z2).ext z3) _)) .nil))) m0 m1 (by omega) hok (by omega) (by omega) (((f10.ext z1 (by simp) (by simp)).ext z2 (by simp) (by simp)).ext z3 (by simp) (by simp)) (((((x9.trans x10).trans (z1.mono (by simp))).trans (z2.mono (by simp))).trans (z3.mono (by simp))))
end
end Odj

set_option Elab.async false
set_option linter.all false
set_option maxRecDepth 100000
set_option maxHeartbeats 8000000
namespace Odj
open PySem L2
/-! ### data with small leaves -/
mutual
def Gd (B : Nat) : PyData → Prop
  | .none => True
  | .bool _ => True
  | .int i => i.natAbs ≤ B
  | .str x => (∀ c ∈ x.cps.toList, c < 1114112) ∧ x.cps.size ≤ 60
  | .tuple ds => GdL B ds
  | .list ds => GdL B ds
  | .dict _ => False
def GdL (B : Nat) : List PyData → Prop
  | [] => True
  | d :: ds => Gd B d ∧ GdL B ds
end
theorem gdl_iff {B : Nat} : ∀ {ds : List PyData}, GdL B ds ↔ ∀ d ∈ ds, Gd B d
  | [] => by simp [GdL]
  | d :: ds => by simp [GdL, gdl_iff (ds := ds)]
mutual
theorem gd_mono {B C : Nat} (h : B ≤ C) : ∀ d : PyData, Gd B d → Gd C d
  | .none, _ => by simp [Gd]
  | .bool _, _ => by simp [Gd]
  | .int i, g => by simp only [Gd] at g ⊢; omega
  | .str x, g => by simp only [Gd] at g ⊢; exact g
  | .tuple ds, g => by simp only [Gd] at g ⊢; exact gdl_mono h ds g
  | .list ds, g => by simp only [Gd] at g ⊢; exact gdl_mono h ds g
  | .dict _, g => by simp only [Gd] at g
theorem gdl_mono {B C : Nat} (h : B ≤ C) : ∀ ds : List PyData, GdL B ds → GdL C ds
  | [], _ => by simp [GdL]
  | d :: ds, g => by simp only [GdL] at g ⊢; exact ⟨gd_mono h d g.1, gdl_mono h ds g.2⟩
end
theorem big50 : (10 : Nat) ^ 50 < 2 ^ 1920 := by decide +kernel
mutual
theorem gd_lay : ∀ d : PyData, Gd (10 ^ 50) d → d.canLay0 = true ∧ d.showable = true ∧ d.leavesShort 60 = true
  | .none, _ => ⟨rfl, rfl, rfl⟩
  | .bool _, _ => ⟨rfl, rfl, rfl⟩
  | .int i, g => by
    simp only [Gd] at g
    refine ⟨rfl, ?_, ?_⟩
    · simp only [PyData.showable, decide_eq_true_eq]
      by_cases h : i.natAbs = 0
      · rw [h]; decide
      · exact (Nat.log2_lt h).mpr (Nat.lt_of_le_of_lt g big50)
    · simp only [PyData.leavesShort, decide_eq_true_eq]
      have e := int_text_length_le10 (k := 51) (by decide) (Nat.lt_of_le_of_lt g (by decide +kernel : (10 : Nat) ^ 50 < 10 ^ 51))
      show (Str.ofString (toString i)).length ≤ 60
      rw [ofString_length]
      omega
  | .str x, g => by
    simp only [Gd] at g
    refine ⟨?_, rfl, ?_⟩
    · show PyData.strOk x = true
      unfold PyData.strOk
      rw [Array.all_eq_true']
      intro c hc
      exact decide_eq_true (g.1 c (by simpa using hc))
    · simp only [PyData.leavesShort, List.all_eq_true, decide_eq_true_eq]
      intro c hc
      exact Nat.lt_of_lt_of_le (g.1 c hc) (by decide)
  | .tuple ds, g => by simp only [Gd] at g; simpa only [PyData.canLay0, PyData.showable, PyData.leavesShort] using gdl_lay ds g
  | .list ds, g => by simp only [Gd] at g; simpa only [PyData.canLay0, PyData.showable, PyData.leavesShort] using gdl_lay ds g
  | .dict _, g => by simp only [Gd] at g
theorem gdl_lay : ∀ ds : List PyData, GdL (10 ^ 50) ds → PyData.canLayAll0 ds = true ∧ PyData.showableAll ds = true ∧ PyData.leavesShortAll 60 ds = true
  | [], _ => ⟨rfl, rfl, rfl⟩
  | d :: ds, g => by
    simp only [GdL] at g
    obtain ⟨a1, a2, a3⟩ := gd_lay d g.1
    obtain ⟨b1, b2, b3⟩ := gdl_lay ds g.2
    simp only [PyData.canLayAll0, PyData.showableAll, PyData.leavesShortAll, a1, a2, a3, b1, b2, b3]
    exact ⟨rfl, rfl, rfl⟩
end
theorem good_of {d : PyData} (g : Gd (10 ^ 50) d) (hd : d.depth ≤ 60) (hw : d.weight ≤ 200000) : Good d := ⟨(gd_lay d g).1, (gd_lay d g).2.1, (gd_lay d g).2.2, hd, hw⟩
theorem wA_append : ∀ xs ys : List PyData, PyData.weightAll (xs ++ ys) = PyData.weightAll xs + PyData.weightAll ys
  | [], ys => by simp [PyData.weightAll]
  | x :: xs, ys => by simp only [List.cons_append, PyData.weightAll, wA_append xs ys]; omega
theorem dA_append : ∀ xs ys : List PyData, PyData.depthAll (xs ++ ys) = max (PyData.depthAll xs) (PyData.depthAll ys)
  | [], ys => by simp [PyData.depthAll]
  | x :: xs, ys => by simp only [List.cons_append, PyData.depthAll, dA_append xs ys]; omega
theorem wA_split (xs : List PyData) (n : Nat) : PyData.weightAll xs = PyData.weightAll (xs.take n) + PyData.weightAll (xs.drop n) := by rw [← wA_append, List.take_append_drop]
theorem dA_split (xs : List PyData) (n : Nat) : PyData.depthAll xs = max (PyData.depthAll (xs.take n)) (PyData.depthAll (xs.drop n)) := by rw [← dA_append, List.take_append_drop]
theorem wA_rev : ∀ xs : List PyData, PyData.weightAll xs.reverse = PyData.weightAll xs
  | [] => rfl
  | x :: xs => by rw [List.reverse_cons, wA_append, wA_rev xs]; simp only [PyData.weightAll]; omega
theorem dA_rev : ∀ xs : List PyData, PyData.depthAll xs.reverse = PyData.depthAll xs
  | [] => rfl
  | x :: xs => by rw [List.reverse_cons, dA_append, dA_rev xs]; simp only [PyData.depthAll]; omega
theorem len_wA : ∀ xs : List PyData, xs.length ≤ PyData.weightAll xs
  | [] => Nat.le_refl _
  | x :: xs => by have := len_wA xs; simp only [List.length_cons, PyData.weightAll]; omega
theorem w_int {i : Int} {k : Nat} (h : i.natAbs < 2 ^ k) : PyData.weight (.int i) ≤ k := by
  simp only [PyData.weight]
  split
  · omega
  · rename_i hne
    have : i.natAbs ≠ 0 := fun z => hne (by simp; omega)
    have := (Nat.log2_lt this).mpr h
    omega
/-- odd things -/
def spOdd : Sp := fun vs H Q _ => ∃ (fa sa : Addr) (n : Int), vs = [.ref fa] ∧ Feed H fa sa n ∧ n + 1 ≤ most ∧
  ∀ (d : PyData) (v : V) (H' : Hp), Rep [fa] H' d v → Gd (10 ^ 39) d → d.weight ≤ 140 → d.depth ≤ 1 → Feed H' fa sa (n + 1) → Ext [fa] H H' → Q v H'
def odds0 : List PyData := [.none, .bool true, .bool false, .int 0, .int 1, .int 2, .int (-1), .int 60, .int 61, .int (10 ^ Int.toNat 39), .str "", .str "way", .str "-", .tuple [], .list [], .tuple [.int 0], .tuple [.int 0, .int 1], .list [.int 0, .int 1]]
theorem odds0_fine : ∀ d ∈ odds0, Gd (10 ^ 39) d ∧ d.weight ≤ 140 ∧ d.depth ≤ 1 := by
  intro d hd
  unfold odds0 at hd
  simp only [List.mem_cons, List.not_mem_nil, or_false] at hd
  rcases hd with rfl | rfl | rfl | rfl | rfl | rfl | rfl | rfl | rfl | rfl | rfl | rfl | rfl | rfl | rfl | rfl | rfl | rfl <;> refine ⟨?_, by decide +kernel, by decide +kernel⟩ <;> simp only [Gd, GdL] <;> decide +kernel
section
variable {P : Program} {w : World} {K : PySem.W.Frag} {mg : Str → Option Value} {base : Heap} {f : Addr} {fd : FuncData}
theorem d_odd (F : Fun K "_law_odd" "_law_odd" (top 16) f fd) (hm : mg "_law_odd" = some (.ref f)) (D_law_draw : DefOk P w K mg base 1 "_law_draw" ["_law_feed_here", "_law_many"] spDraw) : DefOk P w K mg base 2 "_law_odd" ["_law_feed_here"] spOdd := by
  refine ⟨f, fd, ?_, hm, F.kp, F.binds fun _ _ _ _ _ _ us hl => match us, hl with | [_], _ => rfl⟩
  have sc : FnScope ["_law_feed_here", "_law_some"] ["_law_feed_here"] (defScope (top 16)) := ⟨rfl, rfl, rfl, by decide +kernel, rfl, by decide +kernel, by decide +kernel⟩
  refine F.okQ sc (fun vs H Q E h => ?_) (fun cdv A outer s H vs Q E hr h => ?_)
  · obtain ⟨fa, sa, n, rfl, _⟩ := h
    rfl
  · obtain ⟨fa, sa, n, rfl, fe, nm, q⟩ := h
    refine ⟨_, (qss_cons (qs_set (i := 1) sc.nd rfl (Or.inl rfl) (qe_lst (qa_c qe_non (qa_c qe_bl (qa_c qe_bl (qa_c qe_int (qa_c qe_int (qa_c qe_int (qa_c (qe_un un_neg qe_int) (qa_c qe_int (qa_c qe_int (qa_c (qe_op op_pow qe_int qe_int) (qa_c qe_str (qa_c qe_str (qa_c qe_str (qa_c (qe_tup qa_nil) (qa_c (qe_lst qa_nil) (qa_c (qe_tup (qa_c qe_int qa_nil)) (qa_c (qe_tup (qa_c qe_int (qa_c qe_int qa_nil))) (qa_c (qe_lst (qa_c qe_int (qa_c qe_int qa_nil))) qa_nil))))))))))))))))))))
      (qss_one (qs_ret (qe_ix (ixL K) (qv 1) (qe_callD D_law_draw (hr.mono (by decide)) (qa_c (qv 0) (qa_c qe_int qa_nil))) (fun _ _ => rfl))))), ?_⟩
    refine ⟨1, rfl, 10, 39, rfl, rfl, ⟨by decide, by decide, by decide⟩, Nat.zero_le _, fun p1 h1 => ⟨Nat.zero_le _, fun p2 h2 => ⟨by show 1 ≤ sizeLine; decide, fun p3 h3 => ⟨by show 2 ≤ sizeLine; decide, fun p4 h4 => ⟨by show 2 ≤ sizeLine; decide, fun p5 h5 => ⟨by show 18 ≤ sizeLine; decide, fun l hl => ?_⟩⟩⟩⟩⟩⟩
    generalize e1 : upd H p1 (.tup []) = H1 at h2 h3 h4 h5 hl ⊢
    have x1 : Ext [] H H1 := e1 ▸ Ext.new h1
    have a1 : H1 p1 = some (.tup []) := e1 ▸ upd_same
    generalize e2 : upd H1 p2 (.lst []) = H2 at h3 h4 h5 hl ⊢
    have x2 : Ext [] H1 H2 := e2 ▸ Ext.new h2
    have a2 : H2 p2 = some (.lst []) := e2 ▸ upd_same
    generalize e3 : upd H2 p3 (.tup [.int 0]) = H3 at h4 h5 hl ⊢
    have x3 : Ext [] H2 H3 := e3 ▸ Ext.new h3
    have a3 : H3 p3 = some (.tup [.int 0]) := e3 ▸ upd_same
    generalize e4 : upd H3 p4 (.tup [.int 0, .int 1]) = H4 at h5 hl ⊢
    have x4 : Ext [] H3 H4 := e4 ▸ Ext.new h4
    have a4 : H4 p4 = some (.tup [.int 0, .int 1]) := e4 ▸ upd_same
    generalize e5 : upd H4 p5 (.lst [.int 0, .int 1]) = H5 at hl ⊢
    have x5 : Ext [] H4 H5 := e5 ▸ Ext.new h5
    have a5 : H5 p5 = some (.lst [.int 0, .int 1]) := e5 ▸ upd_same
    have f1 := fe.ext x1 (by simp) (by simp)
    have f4 := ((f1.ext x2 (by simp) (by simp)).ext x3 (by simp) (by simp)).ext x4 (by simp) (by simp)
    have f5 := f4.ext x5 (by simp) (by simp)
    have r5 : Reps [fa] H5 odds0 [.non, .bl true, .bl false, .int 0, .int 1, .int 2, .int (-1), .int 60, .int 61, .int (10 ^ Int.toNat 39), .str "", .str "way", .str "-", .ref p1, .ref p2, .ref p3, .ref p4, .ref p5] := by
      refine .cons .non (.cons (.bl _) (.cons (.bl _) (.cons (.int _) (.cons (.int _) (.cons (.int _) (.cons (.int _) (.cons (.int _) (.cons (.int _) (.cons (.int _) (.cons (.str _) (.cons (.str _) (.cons (.str _) (.cons ?_ (.cons ?_ (.cons ?_ (.cons ?_ (.cons ?_ .nil)))))))))))))))))
      · exact .tup (x5.tup _ _ (x4.tup _ _ (x3.tup _ _ (x2.tup _ _ a1)))) .nil
      · exact .lst (x5.keep _ _ (by simp) (x4.keep _ _ (by simp) (x3.keep _ _ (by simp) a2))) (by simpa using (f1.has h2).1) .nil
      · exact .tup (x5.tup _ _ (x4.tup _ _ a3)) (.cons (.int _) .nil)
      · exact .tup (x5.tup _ _ a4) (.cons (.int _) (.cons (.int _) .nil))
      · exact .lst a5 (by simpa using (f4.has h5).1) (.cons (.int _) (.cons (.int _) .nil))
    have x6 : Ext [] H5 (upd H5 l (.lst [.non, .bl true, .bl false, .int 0, .int 1, .int 2, .int (-1), .int 60, .int 61, .int (10 ^ Int.toNat 39), .str "", .str "way", .str "-", .ref p1, .ref p2, .ref p3, .ref p4, .ref p5])) := .new hl
    refine ⟨_, rfl, _, rfl, fa, sa, n, 18, rfl, f5.ext x6 (by simp) (by simp), by decide, by decide, by omega, fun r H' r0 r1 f7 x7 => ?_⟩
    obtain ⟨v, hv, hv2⟩ := atI_ex (xs := [V.non, .bl true, .bl false, .int 0, .int 1, .int 2, .int (-1), .int 60, .int 61, .int (10 ^ Int.toNat 39), .str "", .str "way", .str "-", .ref p1, .ref p2, .ref p3, .ref p4, .ref p5]) r0 (by simpa using r1)
    obtain ⟨d, hd, rd⟩ := ((r5.ext (x6.mono (S' := [fa]) (by simp))).ext x7).get hv2
    obtain ⟨g1, g2, g3⟩ := odds0_fine d (List.mem_of_getElem? hd)
    refine ⟨l, _, r, v, rfl, rfl, SqL.of (x7.keep _ _ (by simpa using (f5.has hl).1) upd_same), hv, q d v H' rd g1 g2 g3 f7 ?_⟩
    exact (((((x1.trans x2).trans x3).trans x4).trans x5).trans x6).mono (S' := [fa]) (by simp) |>.trans x7
end
end Odj

set_option Elab.async false
set_option linter.all false
set_option maxRecDepth 100000
set_option maxHeartbeats 8000000
namespace L2
open PySem
/-! ### rules by data -/
def cutL {α : Type} (xs : List α) (lo hi : Option Int) : List α := (xs.drop (HT.sIx xs.length 0 lo)).take (HT.sIx xs.length xs.length hi - HT.sIx xs.length 0 lo)
theorem cutL_to {α : Type} (xs : List α) (k : Int) (h : 0 ≤ k) : cutL xs none (some k) = xs.take k.toNat := by
  unfold cutL
  rw [show k = ((k.toNat : Nat) : Int) by omega, HT.sIx_nat, HT.sIx_none]
  simp only [List.drop_zero, Nat.sub_zero, Int.toNat_natCast]
  by_cases hc : k.toNat ≤ xs.length
  · rw [Nat.min_eq_left hc]
  · rw [Nat.min_eq_right (by omega), List.take_of_length_le (Nat.le_refl _), List.take_of_length_le (by omega)]
theorem cutL_from {α : Type} (xs : List α) (k : Int) (h : 0 ≤ k) : cutL xs (some k) none = xs.drop k.toNat := by
  unfold cutL
  rw [show k = ((k.toNat : Nat) : Int) by omega, HT.sIx_nat, HT.sIx_none]
  simp only [Int.toNat_natCast]
  by_cases hc : k.toNat ≤ xs.length
  · rw [Nat.min_eq_left hc, List.take_of_length_le (by rw [List.length_drop]; exact Nat.le_refl _)]
  · rw [Nat.min_eq_right (by omega), List.drop_of_length_le (Nat.le_refl _), List.drop_of_length_le (by omega)]
    simp
section
variable {K : PySem.W.Frag} {S : List Addr} {H : Hp} {ds es : List PyData} {v u : V} {Q : VK}
theorem sl_rep {lo hi : Option Int} (r : Rep S H (.tuple ds) v) (q : ∀ v' H', Ext [] H H' → Rep S H' (.tuple (cutL ds lo hi)) v' → Q v' H') : rSlTA K v lo hi H Q := by
  obtain ⟨a, xs, rfl, ha, rs⟩ := r.of_tup
  have hc : Reps S H (cutL ds lo hi) (cutV xs lo hi) := by
    unfold cutL cutV
    rw [rs.length]
    exact (rs.drop _).take _
  refine ⟨a, xs, rfl, SqT.of ha, fun e => q _ _ (.refl _ _) (.tup ha (e ▸ hc)), fun p hp => q _ _ (.new hp) (.tup upd_same (hc.ext (.new hp)))⟩
theorem cat_rep (r1 : Rep S H (.tuple ds) v) (r2 : Rep S H (.tuple es) u) (hz : ds.length + es.length ≤ sizeLine) (q : ∀ v' H', Ext [] H H' → Rep S H' (.tuple (ds ++ es)) v' → Q v' H') : rCatA K v u H Q := by
  obtain ⟨a, xs, rfl, ha, rs⟩ := r1.of_tup
  obtain ⟨b, ys, rfl, hb, rt⟩ := r2.of_tup
  have hc := rs.append rt
  refine ⟨a, b, xs, ys, rfl, rfl, SqT.of ha, SqT.of hb, by rw [rs.length, rt.length]; exact hz, fun e => q _ _ (.refl _ _) (.tup hb (by subst e; exact hc)), fun e => q _ _ (.refl _ _) (.tup ha (by subst e; simpa using hc)), fun p hp => q _ _ (.new hp) (.tup upd_same (hc.ext (.new hp)))⟩
theorem ix_rep {i : Int} (r : Rep S H (.tuple ds) v) (h0 : 0 ≤ i) (h1 : i < ds.length) (q : ∀ d x, ds[i.toNat]? = some d → Rep S H d x → Q x H) : rIxT K v (.int i) H Q := by
  obtain ⟨a, xs, rfl, ha, rs⟩ := r.of_tup
  obtain ⟨x, e1, e2⟩ := atI_ex (xs := xs) h0 (by rw [rs.length]; exact h1)
  obtain ⟨d, hd, rd⟩ := rs.get e2
  exact ⟨a, xs, i, x, rfl, rfl, SqT.of ha, e1, q d x hd rd⟩
end
end L2
namespace Odj
open PySem L2
structure Bt4 (mg : Str → Option Value) : Prop where
  str : mg "str" = none
/-- a thing bent somewhere; of a depth below k -/
def spBent (k : Nat) : Sp := fun vs H Q _ => ∃ (fa sa : Addr) (n : Int) (d : PyData) (v : V) (B : Nat), vs = [.ref fa, v] ∧ Feed H fa sa n ∧ Rep [fa] H d v ∧ Gd B d ∧ 10 ^ 39 ≤ B ∧ B + 1 ≤ 10 ^ 49 ∧ d.depth < k ∧ d.weight ≤ 50000 ∧ d.depth ≤ 50 ∧ n + 4 * ((d.depth : Int) + 1) ≤ most ∧
  ∀ (d' : PyData) (v' : V) (n' : Int) (H' : Hp), Rep [fa] H' d' v' → Gd (B + 1) d' → d'.weight ≤ 2 * d.weight + 400 → d'.depth ≤ d.depth + 1 → n ≤ n' → n' ≤ n + 4 * ((d.depth : Int) + 1) → Feed H' fa sa n' → Ext [fa] H H' → Q v' H'
theorem ofString_ok (s : String) : ∀ c ∈ (Str.ofString s).cps.toList, c < 1114112 := by
  intro c hc
  rw [Str.ofString_eq_toList] at hc
  simp only [List.mem_map] at hc
  obtain ⟨ch, _, rfl⟩ := hc
  have := ch.valid
  rcases this with h | ⟨_, h⟩
  · exact Nat.lt_trans h (by decide)
  · exact h
theorem gdl_take {B : Nat} {ds : List PyData} (g : GdL B ds) (n : Nat) : GdL B (ds.take n) := gdl_iff.mpr fun d hd => gdl_iff.mp g d (List.mem_of_mem_take hd)
theorem gdl_drop {B : Nat} {ds : List PyData} (g : GdL B ds) (n : Nat) : GdL B (ds.drop n) := gdl_iff.mpr fun d hd => gdl_iff.mp g d (List.mem_of_mem_drop hd)
theorem gdl_append {B : Nat} {ds es : List PyData} (g : GdL B ds) (h : GdL B es) : GdL B (ds ++ es) := gdl_iff.mpr fun d hd => (List.mem_append.mp hd).elim (gdl_iff.mp g d) (gdl_iff.mp h d)
section
variable {P : Program} {w : World} {K : PySem.W.Frag} {mg : Str → Option Value} {base : Heap} {f : Addr} {fd : FuncData}
theorem d_bent (F : Fun K "_law_bent" "_law_bent" (top 17) f fd) (hm : mg "_law_bent" = some (.ref f)) (B : Bt mg) (B3 : Bt3 mg) (B4 : Bt4 mg) (D_law_draw : DefOk P w K mg base 1 "_law_draw" ["_law_feed_here", "_law_many"] spDraw)
    (D_law_odd : DefOk P w K mg base 2 "_law_odd" ["_law_feed_here"] spOdd) : ∀ k, DefOk P w K mg base (k + 3) "_law_bent" ["_law_feed_here", "_law_thing"] (spBent k) := by
  intro k
  induction k with
  | zero =>
    refine ⟨f, fd, ⟨fun vs H Q E h => ?_, fun A outer s H args us vs Q E _ _ _ _ h => ?_⟩, hm, F.kp, F.binds fun _ _ _ _ _ _ us hl => match us, hl with | [_, _], _ => rfl⟩
    · obtain ⟨_, _, _, _, _, _, rfl, _⟩ := h
      rfl
    · obtain ⟨_, _, _, _, _, _, _, _, _, _, _, _, h, _⟩ := h
      exact absurd h (Nat.not_lt_zero _)
  | succ k ih =>
    have D_law_bent := ih
    refine ⟨f, fd, ?_, hm, F.kp, F.binds fun _ _ _ _ _ _ us hl => match us, hl with | [_, _], _ => rfl⟩
    have sc : FnScope ["_law_feed_here", "_law_thing", "_law_at", "_law_way", "_law_some"] ["_law_feed_here", "_law_thing"] (defScope (top 17)) := ⟨rfl, rfl, rfl, by decide +kernel, rfl, by decide +kernel, by decide +kernel⟩
    refine F.okQ (k := k + 3) sc (fun vs H Q E h => ?_) (fun cdv A outer s H vs Q E hr h => ?_)
    · obtain ⟨_, _, _, _, _, _, rfl, _⟩ := h
      rfl
    obtain ⟨fa, sa, n, d, v, Bo, rfl, fe, rp, gd, b0, b1, hdk, hw, hd50, nm, q⟩ := h
    have hsz : sizeLine = 16777216 := by decide
    have hmo : most = 1099511627776 := rfl
    refine ⟨_, (qss_cut (qs_if (QW.pt (qw_and (qt_val (qe_callB (isiK K) (by rfl) B.isinstance (by decide +kernel) (qa_c (qv 1) (qa_c (qe_ty "tuple" (by rfl) B.tuple (by decide +kernel)) qa_nil)))) (qw_and (qt_cmpR (op_neD hr) (qv 1) (qe_tup qa_nil) (nomark _)) (qw_and1 (qt_cmpR op_gt (qe_callD D_law_draw (hr.mono (by omega)) (qa_c (qv 0) (qa_c qe_int qa_nil))) qe_int (nomark _)))))) (qss_cons (qs_set (i := 2) sc.nd rfl (Or.inl rfl) (qe_callD D_law_draw (hr.mono (by omega)) (qa_c (qv 0) (qa_c (qe_callB (lenK K) (by rfl) B.len (by decide +kernel) (qa_c (qv 1) qa_nil)) qa_nil))))
      (qss_one (qs_ret (qe_op (catT K) (qe_op (catT K) (qe_slice (slT K) (qv 1) qo_none (qo_some (qv 2))) (qe_tup (qa_c (qe_callD D_law_bent hr (qa_c (qv 0) (qa_c (qe_ix (ixT K) (qv 1) (qv 2) (fun _ _ => rfl)) qa_nil))) qa_nil))) (qe_slice (slT K) (qv 1) (qo_some (qe_op op_add (qv 2) qe_int)) qo_none))))) qss_nil)
      (qss_cons (qs_set (i := 3) sc.nd rfl (Or.inl rfl) (qe_callD D_law_draw (hr.mono (by omega)) (qa_c (qv 0) (qa_c qe_int qa_nil))))
      (qss_cut (qs_if (QW.pt (qw_and (qt_val (qe_callB (isiK K) (by rfl) B.isinstance (by decide +kernel) (qa_c (qv 1) (qa_c (qe_ty "tuple" (by rfl) B.tuple (by decide +kernel)) qa_nil)))) (qw_and1 (qt_cmpR op_lt (qv 3) qe_int (nomark _))))) (qss_cons (qs_set (i := 2) sc.nd rfl (Or.inl rfl) (qe_callD D_law_draw (hr.mono (by omega)) (qa_c (qv 0) (qa_c (qe_op op_add (qe_callB (lenK K) (by rfl) B.len (by decide +kernel) (qa_c (qv 1) qa_nil)) qe_int) qa_nil))))
      (qss_cons (qs_set (i := 4) sc.nd rfl (Or.inl rfl) (qe_lst (qa_c (qe_callTy (listK K) (by rfl) B3.list (by decide +kernel) (qa_c (qv 1) qa_nil)) (qa_c (qe_op (catT K) (qe_slice (slT K) (qv 1) qo_none (qo_some (qv 2))) (qe_slice (slT K) (qv 1) (qo_some (qe_op op_add (qv 2) qe_int)) qo_none)) (qa_c (qe_op (catT K) (qe_slice (slT K) (qv 1) qo_none (qo_some (qe_op op_add (qv 2) qe_int))) (qe_slice (slT K) (qv 1) (qo_some (qv 2)) qo_none)) (qa_c (qe_rev K (qv 1)) qa_nil))))))
      (qss_one (qs_ret (qe_ix (ixL K) (qe_op op_cat (qv 4) (qe_lst (qa_c (qe_op (catT K) (qv 1) (qe_tup (qa_c (qe_callD D_law_odd (hr.mono (by omega)) (qa_c (qv 0) qa_nil)) qa_nil))) qa_nil))) (qv 3) (fun _ _ => rfl)))))) qss_nil)
      (qss_cut (qs_if (QW.pt (qw_and (qt_val (qe_callB (isiK K) (by rfl) B.isinstance (by decide +kernel) (qa_c (qv 1) (qa_c (qe_ty "int" (by rfl) B.int (by decide +kernel)) qa_nil)))) (qw_and (qt_not (qt_val (qe_callB (isiK K) (by rfl) B.isinstance (by decide +kernel) (qa_c (qv 1) (qa_c (qe_ty "bool" (by rfl) B.bool (by decide +kernel)) qa_nil))))) (qw_and1 (qt_cmpR op_lt (qv 3) qe_int (nomark _)))))) (qss_one (qs_ret (qe_ix (ixL K) (qe_lst (qa_c (qe_op op_add (qv 1) qe_int) (qa_c (qe_op op_sub (qv 1) qe_int) (qa_c (qe_un un_neg (qv 1)) (qa_c (qe_cmpR op_eq (qv 1) qe_int (nomark _)) (qa_c (qe_callTy call_str_int (by rfl) B4.str (by decide +kernel) (qa_c (qv 1) qa_nil)) qa_nil)))))) (qv 3) (fun _ _ => rfl)))) qss_nil)
      (qss_one (qs_ret (qe_callD D_law_odd (hr.mono (by omega)) (qa_c (qv 0) qa_nil)))))))), ?_⟩
    have n0 := fe.lo
    refine ⟨fun σ' H' => ∃ n', σ' = [some (.ref fa), some v, none, none, none] ∧ Rep [fa] H' d v ∧ Feed H' fa sa n' ∧ n ≤ n' ∧ n' ≤ n + 1 ∧ Ext [fa] H H', ?_, ?_⟩
    · refine ⟨v, rfl, v, _, _, _, rfl, rp.ty, kit3 d, _, rfl, ?_⟩
      cases d with
      | tuple ds =>
        have hwl : PyData.weightAll ds ≤ 50000 := hw
        have hlen := len_wA ds
        have hgl : GdL Bo ds := by simpa only [Gd] using gd
        refine iteT ⟨_, rfl, Nat.zero_le _, fun p hp => ?_⟩
        have y1 : Ext [] H (upd H p (.tup [])) := .new hp
        have f1 := fe.ext y1 (by simp) (by simp)
        have rp1 := rp.ext (y1.mono (S' := [fa]) (by simp))
        have hlay := (gd_lay (.tuple ds) (gd_mono (by omega) _ gd)).1
        refine ⟨[fa], .tuple ds, .tuple [], rp1, .tup upd_same .nil, hlay, rfl, by omega, _, rfl, ite2 (fun hne => ?_) (fun hne => iteF ⟨n, rfl, rp1, f1, by omega, by omega, y1.mono (by simp)⟩)⟩
        have hpos : 0 < ds.length := by
          cases ds with
          | nil => simp [PyData.eqv, PyData.eqvAll] at hne
          | cons _ _ => simp
        refine ⟨_, rfl, fa, sa, n, 6, rfl, f1, by decide, by decide, by omega, fun r6 H2 a0 a1 f2 x2 => ⟨_, _, rfl, rfl, _, rfl, ite2 (fun hz => ?_) (fun hz => ⟨n + 1, rfl, rp1.ext x2, f2, by omega, by omega, (y1.mono (by simp)).trans x2⟩)⟩⟩
        have rp2 := rp1.ext x2
        obtain ⟨a, xs, rfl, ha, rs⟩ := rp2.of_tup
        refine ⟨_, rfl, _, rfl, a, xs, rfl, .inr (SqT.of ha), fa, sa, n + 1, _, rfl, f2, by rw [rs.length]; omega, by rw [rs.length]; omega, by omega, fun at' H3 c0 c1 f3 x3 => ?_⟩
        rw [rs.length] at c1
        have rp3 := rp2.ext x3
        have x03 : Ext [fa] H H3 := ((y1.mono (by simp)).trans x2).trans x3
        refine ⟨_, rfl, _, rfl, at', rfl, sl_rep rp3 fun v1 H4 y4 r4 => ?_⟩
        have rp4 := rp3.ext (y4.mono (S' := [fa]) (by simp))
        have f4 := f3.ext y4 (by simp) (by simp)
        refine ⟨_, rfl, _, rfl, _, rfl, ix_rep rp4 c0 c1 fun dx x hdx rx => ?_⟩
        have hmem := List.mem_of_getElem? hdx
        have hat : at'.toNat < ds.length := by omega
        have hsplit : ds = ds.take at'.toNat ++ dx :: ds.drop (at'.toNat + 1) := by
          have e1 : ds.drop at'.toNat = dx :: ds.drop (at'.toNat + 1) := by
            rw [List.drop_eq_getElem_cons hat]
            congr
            exact (List.getElem?_eq_some_iff.mp hdx).2
          rw [← e1, List.take_append_drop]
        have hwx : PyData.weightAll ds = PyData.weightAll (ds.take at'.toNat) + (dx.weight + 1 + PyData.weightAll (ds.drop (at'.toNat + 1))) := by
          conv => lhs; rw [hsplit]
          rw [wA_append]
          simp only [PyData.weightAll]
        have hdx2 : PyData.depthAll ds = max (PyData.depthAll (ds.take at'.toNat)) (max dx.depth (PyData.depthAll (ds.drop (at'.toNat + 1)))) := by
          conv => lhs; rw [hsplit]
          rw [dA_append]
          simp only [PyData.depthAll]
        have hdd : (PyData.tuple ds).depth = PyData.depthAll ds + 1 := by simp only [PyData.depth]
        rw [hdd] at hdk nm q
        refine ⟨fa, sa, n + 1 + 1, dx, x, Bo, rfl, f4, rx, gdl_iff.mp hgl dx hmem, b0, b1, by omega, by omega, by omega, by omega, fun d' v' n' H5 r5 g5 w5 dp5 k0 k1 f5 x5 => ⟨by show 1 ≤ sizeLine; decide, fun t ht => ?_⟩⟩
        have y6 : Ext [] H5 (upd H5 t (.tup [v'])) := .new ht
        have r4' := (r4.ext x5).ext (y6.mono (S' := [fa]) (by simp))
        have rt : Rep [fa] (upd H5 t (.tup [v'])) (.tuple [d']) (.ref t) := .tup upd_same (.cons (r5.ext (y6.mono (S' := [fa]) (by simp))) .nil)
        have rp6 := (rp4.ext x5).ext (y6.mono (S' := [fa]) (by simp))
        have f6 := f5.ext y6 (by simp) (by simp)
        rw [cutL_to ds at' c0] at r4'
        have hl1 : (ds.take at'.toNat).length ≤ ds.length := by rw [List.length_take]; omega
        have hl2 : (ds.drop (at'.toNat + 1)).length ≤ ds.length := by rw [List.length_drop]; omega
        refine cat_rep r4' rt (by simp only [List.length_cons, List.length_nil]; omega) fun v2 H7 y7 r7 => ?_
        have rp7 := rp6.ext (y7.mono (S' := [fa]) (by simp))
        refine ⟨_, rfl, _, rfl, _, _, rfl, rfl, at' + 1, rfl, ?_⟩
        dsimp only [tNoPart]
        refine sl_rep rp7 fun v3 H8 y8 r8 => ?_
        rw [cutL_from ds (at' + 1) (by omega), show (at' + 1).toNat = at'.toNat + 1 by omega] at r8
        refine cat_rep (r7.ext (y8.mono (S' := [fa]) (by simp))) r8 (by simp only [List.length_append, List.length_cons, List.length_nil]; omega) fun v4 H9 y9 r9 => ?_
        refine q _ v4 n' H9 r9 ?_ ?_ ?_ (by omega) (by omega) (((f6.ext y7 (by simp) (by simp)).ext y8 (by simp) (by simp)).ext y9 (by simp) (by simp)) ?_
        · simp only [Gd]
          exact gdl_append (gdl_append (gdl_mono (by omega) _ (gdl_take hgl _)) (by simp only [GdL]; exact ⟨g5, trivial⟩)) (gdl_mono (by omega) _ (gdl_drop hgl _))
        · have e1 : (PyData.tuple ds).weight = PyData.weightAll ds := by simp only [PyData.weight]
          have e2 : (PyData.tuple (ds.take at'.toNat ++ [d'] ++ ds.drop (at'.toNat + 1))).weight = PyData.weightAll (ds.take at'.toNat) + (d'.weight + 1) + PyData.weightAll (ds.drop (at'.toNat + 1)) := by simp only [PyData.weight, wA_append, PyData.weightAll, Nat.add_zero]
          rw [e1, e2]
          omega
        · have e2 : (PyData.tuple (ds.take at'.toNat ++ [d'] ++ ds.drop (at'.toNat + 1))).depth = max (max (PyData.depthAll (ds.take at'.toNat)) (max d'.depth 0)) (PyData.depthAll (ds.drop (at'.toNat + 1))) + 1 := by simp only [PyData.depth, dA_append, PyData.depthAll]
          rw [e2]
          omega
        · exact ((((x03.trans (y4.mono (by simp))).trans x5).trans (y6.mono (by simp))).trans (y7.mono (by simp))).trans ((y8.trans y9).mono (by simp))
      | _ => exact iteF (iteF ⟨n, rfl, rp, fe, by omega, by omega, .refl _ _⟩)
    rintro σ1 H1 ⟨n1, rfl, rp1, f1, a1, a2, x1⟩
    have hn4 : (0 : Int) ≤ d.depth := Int.natCast_nonneg _
    refine ⟨_, rfl, fa, sa, n1, 7, rfl, f1, by decide, by decide, by omega, fun way H2 w0 w1 f2 x2 => ?_⟩
    have rp2 := rp1.ext x2
    have x02 : Ext [fa] H H2 := x1.trans x2
    refine ⟨fun σ' H' => σ' = [some (.ref fa), some v, none, some (.int way), none] ∧ H' = H2 ∧ ¬ (∃ ds, d = .tuple ds ∧ way < 5), ?_, ?_⟩
    · refine ⟨v, rfl, v, _, _, _, rfl, rp2.ty, kit3 d, _, rfl, ?_⟩
      cases d with
      | tuple ds =>
        refine iteT ⟨_, rfl, _, _, rfl, rfl, _, rfl, ite2 (fun hw5 => ?_) (fun hw5 => ⟨rfl, rfl, by rintro ⟨_, _, h⟩; exact hw5 (decide_eq_true h)⟩)⟩
        have hw5 : way < 5 := of_decide_eq_true hw5
        have hwl : PyData.weightAll ds ≤ 50000 := hw
        have hlen := len_wA ds
        have hgl : GdL Bo ds := by simpa only [Gd] using gd
        have hdd : (PyData.tuple ds).depth = PyData.depthAll ds + 1 := by simp only [PyData.depth]
        have hww : (PyData.tuple ds).weight = PyData.weightAll ds := by simp only [PyData.weight]
        rw [hdd] at hdk nm q hd50
        rw [hww] at q
        obtain ⟨a, xs, rfl, ha, rs⟩ := rp2.of_tup
        refine ⟨_, rfl, _, rfl, a, xs, rfl, .inr (SqT.of ha), _, _, rfl, rfl, fa, sa, n1 + 1, _, rfl, f2, by rw [rs.length]; omega, by rw [rs.length]; omega, by omega, fun at' H3 c0 c1 f3 x3 => ?_⟩
        rw [rs.length] at c1
        have rp3 := rp2.ext x3
        have ha3 := x3.tup _ _ ha
        have rs3 := rs.ext x3
        have hat : at'.toNat ≤ ds.length := by omega
        have e1 : (at' + 1).toNat = at'.toNat + 1 := by omega
        refine ⟨_, rfl, a, xs, rfl, .inr (SqT.of ha3), fun l hl => ?_⟩
        have y4 : Ext [] H3 (upd H3 l (.lst xs)) := .new hl
        have r0 : Rep [fa] (upd H3 l (.lst xs)) (.list ds) (.ref l) := .lst upd_same (by simpa using (f3.has hl).1) (rs3.ext (y4.mono (by simp)))
        have f4 := f3.ext y4 (by simp) (by simp)
        have rp4 := rp3.ext (y4.mono (S' := [fa]) (by simp))
        generalize upd H3 l (.lst xs) = H4 at y4 r0 f4 rp4 ⊢
        refine ⟨_, rfl, _, rfl, at', rfl, sl_rep rp4 fun v1 H5 y5 r5 => ?_⟩
        have rp5 := rp4.ext (y5.mono (S' := [fa]) (by simp))
        refine ⟨_, rfl, _, rfl, _, _, rfl, rfl, at' + 1, rfl, ?_⟩
        dsimp only [tNoPart]
        refine sl_rep rp5 fun v2 H6 y6 r6 => ?_
        have rp6 := rp5.ext (y6.mono (S' := [fa]) (by simp))
        rw [cutL_to ds at' c0] at r5
        rw [cutL_from ds (at' + 1) (by omega), e1] at r6
        have hl1 : (ds.take at'.toNat).length ≤ ds.length := by rw [List.length_take]; omega
        have hl2 : (ds.drop (at'.toNat + 1)).length ≤ ds.length := by rw [List.length_drop]; omega
        have hl3 : (ds.take (at'.toNat + 1)).length ≤ ds.length := by rw [List.length_take]; omega
        have hl4 : (ds.drop at'.toNat).length ≤ ds.length := by rw [List.length_drop]; omega
        refine cat_rep (r5.ext (y6.mono (S' := [fa]) (by simp))) r6 (by omega) fun v3 H7 y7 r7 => ?_
        have rp7 := rp6.ext (y7.mono (S' := [fa]) (by simp))
        refine ⟨_, rfl, _, rfl, _, _, rfl, rfl, at' + 1, rfl, sl_rep rp7 fun v4 H8 y8 r8 => ?_⟩
        have rp8 := rp7.ext (y8.mono (S' := [fa]) (by simp))
        refine ⟨_, rfl, _, rfl, at', rfl, ?_⟩
        dsimp only [tNoPart]
        refine sl_rep rp8 fun v5 H9 y9 r9 => ?_
        have rp9 := rp8.ext (y9.mono (S' := [fa]) (by simp))
        rw [cutL_to ds (at' + 1) (by omega), e1] at r8
        rw [cutL_from ds at' c0] at r9
        refine cat_rep (r8.ext (y9.mono (S' := [fa]) (by simp))) r9 (by omega) fun v6 H10 y10 r10 => ?_
        have rp10 := rp9.ext (y10.mono (S' := [fa]) (by simp))
        have y4A : Ext [] H4 H10 := ((((y5.trans y6).trans y7).trans y8).trans y9).trans y10
        have y3A : Ext [] H3 H10 := y4.trans y4A
        refine ⟨_, rfl, a, xs, rfl, SqT.of (y3A.tup _ _ ha3), fun p hp => ⟨by show 4 ≤ sizeLine; decide, fun s' hs' => ?_⟩⟩
        have y11 : Ext [] H10 (upd H10 p (.tup xs.reverse)) := .new hp
        have r11 : Rep [fa] (upd H10 p (.tup xs.reverse)) (.tuple ds.reverse) (.ref p) := .tup upd_same ((rs3.ext (y3A.mono (by simp))).ext (y11.mono (by simp))).reverse
        generalize upd H10 p (.tup xs.reverse) = H11 at y11 r11 hs' ⊢
        have y12 : Ext [] H11 (upd H11 s' (.lst [.ref l, v3, v6, .ref p])) := .new hs'
        have y10A : Ext [] H10 (upd H11 s' (.lst [.ref l, v3, v6, .ref p])) := y11.trans y12
        have y7A : Ext [] H7 (upd H11 s' (.lst [.ref l, v3, v6, .ref p])) := ((y8.trans y9).trans y10).trans y10A
        have rl : Reps [fa] (upd H11 s' (.lst [.ref l, v3, v6, .ref p])) [.list ds, .tuple (ds.take at'.toNat ++ ds.drop (at'.toNat + 1)), .tuple (ds.take (at'.toNat + 1) ++ ds.drop at'.toNat), .tuple ds.reverse] [.ref l, v3, v6, .ref p] :=
          .cons (r0.ext ((y4A.trans y10A).mono (by simp))) (.cons (r7.ext (y7A.mono (by simp))) (.cons (r10.ext (y10A.mono (by simp))) (.cons (r11.ext (y12.mono (by simp))) .nil)))
        have f12 := (f4.ext (y4A.trans y10A) (by simp) (by simp))
        have rp12 := rp10.ext (y10A.mono (S' := [fa]) (by simp))
        have hs12 : (upd H11 s' (.lst [.ref l, v3, v6, .ref p])) s' = some (.lst [.ref l, v3, v6, .ref p]) := upd_same
        have hsf : s' ∉ [fa] := by simpa using ((f4.ext (y4A.trans y11) (by simp) (by simp)).has hs').1
        have x12 : Ext [fa] H (upd H11 s' (.lst [.ref l, v3, v6, .ref p])) := (x02.trans x3).trans ((y3A.trans y10A).mono (by simp))
        generalize upd H11 s' (.lst [.ref l, v3, v6, .ref p]) = H12 at rl f12 rp12 hs12 x12 ⊢
        refine ⟨_, rfl, _, rfl, _, rfl, fa, sa, n1 + 1 + 1, rfl, f12, by omega, fun d5 v7 H13 r13 g13 w13 dp13 f13 x13 => ⟨by show 1 ≤ sizeLine; decide, fun t ht => ?_⟩⟩
        have y14 : Ext [] H13 (upd H13 t (.tup [v7])) := .new ht
        have rt : Rep [fa] (upd H13 t (.tup [v7])) (.tuple [d5]) (.ref t) := .tup upd_same (.cons (r13.ext (y14.mono (by simp))) .nil)
        generalize upd H13 t (.tup [v7]) = H14 at y14 rt ⊢
        refine cat_rep ((rp12.ext x13).ext (y14.mono (S' := [fa]) (by simp))) rt (by simp only [List.length_cons, List.length_nil]; omega) fun v8 H15 y15 r15 => ⟨by show 1 ≤ sizeLine; decide, fun t2 ht2 => ?_⟩
        have y16 : Ext [] H15 (upd H15 t2 (.lst [v8])) := .new ht2
        have a16 : (upd H15 t2 (.lst [v8])) t2 = some (.lst [v8]) := upd_same
        generalize upd H15 t2 (.lst [v8]) = H16 at y16 a16 ⊢
        have x16 : Ext [fa] H12 H16 := x13.trans (((y14.trans y15).trans y16).mono (by simp))
        refine ⟨s', t2, _, _, rfl, rfl, x16.keep _ _ hsf hs12, a16, by show 5 ≤ sizeLine; decide, fun p2 hp2 => ?_⟩
        have y17 : Ext [] H16 (upd H16 p2 (.lst ([.ref l, v3, v6, .ref p] ++ [v8]))) := .new hp2
        have a17 : (upd H16 p2 (.lst ([.ref l, v3, v6, .ref p] ++ [v8]))) p2 = some (.lst ([.ref l, v3, v6, .ref p] ++ [v8])) := upd_same
        generalize upd H16 p2 (.lst ([.ref l, v3, v6, .ref p] ++ [v8])) = H17 at y17 a17 ⊢
        have x17 : Ext [fa] H12 H17 := x16.trans (y17.mono (by simp))
        have f17 := f13.ext (((y14.trans y15).trans y16).trans y17) (by simp) (by simp)
        have rl17 := (rl.ext x17).append (Reps.cons (r15.ext ((y16.trans y17).mono (S' := [fa]) (by simp))) .nil)
        obtain ⟨x, k1, k2⟩ := atI_ex (xs := [.ref l, v3, v6, .ref p] ++ [v8]) w0 (by show way < 5; exact hw5)
        obtain ⟨dd, hdd2, rdd⟩ := rl17.get k2
        refine ⟨_, rfl, p2, _, way, x, rfl, rfl, SqL.of a17, k1, ?_⟩
        have hok : Gd (Bo + 1) dd ∧ dd.weight ≤ 2 * PyData.weightAll ds + 400 ∧ dd.depth ≤ PyData.depthAll ds + 1 + 1 := by
          have gl := gdl_mono (show Bo ≤ Bo + 1 by omega) _ hgl
          have wa := wA_split ds at'.toNat
          have wb := wA_split ds (at'.toNat + 1)
          have da := dA_split ds at'.toNat
          have db := dA_split ds (at'.toNat + 1)
          have hm := List.mem_of_getElem? hdd2
          simp only [List.cons_append, List.nil_append, List.mem_cons, List.not_mem_nil, or_false] at hm
          rcases hm with rfl | rfl | rfl | rfl | rfl
          · exact ⟨by simp only [Gd]; exact gl, by simp only [PyData.weight]; omega, by simp only [PyData.depth]; omega⟩
          · exact ⟨by simp only [Gd]; exact gdl_append (gdl_take gl _) (gdl_drop gl _), by simp only [PyData.weight, wA_append]; omega, by simp only [PyData.depth, dA_append]; omega⟩
          · exact ⟨by simp only [Gd]; exact gdl_append (gdl_take gl _) (gdl_drop gl _), by simp only [PyData.weight, wA_append]; omega, by simp only [PyData.depth, dA_append]; omega⟩
          · exact ⟨by simp only [Gd]; exact gdl_iff.mpr fun d hd => gdl_iff.mp gl d (List.mem_reverse.mp hd), by simp only [PyData.weight, wA_rev]; omega, by simp only [PyData.depth, dA_rev]; omega⟩
          · exact ⟨by simp only [Gd]; exact gdl_append gl (by simp only [GdL]; exact ⟨gd_mono (by omega) _ g13, trivial⟩), by simp only [PyData.weight, wA_append, PyData.weightAll]; omega, by simp only [PyData.depth, dA_append, PyData.depthAll]; omega⟩
        exact q dd x (n1 + 1 + 1 + 1) H17 rdd hok.1 hok.2.1 hok.2.2 (by omega) (by omega) f17 (x12.trans x17)
      | _ => exact iteF (iteF ⟨rfl, rfl, by rintro ⟨_, h, _⟩; cases h⟩)
    rintro σ2 H3 ⟨rfl, rfl, hno⟩
    have last : ∀ H', Feed H' fa sa (n1 + 1) → Ext [fa] H H' → (tRet (tCallD spOdd (tCons (tVar 0) tNil))) { nx := fun x H' => Q V.non H', rt := Q } [some (V.ref fa), some v, none, some (V.int way), none] H' := by
      intro H' f' x'
      exact ⟨_, rfl, fa, sa, n1 + 1, rfl, f', by omega, fun d5 v7 H13 r13 g13 w13 dp13 f13 x13 => q d5 v7 (n1 + 1 + 1) H13 r13 (gd_mono (by omega) _ g13) (by omega) (by omega) (by omega) (by omega) f13 (x'.trans x13)⟩
    refine ⟨fun σ' H' => σ' = [some (.ref fa), some v, none, some (.int way), none] ∧ H' = H3, ?_, ?_⟩
    · refine ⟨v, rfl, v, _, _, _, rfl, rp2.ty, kit1 d, _, rfl, ?_⟩
      cases d with
      | int i =>
        refine iteT ⟨_, rfl, _, _, _, _, rfl, rp2.ty, kit2 (.int i), _, rfl, iteT ⟨_, rfl, _, _, rfl, rfl, _, rfl, ite2 (fun hw5 => ?_) (fun hw5 => ⟨rfl, rfl⟩)⟩⟩
        have hw5 : way < 5 := of_decide_eq_true hw5
        obtain rfl := rp2.of_int
        have hi : i.natAbs ≤ Bo := by simpa only [Gd] using gd
        have hlt : i.natAbs < 2 ^ 180 := Nat.lt_of_le_of_lt (by omega : i.natAbs ≤ 10 ^ 49) (by decide +kernel)
        have hlog : i.natAbs.log2 < 1920 := by
          by_cases h : i.natAbs = 0
          · rw [h]; decide
          · exact Nat.lt_trans ((Nat.log2_lt h).mpr hlt) (by decide)
        have hst : (Str.ofString (toString i)).length ≤ 60 := by
          have e := int_text_length_le10 (k := 51) (by decide) (Nat.lt_of_le_of_lt (by omega : i.natAbs ≤ 10 ^ 49) (by decide +kernel : (10 : Nat) ^ 49 < 10 ^ 51))
          rw [ofString_length]
          omega
        refine ⟨_, rfl, _, _, rfl, rfl, _, rfl, _, _, rfl, rfl, _, rfl, _, rfl, _, rfl, rfl, _, rfl, _, rfl, hlog, by show 5 ≤ sizeLine; decide, fun l hl => ?_⟩
        have y4 : Ext [] H3 (upd H3 l (.lst [.int (i + 1), .int (i - 1), .int (-i), .bl (decide (V.int i = V.int 1)), .str (Str.ofString (toString i))])) := .new hl
        have rl : Reps [fa] (upd H3 l (.lst [.int (i + 1), .int (i - 1), .int (-i), .bl (decide (V.int i = V.int 1)), .str (Str.ofString (toString i))])) [.int (i + 1), .int (i - 1), .int (-i), .bool (decide (V.int i = V.int 1)), .str (Str.ofString (toString i))] [.int (i + 1), .int (i - 1), .int (-i), .bl (decide (V.int i = V.int 1)), .str (Str.ofString (toString i))] :=
          .cons (.int _) (.cons (.int _) (.cons (.int _) (.cons (.bl _) (.cons (.str _) .nil))))
        obtain ⟨x, k1, k2⟩ := atI_ex (xs := [V.int (i + 1), .int (i - 1), .int (-i), .bl (decide (V.int i = V.int 1)), .str (Str.ofString (toString i))]) w0 (by show way < 5; exact hw5)
        obtain ⟨dd, hdd2, rdd⟩ := rl.get k2
        have hok : Gd (Bo + 1) dd ∧ dd.weight ≤ 400 ∧ dd.depth ≤ 1 := by
          have hm := List.mem_of_getElem? hdd2
          have h200 : (2 : Nat) ^ 180 + 1 ≤ 2 ^ 181 := by decide +kernel
          simp only [List.mem_cons, List.not_mem_nil, or_false] at hm
          rcases hm with rfl | rfl | rfl | rfl | rfl
          · exact ⟨by simp only [Gd]; omega, Nat.le_trans (w_int (k := 181) (by omega)) (by decide), by simp [PyData.depth]⟩
          · exact ⟨by simp only [Gd]; omega, Nat.le_trans (w_int (k := 181) (by omega)) (by decide), by simp [PyData.depth]⟩
          · exact ⟨by simp only [Gd]; omega, Nat.le_trans (w_int (k := 181) (by omega)) (by decide), by simp [PyData.depth]⟩
          · exact ⟨by simp only [Gd], by simp [PyData.weight], by simp [PyData.depth]⟩
          · exact ⟨by simp only [Gd]; exact ⟨ofString_ok _, hst⟩, by simp only [PyData.weight]; exact Nat.le_trans hst (by decide), by simp [PyData.depth]⟩
        exact ⟨_, rfl, l, _, way, x, rfl, rfl, SqL.of upd_same, k1, q dd x (n1 + 1) _ rdd hok.1 (by omega) (by omega) (by omega) (by omega) (f2.ext y4 (by simp) (by simp)) (x02.trans (y4.mono (by simp)))⟩
      | bool b =>
        refine iteT ⟨_, rfl, _, _, _, _, rfl, rp2.ty, kit2 (.bool b), _, rfl, ?_⟩
        exact iteF (iteF ⟨rfl, rfl⟩)
      | _ => exact iteF (iteF ⟨rfl, rfl⟩)
    · rintro _ _ ⟨rfl, rfl⟩
      exact last _ f2 x02
end
end Odj

set_option Elab.async false
set_option linter.all false
set_option maxRecDepth 100000
set_option maxHeartbeats 8000000
namespace Odj
open PySem L2
structure Bt5 (mg : Str → Option Value) : Prop where
  repr : mg "repr" = none
def spLaw (K : PySem.W.Frag) : Sp := fun vs H Q _ => ∃ (a : Addr) (ns : List Int), vs = [.ref a] ∧ SqL K H a (ns.map V.int) ∧ ns.length ≤ 63 ∧ ∀ H', Q (.bl true) H'
/-- webs that can be shown -/
structure WebOk (many : Int) (ts : List PyData) : Prop where
  m0 : 1 ≤ many
  m1 : many ≤ 60
  len : ts.length ≤ 200
  gd : Gd (10 ^ 50) (webD many ts)
  wt : (webD many ts).weight ≤ 10000
  dp : (webD many ts).depth ≤ 10
/-- things that can be shown -/
structure ThOk (d : PyData) : Prop where
  gd : Gd (10 ^ 50) d
  wt : d.weight ≤ 50000
  dp : d.depth ≤ 50
theorem ThOk.len {d : PyData} (t : ThOk d) : lenD d ≤ 100000 := by
  cases d with
  | tuple ds =>
    have := len_wA ds
    have h := t.wt
    simp only [PyData.weight] at h
    simp only [lenD]
    omega
  | _ => simp [lenD]
theorem ties_fine : ∀ {ts : List Tie}, (∀ t ∈ ts, t.1.natAbs ≤ 100 ∧ t.2.1.natAbs ≤ 100 ∧ t.2.2.natAbs ≤ 100) → GdL (10 ^ 50) (ts.map tieD) ∧ PyData.weightAll (ts.map tieD) ≤ 25 * ts.length ∧ PyData.depthAll (ts.map tieD) ≤ 1
  | [], _ => ⟨by simp [GdL], by simp [PyData.weightAll], by simp [PyData.depthAll]⟩
  | t :: ts, h => by
    obtain ⟨h1, h2, h3⟩ := ties_fine (ts := ts) fun t ht => h t (List.mem_cons_of_mem _ ht)
    obtain ⟨k1, k2, k3⟩ := h t (List.mem_cons_self ..)
    have w1 := w_int (i := t.1) (k := 7) (by omega)
    have w2 := w_int (i := t.2.1) (k := 7) (by omega)
    have w3 := w_int (i := t.2.2) (k := 7) (by omega)
    have hb : (100 : Nat) ≤ 10 ^ 50 := by decide +kernel
    refine ⟨?_, ?_, ?_⟩
    · simp only [List.map_cons, GdL, tieD, Gd]
      exact ⟨⟨by omega, by omega, by omega, trivial⟩, h1⟩
    · have e : PyData.weightAll ((t :: ts).map tieD) = (PyData.weight (.int t.1) + 1 + (PyData.weight (.int t.2.1) + 1 + (PyData.weight (.int t.2.2) + 1 + 0))) + 1 + PyData.weightAll (ts.map tieD) := by simp only [List.map_cons, PyData.weightAll, tieD, PyData.weight]
      rw [e, List.length_cons]
      omega
    · simp only [List.map_cons, PyData.depthAll, tieD, PyData.depth]
      omega
theorem big3950 : (10 : Nat) ^ 39 ≤ 10 ^ 50 := by decide +kernel
end Odj

set_option Elab.async false
set_option linter.all false
set_option maxRecDepth 100000
set_option maxHeartbeats 8000000
namespace L2
open PySem
section
variable {S : List Addr} {H : Hp}
theorem Reps.three {x y z : PyData} {vs : List V} (r : Reps S H [x, y, z] vs) : ∃ u v w, vs = [u, v, w] ∧ Rep S H x u ∧ Rep S H y v ∧ Rep S H z w := by
  obtain ⟨u, r1, e1, h1, h2⟩ := r.of_cons
  obtain ⟨v, r2, e2, h3, h4⟩ := h2.of_cons
  obtain ⟨w, r3, e3, h5, h6⟩ := h4.of_cons
  have e4 := h6.of_nil
  subst e1 e2 e3 e4
  exact ⟨u, v, w, rfl, h1, h3, h5⟩
theorem Reps.two {x y : PyData} {vs : List V} (r : Reps S H [x, y] vs) : ∃ u v, vs = [u, v] ∧ Rep S H x u ∧ Rep S H y v := by
  obtain ⟨u, r1, e1, h1, h2⟩ := r.of_cons
  obtain ⟨v, r2, e2, h3, h4⟩ := h2.of_cons
  have e4 := h4.of_nil
  subst e1 e2 e4
  exact ⟨u, v, rfl, h1, h3⟩
end
end L2
namespace L2
open PySem
/-! a new address is no part of data -/
mutual
theorem Rep.more {S : List Addr} {H : Hp} {p : Addr} (hp : H p = none) : ∀ {d : PyData} {v : V}, Rep S H d v → Rep (p :: S) H d v
  | .none, _, h => h
  | .bool _, _, h => h
  | .int _, _, h => h
  | .str _, _, h => h
  | .tuple ds, _, h => by
    unfold Rep at h ⊢
    obtain ⟨a, xs, e, ha, hr⟩ := h
    exact ⟨a, xs, e, ha, Reps.more hp hr⟩
  | .list ds, _, h => by
    unfold Rep at h ⊢
    obtain ⟨a, xs, e, ha, hs, hr⟩ := h
    refine ⟨a, xs, e, ha, fun z => ?_, Reps.more hp hr⟩
    rcases List.mem_cons.mp z with z | z
    · rw [z, hp] at ha; cases ha
    · exact hs z
  | .dict _, _, h => h
theorem Reps.more {S : List Addr} {H : Hp} {p : Addr} (hp : H p = none) : ∀ {ds : List PyData} {vs : List V}, Reps S H ds vs → Reps (p :: S) H ds vs
  | [], _, h => h
  | d :: ds, _, h => by
    unfold Reps at h ⊢
    obtain ⟨y, r, e, h1, h2⟩ := h
    exact ⟨y, r, e, Rep.more hp h1, Reps.more hp h2⟩
end
end L2
namespace Odj
open PySem L2
theorem dec_vint (a b : Int) : decide (V.int a = V.int b) = decide (a = b) := by
  by_cases h : a = b
  · subst h; simp
  · have : ¬ V.int a = V.int b := fun z => h (V.int.inj z)
    simp [h, this]
theorem kit3' {K : PySem.W.Frag} (d : PyData) : PySem.W.kitOne K (.type (tyD d)) (.type "tuple") = some (isTupD d) := by
  cases d <;> rfl
def tieKindD : PyData → Bool
  | .tuple [.int _, .int _, .int _] => true
  | _ => false
def webKindD (mp mt : Int) : PyData → Bool
  | .tuple [.int m, .tuple ts] => decide (1 ≤ m) && (decide (m ≤ mp) && decide ((ts.length : Int) ≤ mt))
  | _ => false
theorem kind_len {ds : List PyData} (h : ds.length ≠ 3) : tieKindD (.tuple ds) = false := by
  match ds, h with
  | [], _ => rfl
  | [_], _ => simp [tieKindD]
  | [_, _], _ => simp [tieKindD]
  | [_, _, _], h => exact absurd rfl h
  | _ :: _ :: _ :: _ :: _, _ => simp [tieKindD]
theorem kind_all (x y z : PyData) : tieKindD (.tuple [x, y, z]) = ([x, y, z].map isIntD).all id := by
  cases x <;> cases y <;> cases z <;> simp [tieKindD, isIntD]
theorem kind_parts {d : PyData} (h : tieKindD d = true) : ∃ a b c, d = .tuple [.int a, .int b, .int c] := by
  unfold tieKindD at h
  split at h
  · exact ⟨_, _, _, rfl⟩
  · cases h
theorem kind_no {m : Int} {d : PyData} (h : tieKindD d = false) : isTieD m d = false := by
  unfold isTieD
  split
  · cases h
  · rfl
theorem wkind_no {d : PyData} (h : webKindD 60 200 d = false) : isWebD d = false := by
  unfold isWebD
  split
  · rename_i m ts
    have h' : (decide (1 ≤ m) && (decide (m ≤ 60) && decide ((ts.length : Int) ≤ 200))) = false := h
    have e : decide ((ts.length : Int) ≤ 200) = decide (ts.length ≤ 200) := by
      by_cases z : ts.length ≤ 200
      · rw [decide_eq_true z, decide_eq_true (by omega)]
      · rw [decide_eq_false z, decide_eq_false (by omega)]
    rw [e, ← Bool.and_assoc] at h'
    rw [h']
    rfl
  · rfl
theorem wkind_parts {d : PyData} (h : webKindD 60 200 d = true) : ∃ m ts, d = .tuple [.int m, .tuple ts] ∧ 1 ≤ m ∧ m ≤ 60 ∧ ts.length ≤ 200 := by
  unfold webKindD at h
  split at h
  · rename_i m ts
    simp only [Bool.and_eq_true, decide_eq_true_eq] at h
    exact ⟨m, ts, rfl, h.1, h.2.1, by omega⟩
  · cases h
theorem wkind_len {mp mt : Int} {ds : List PyData} (h : ds.length ≠ 2) : webKindD mp mt (.tuple ds) = false := by
  match ds, h with
  | [], _ => rfl
  | [_], _ => simp [webKindD]
  | [_, _], h => exact absurd rfl h
  | _ :: _ :: _ :: _, _ => simp [webKindD]
theorem wkind_1 {mp mt : Int} {x y : PyData} (h : isIntD x = false) : webKindD mp mt (.tuple [x, y]) = false := by
  cases x <;> first | rfl | cases h
theorem wkind_2 {mp mt : Int} {x y : PyData} (h : isTupD y = false) : webKindD mp mt (.tuple [x, y]) = false := by
  cases x <;> cases y <;> first | rfl | cases h
def spTieKind : Sp := fun vs H Q _ => ∃ S d v, vs = [v] ∧ Rep S H d v ∧ ∀ H', Ext [] H H' → Q (.bl (tieKindD d)) H'
def spWebKind : Sp := fun vs H Q _ => ∃ S d v mp mt, vs = [v, .int mp, .int mt] ∧ Rep S H d v ∧ Q (.bl (webKindD mp mt d)) H
def spTupOf : Sp := fun vs H Q _ => ∃ S d v n, vs = [v, .int n] ∧ Rep S H d v ∧ Q (.bl (tupOf n d)) H
def spTie : Sp := fun vs H Q _ => ∃ S d v m, vs = [.int m, v] ∧ Rep S H d v ∧ ∀ H', Ext [] H H' → Q (.bl (isTieD m d)) H'
def spIsWeb : Sp := fun vs H Q _ => ∃ S d v, vs = [v] ∧ Rep S H d v ∧ ∀ H', Ext [] H H' → Q (.bl (isWebD d)) H'
structure Bt6 (mg : Str → Option Value) : Prop where
  all : mg "all" = none
structure Gi (mg : Str → Option Value) : Prop where
  MOST_PLACES : ∃ t, mg "MOST_PLACES" = some (.int 60 t)
  MOST_TIES : ∃ t, mg "MOST_TIES" = some (.int 200 t)
section
variable {P : Program} {w : World} {K : PySem.W.Frag} {mg : Str → Option Value} {base : Heap} {f : Addr} {fd : FuncData}
theorem d_is_tuple_of (F : Fun K "is_tuple_of" "is_tuple_of" (top 2) f fd) (hm : mg "is_tuple_of" = some (.ref f)) (B : Bt mg) : DefOk P w K mg base 1 "is_tuple_of" ["thing", "count"] spTupOf := by
  refine ⟨f, fd, ?_, hm, F.kp, F.binds fun _ _ _ _ _ _ us hl => match us, hl with | [_, _], _ => rfl⟩
  have sc : FnScope ["thing", "count"] ["thing", "count"] (defScope (top 2)) := ⟨rfl, rfl, rfl, by decide +kernel, rfl, by decide +kernel, by decide +kernel⟩
  refine F.okQ sc (fun vs H Q E h => ?_) (fun cdv A outer s H vs Q E hr h => ?_)
  · obtain ⟨S, d, v, n, rfl, _⟩ := h
    rfl
  · obtain ⟨S, d, v, n, rfl, rp, q⟩ := h
    refine ⟨_, (qss_one (qs_ret (qe_and (qe_callB (isiK K) (by rfl) B.isinstance (by decide +kernel) (qa_c (qv 0) (qa_c (qe_ty "tuple" (by rfl) B.tuple (by decide +kernel)) qa_nil))) (qe_one (qe_cmpR op_eq (qe_callB (lenK K) (by rfl) B.len (by decide +kernel) (qa_c (qv 0) qa_nil)) (qv 1) (nomark _)))))), ?_⟩
    refine ⟨v, rfl, v, _, _, _, rfl, rp.ty, kit3 d, _, rfl, ?_⟩
    cases d with
    | tuple ds =>
      obtain ⟨a, xs, rfl, ha, r⟩ := rp.of_tup
      refine iteT ⟨_, rfl, a, xs, rfl, .inr (SqT.of ha), _, rfl, rfl, ?_⟩
      rw [dec_vint, r.length]
      exact q
    | _ => exact iteF q
theorem d_is_tie_kind (F : Fun K "is_tie_kind" "is_tie_kind" (top 6) f fd) (hm : mg "is_tie_kind" = some (.ref f)) (B6 : Bt6 mg) (D_is_whole : DefOk P w K mg base 1 "is_whole" ["thing"] spIsWhole) (D_is_tuple_of : DefOk P w K mg base 1 "is_tuple_of" ["thing", "count"] spTupOf) : DefOk P w K mg base 2 "is_tie_kind" ["thing"] spTieKind := by
  refine ⟨f, fd, ?_, hm, F.kp, F.binds fun _ _ _ _ _ _ us hl => match us, hl with | [_], _ => rfl⟩
  have sc : FnScope ["thing"] ["thing"] (defScope (top 6)) := ⟨rfl, rfl, rfl, by decide +kernel, rfl, by decide +kernel, by decide +kernel⟩
  refine F.okQ sc (fun vs H Q E h => ?_) (fun cdv A outer s H vs Q E hr h => ?_)
  · obtain ⟨S, d, v, rfl, _⟩ := h
    rfl
  · obtain ⟨S, d, v, rfl, rp, q⟩ := h
    have hsz : sizeLine = 16777216 := by decide
    refine ⟨_, (qss_one (qs_ret (qe_and (qe_callD D_is_tuple_of (hr.mono (by decide)) (qa_c (qv 0) (qa_c qe_int qa_nil))) (qe_one (qe_callB (call_allL K rfl) (by rfl) B6.all (by decide +kernel) (qa_c (qe_comp (N := ["part"]) (mp := [none]) rfl (qi_tupK K (qv 0)) rfl (by show compOk ["thing"] (defScope (top 6)) _ _ _ = true; decide +kernel) fun _ _ _ _ _ => ⟨(qg_name (i := 0) (by show List.Nodup [("part" : Str)]; decide +kernel) rfl (Or.inl rfl)), qk_nil, (qe_callD D_is_whole (hr.mono (by decide)) (qa_c (qv 0) qa_nil))⟩) qa_nil)))))), ?_⟩
    refine ⟨v, rfl, S, d, v, 3, rfl, rp, _, rfl, ?_⟩
    cases d with
    | tuple ds =>
      obtain ⟨a, xs, rfl, ha, r⟩ := rp.of_tup
      by_cases hl : ds.length = 3
      · have e0 : tupOf 3 (.tuple ds) = true := by simp [tupOf, hl]
        rw [e0]
        match ds, hl, r, rp, q with
        | [x, y, z], _, r, rp, q =>
          obtain ⟨x', y', z', rfl, rx, ry, rz⟩ := r.three
          refine iteT ⟨_, rfl, a, rfl, ⟨_, SqT.of ha⟩, comp_tup (K := K) (a := a) (xs := [x', y', z']) (fun i ys σ' H' => (∃ y, σ' = [y]) ∧ H' = H ∧ ys = ([x, y, z].take i).map fun d => V.bl (isIntD d)) ⟨⟨none, rfl⟩, rfl, rfl⟩
            (fun i ys σ' H' e => by rw [e.2.1]; exact SqT.of ha) ?_ ?_⟩
          · rintro i u ys σ' H' hu ⟨⟨y0, rfl⟩, rfl, rfl⟩
            obtain ⟨dx, hd, rd⟩ := r.get hu
            have hi : i < 3 := (List.getElem?_eq_some_iff.mp hu).1
            refine ⟨by rw [List.length_map, List.length_take]; omega, truN ⟨_, rfl, S, dx, u, rfl, rd, ⟨_, rfl⟩, rfl, ?_⟩⟩
            rw [List.take_add_one, hd, List.map_append]
            rfl
          · rintro ys σ' H' ⟨⟨y0, rfl⟩, rfl, rfl⟩
            refine ⟨by show 3 ≤ sizeLine; decide, fun D hD => ⟨D, [x, y, z].map isIntD, rfl, SqL.of upd_same, ?_⟩⟩
            rw [kind_all] at q
            exact q _ (.new hD)
      · have e0 : tupOf 3 (.tuple ds) = false := by simp [tupOf]; omega
        have q2 := q H (.refl _ _)
        rw [kind_len hl] at q2
        rw [e0]
        exact iteF q2
    | _ => exact iteF (q H (.refl _ _))
theorem d_is_tie (F : Fun K "is_tie" "is_tie" (top 7) f fd) (hm : mg "is_tie" = some (.ref f)) (D_is_tie_kind : DefOk P w K mg base 2 "is_tie_kind" ["thing"] spTieKind) : DefOk P w K mg base 3 "is_tie" ["many", "thing"] spTie := by
  refine ⟨f, fd, ?_, hm, F.kp, F.binds fun _ _ _ _ _ _ us hl => match us, hl with | [_, _], _ => rfl⟩
  have sc : FnScope ["many", "thing"] ["many", "thing"] (defScope (top 7)) := ⟨rfl, rfl, rfl, by decide +kernel, rfl, by decide +kernel, by decide +kernel⟩
  refine F.okQ sc (fun vs H Q E h => ?_) (fun cdv A outer s H vs Q E hr h => ?_)
  · obtain ⟨S, d, v, m, rfl, _⟩ := h
    rfl
  · obtain ⟨S, d, v, m, rfl, rp, q⟩ := h
    refine ⟨_, (qss_one (qs_ret (qe_and (qe_callD D_is_tie_kind (hr.mono (by decide)) (qa_c (qv 1) qa_nil)) (qe_and (qe_cmpR op_ge (qe_ix (ixT K) (qv 1) qe_int (fun _ _ => rfl)) qe_int (nomark _)) (qe_and (qe_cmpR op_lt (qe_ix (ixT K) (qv 1) qe_int (fun _ _ => rfl)) (qe_ix (ixT K) (qv 1) qe_int (fun _ _ => rfl)) (nomark _)) (qe_one (qe_cmpR op_lt (qe_ix (ixT K) (qv 1) qe_int (fun _ _ => rfl)) (qv 0) (nomark _)))))))), ?_⟩
    refine ⟨_, rfl, S, d, v, rfl, rp, fun H2 x1 => ⟨_, rfl, ?_⟩⟩
    have q2 := q H2 x1
    cases hk : tieKindD d with
    | false =>
      rw [kind_no hk] at q2
      exact iteF q2
    | true =>
      obtain ⟨p, b, c, rfl⟩ := kind_parts hk
      obtain ⟨a, xs, rfl, ha, r⟩ := rp.of_tup
      obtain ⟨x', y', z', rfl, rx, ry, rz⟩ := r.three
      cases rx.of_int
      cases ry.of_int
      cases rz.of_int
      have ha2 := x1.tup _ _ ha
      have e1 : isTieD m (.tuple [.int p, .int b, .int c]) = (decide (0 ≤ p) && (decide (p < b) && decide (b < m))) := by
        show (decide (0 ≤ p) && decide (p < b) && decide (b < m)) = _
        rw [Bool.and_assoc]
      rw [e1] at q2
      refine iteT ⟨_, rfl, a, _, 0, _, rfl, rfl, SqT.of ha2, rfl, _, _, rfl, rfl, _, rfl, ite2 (fun h1 => ?_) (fun h1 => ?_)⟩
      · have h1' : decide (0 ≤ p) = true := h1
        rw [h1', Bool.true_and] at q2
        refine ⟨_, rfl, a, _, 0, _, rfl, rfl, SqT.of ha2, rfl, _, rfl, a, _, 1, _, rfl, rfl, SqT.of ha2, rfl, _, _, rfl, rfl, _, rfl, ite2 (fun h2 => ?_) (fun h2 => ?_)⟩
        · have h2' : decide (p < b) = true := h2
          rw [h2', Bool.true_and] at q2
          exact ⟨_, rfl, a, _, 1, _, rfl, rfl, SqT.of ha2, rfl, _, rfl, _, _, rfl, rfl, q2⟩
        · have h2' : decide (p < b) = false := Bool.not_eq_true _ |>.mp h2
          rw [h2', Bool.false_and] at q2
          exact q2
      · have h1' : decide (0 ≤ p) = false := Bool.not_eq_true _ |>.mp h1
        rw [h1', Bool.false_and] at q2
        exact q2
theorem d_is_web_kind (F : Fun K "is_web_kind" "is_web_kind" (top 8) f fd) (hm : mg "is_web_kind" = some (.ref f)) (B : Bt mg) (D_is_whole : DefOk P w K mg base 1 "is_whole" ["thing"] spIsWhole) (D_is_tuple_of : DefOk P w K mg base 1 "is_tuple_of" ["thing", "count"] spTupOf) : DefOk P w K mg base 2 "is_web_kind" ["thing", "most_places", "most_ties"] spWebKind := by
  refine ⟨f, fd, ?_, hm, F.kp, F.binds fun _ _ _ _ _ _ us hl => match us, hl with | [_, _, _], _ => rfl⟩
  have sc : FnScope ["thing", "most_places", "most_ties"] ["thing", "most_places", "most_ties"] (defScope (top 8)) := ⟨rfl, rfl, rfl, by decide +kernel, rfl, by decide +kernel, by decide +kernel⟩
  refine F.okQ sc (fun vs H Q E h => ?_) (fun cdv A outer s H vs Q E hr h => ?_)
  · obtain ⟨S, d, v, mp, mt, rfl, _⟩ := h
    rfl
  · obtain ⟨S, d, v, mp, mt, rfl, rp, q0⟩ := h
    refine ⟨_, (qss_cons (qs_if (QW.pt (qw_or (qt_not (qt_val (qe_callD D_is_tuple_of (hr.mono (by decide)) (qa_c (qv 0) (qa_c qe_int qa_nil))))) (qw_or (qt_not (qt_val (qe_callD D_is_whole (hr.mono (by decide)) (qa_c (qe_ix (ixT K) (qv 0) qe_int (fun _ _ => rfl)) qa_nil)))) (qw_or1 (qt_not (qt_val (qe_callB (isiK K) (by rfl) B.isinstance (by decide +kernel) (qa_c (qe_ix (ixT K) (qv 0) qe_int (fun _ _ => rfl)) (qa_c (qe_ty "tuple" (by rfl) B.tuple (by decide +kernel)) qa_nil))))))))) (qss_one (qs_ret qe_bl)) qss_nil)
      (qss_one (qs_ret (qe_and (qe_cmpR op_ge (qe_ix (ixT K) (qv 0) qe_int (fun _ _ => rfl)) qe_int (nomark _)) (qe_and (qe_cmpR op_le (qe_ix (ixT K) (qv 0) qe_int (fun _ _ => rfl)) (qv 1) (nomark _)) (qe_one (qe_cmpR op_le (qe_callB (lenK K) (by rfl) B.len (by decide +kernel) (qa_c (qe_ix (ixT K) (qv 0) qe_int (fun _ _ => rfl)) qa_nil)) (qv 2) (nomark _)))))))), ?_⟩
    refine ⟨v, rfl, S, d, v, 2, rfl, rp, _, rfl, ?_⟩
    cases d with
    | tuple ds =>
      obtain ⟨a, xs, rfl, ha, r⟩ := rp.of_tup
      by_cases hl : ds.length = 2
      · have e0 : tupOf 2 (.tuple ds) = true := by simp [tupOf, hl]
        rw [e0]
        match ds, hl, r, rp, q0 with
        | [x, y], _, r, rp, q0 =>
          obtain ⟨x', y', rfl, rx, ry⟩ := r.two
          refine iteF ⟨_, rfl, a, _, 0, _, rfl, rfl, SqT.of ha, rfl, S, x, x', rfl, rx, _, rfl, ?_⟩
          cases hx : isIntD x with
          | false =>
            rw [wkind_1 hx] at q0
            exact iteT q0
          | true =>
            refine iteF ⟨_, rfl, a, _, 1, _, rfl, rfl, SqT.of ha, rfl, y', _, _, _, rfl, ry.ty, kit3' y, _, rfl, ?_⟩
            cases hy : isTupD y with
            | false =>
              rw [wkind_2 hy] at q0
              exact iteT q0
            | true =>
              refine iteF ?_
              cases x with
              | int m =>
                cases y with
                | tuple ts =>
                  cases rx.of_int
                  obtain ⟨t, txs, rfl, ht, rt⟩ := ry.of_tup
                  have tl := rt.length
                  have q2 : Q (.bl (decide (1 ≤ m) && (decide (m ≤ mp) && decide ((ts.length : Int) ≤ mt)))) H := q0
                  rw [← tl] at q2
                  refine ⟨_, rfl, a, _, 0, _, rfl, rfl, SqT.of ha, rfl, _, _, rfl, rfl, _, rfl, ite2 (fun h1 => ?_) (fun h1 => ?_)⟩
                  · have h1' : decide (1 ≤ m) = true := h1
                    rw [h1', Bool.true_and] at q2
                    refine ⟨_, rfl, a, _, 0, _, rfl, rfl, SqT.of ha, rfl, _, rfl, _, _, rfl, rfl, _, rfl, ite2 (fun h2 => ?_) (fun h2 => ?_)⟩
                    · have h2' : decide (m ≤ mp) = true := h2
                      rw [h2', Bool.true_and] at q2
                      exact ⟨_, rfl, a, _, 1, _, rfl, rfl, SqT.of ha, rfl, t, txs, rfl, .inr (SqT.of ht), _, rfl, _, _, rfl, rfl, q2⟩
                    · have h2' : decide (m ≤ mp) = false := Bool.not_eq_true _ |>.mp h2
                      rw [h2', Bool.false_and] at q2
                      exact q2
                  · have h1' : decide (1 ≤ m) = false := Bool.not_eq_true _ |>.mp h1
                    rw [h1', Bool.false_and] at q2
                    exact q2
                | _ => cases hy
              | _ => cases hx
      · have e0 : tupOf 2 (.tuple ds) = false := by simp [tupOf]; omega
        rw [wkind_len hl] at q0
        rw [e0]
        exact iteT q0
    | _ => exact iteT q0
theorem d_is_web (F : Fun K "is_web" "is_web" (top 9) f fd) (hm : mg "is_web" = some (.ref f)) (B6 : Bt6 mg) (M : Gi mg) (D_is_web_kind : DefOk P w K mg base 2 "is_web_kind" ["thing", "most_places", "most_ties"] spWebKind)
    (D_is_tie : DefOk P w K mg base 3 "is_tie" ["many", "thing"] spTie) : DefOk P w K mg base 4 "is_web" ["thing"] spIsWeb := by
  refine ⟨f, fd, ?_, hm, F.kp, F.binds fun _ _ _ _ _ _ us hl => match us, hl with | [_], _ => rfl⟩
  have sc : FnScope ["thing"] ["thing"] (defScope (top 9)) := ⟨rfl, rfl, rfl, by decide +kernel, rfl, by decide +kernel, by decide +kernel⟩
  refine F.okQ sc (fun vs H Q E h => ?_) (fun cdv A outer s H vs Q E hr h => ?_)
  · obtain ⟨S, d, v, rfl, _⟩ := h
    rfl
  · obtain ⟨S, d, v, rfl, rp, q⟩ := h
    have hsz : sizeLine = 16777216 := by decide
    refine ⟨_, (qss_one (qs_ret (qe_and (qe_callD D_is_web_kind (hr.mono (by decide)) (qa_c (qv 0) (qa_c (qe_globI (by rfl) M.MOST_PLACES) (qa_c (qe_globI (by rfl) M.MOST_TIES) qa_nil)))) (qe_one (qe_callB (call_allL K rfl) (by rfl) B6.all (by decide +kernel) (qa_c (qe_comp (N := ["tie", "thing"]) (mp := [none, some 0]) rfl (qi_tupK K (qe_ix (ixT K) (qv 0) qe_int (fun _ _ => rfl))) rfl (by show compOk ["thing"] (defScope (top 9)) _ _ _ = true; decide +kernel) fun _ _ _ _ _ => ⟨(qg_name (i := 0) (by show List.Nodup [("tie" : Str), ("thing" : Str)]; decide +kernel) rfl (Or.inl rfl)), qk_nil, (qe_callD D_is_tie (hr.mono (by decide)) (qa_c (qe_ix (ixT K) (qv 1) qe_int (fun _ _ => rfl)) (qa_c (qv 0) qa_nil)))⟩) qa_nil)))))), ?_⟩
    refine ⟨_, rfl, S, d, v, 60, 200, rfl, rp, _, rfl, ?_⟩
    have q0 := q H (.refl _ _)
    cases hk : webKindD 60 200 d with
    | false =>
      rw [wkind_no hk] at q0
      exact iteF q0
    | true =>
      obtain ⟨m, ts, rfl, h1', h2', h3'⟩ := wkind_parts hk
      obtain ⟨a, t, txs, rfl, ha, ht, rt⟩ := web_of rp
      have tl := rt.length
      refine iteT ⟨_, rfl, a, _, 1, _, rfl, rfl, SqT.of ha, rfl, t, rfl, ⟨_, SqT.of ht⟩, comp_tup (K := K) (a := t) (xs := txs) (fun i ys σ' H' => (∃ y, σ' = [y, some (.ref a)]) ∧ Ext [] H H' ∧ ys = (ts.take i).map fun d => V.bl (isTieD m d)) ⟨⟨none, rfl⟩, .refl _ _, rfl⟩
        (fun i ys σ' H' e => SqT.of (e.2.1.tup _ _ ht)) ?_ ?_⟩
      · rintro i u ys σ' H' hu ⟨⟨y0, rfl⟩, x1, rfl⟩
        obtain ⟨dx, hd, rd⟩ := rt.get hu
        refine ⟨by rw [List.length_map, List.length_take]; omega, truN ⟨_, rfl, a, _, 0, _, rfl, rfl, SqT.of (x1.tup _ _ ha), rfl, _, rfl, S, dx, u, m, rfl, rd.ext (x1.mono (by simp)), fun H2 x2 => ⟨⟨_, rfl⟩, x1.trans x2, ?_⟩⟩⟩
        rw [List.take_add_one, hd, List.map_append]
        rfl
      · rintro ys σ' H' ⟨⟨y0, rfl⟩, x1, rfl⟩
        rw [List.take_of_length_le (by rw [tl]; exact Nat.le_refl _)]
        refine ⟨by rw [List.length_map]; omega, fun D hD => ⟨D, ts.map (isTieD m), rfl, SqL.of (by rw [List.map_map]; exact upd_same), ?_⟩⟩
        have q3 := fun o => q _ (x1.trans (.new (o := o) hD))
        rw [web_yes h1' h2' h3'] at q3
        rw [List.all_map]
        exact q3 _
theorem d_law_is_web (F : Fun K "_law_is_web" "_law_is_web" (top 18) f fd) (hm : mg "_law_is_web" = some (.ref f)) (B : Bt mg) (D_law_whole : DefOk P w K mg base 1 "_law_whole" ["_law_thing", "_law_least", "_law_most"] spWhole) : DefOk P w K mg base 2 "_law_is_web" ["_law_thing"] spIsWeb := by
  refine ⟨f, fd, ?_, hm, F.kp, F.binds fun _ _ _ _ _ _ us hl => match us, hl with | [_], _ => rfl⟩
  have sc : FnScope ["_law_thing", "_law_tie"] ["_law_thing"] (defScope (top 18)) := ⟨rfl, rfl, rfl, by decide +kernel, rfl, by decide +kernel, by decide +kernel⟩
  refine F.okQ sc (fun vs H Q E h => ?_) (fun cdv A outer s H vs Q E hr h => ?_)
  · obtain ⟨S, d, v, rfl, _⟩ := h
    rfl
  · obtain ⟨S, d, v, rfl, rp, q⟩ := h
    refine ⟨_, (qss_cons (qs_if (QW.pt (qw_or (qt_not (qt_val (qe_callB (isiK K) (by rfl) B.isinstance (by decide +kernel) (qa_c (qv 0) (qa_c (qe_ty "tuple" (by rfl) B.tuple (by decide +kernel)) qa_nil))))) (qw_or (qt_cmpR op_ne (qe_callB (lenK K) (by rfl) B.len (by decide +kernel) (qa_c (qv 0) qa_nil)) qe_int (nomark _)) (qw_or1 (qt_not (qt_val (qe_callD D_law_whole (hr.mono (by decide)) (qa_c (qe_ix (ixT K) (qv 0) qe_int (fun _ _ => rfl)) (qa_c qe_int (qa_c qe_int qa_nil)))))))))) (qss_one (qs_ret qe_bl)) qss_nil)
      (qss_cons (qs_if (QW.pt (qw_or (qt_not (qt_val (qe_callB (isiK K) (by rfl) B.isinstance (by decide +kernel) (qa_c (qe_ix (ixT K) (qv 0) qe_int (fun _ _ => rfl)) (qa_c (qe_ty "tuple" (by rfl) B.tuple (by decide +kernel)) qa_nil))))) (qw_or1 (qt_cmpR op_gt (qe_callB (lenK K) (by rfl) B.len (by decide +kernel) (qa_c (qe_ix (ixT K) (qv 0) qe_int (fun _ _ => rfl)) qa_nil)) qe_int (nomark _))))) (qss_one (qs_ret qe_bl)) qss_nil)
      (qss_cons (qs_for PassesOwn.never rfl (qi_tupK K (qe_ix (ixT K) (qv 0) qe_int (fun _ _ => rfl))) (qg_name (i := 1) sc.nd rfl (Or.inl rfl)) (qss_cons (qs_if (QW.pt (qw_or (qt_not (qt_val (qe_callB (isiK K) (by rfl) B.isinstance (by decide +kernel) (qa_c (qv 1) (qa_c (qe_ty "tuple" (by rfl) B.tuple (by decide +kernel)) qa_nil))))) (qw_or (qt_cmpR op_ne (qe_callB (lenK K) (by rfl) B.len (by decide +kernel) (qa_c (qv 1) qa_nil)) qe_int (nomark _)) (qw_or1 (qt_not (qt_val (qe_callD D_law_whole (hr.mono (by decide)) (qa_c (qe_ix (ixT K) (qv 1) qe_int (fun _ _ => rfl)) (qa_c qe_int (qa_c (qe_op op_sub (qe_ix (ixT K) (qv 0) qe_int (fun _ _ => rfl)) qe_int) qa_nil)))))))))) (qss_one (qs_ret qe_bl)) qss_nil)
      (qss_cons (qs_if (qt_not (qt_val (qe_callD D_law_whole (hr.mono (by decide)) (qa_c (qe_ix (ixT K) (qv 1) qe_int (fun _ _ => rfl)) (qa_c (qe_op op_add (qe_ix (ixT K) (qv 1) qe_int (fun _ _ => rfl)) qe_int) (qa_c (qe_op op_sub (qe_ix (ixT K) (qv 0) qe_int (fun _ _ => rfl)) qe_int) qa_nil)))))) (qss_one (qs_ret qe_bl)) qss_nil)
      (qss_one (qs_if (QW.pt (qw_or (qt_not (qt_val (qe_callB (isiK K) (by rfl) B.isinstance (by decide +kernel) (qa_c (qe_ix (ixT K) (qv 1) qe_int (fun _ _ => rfl)) (qa_c (qe_ty "int" (by rfl) B.int (by decide +kernel)) qa_nil))))) (qw_or1 (qt_val (qe_callB (isiK K) (by rfl) B.isinstance (by decide +kernel) (qa_c (qe_ix (ixT K) (qv 1) qe_int (fun _ _ => rfl)) (qa_c (qe_ty "bool" (by rfl) B.bool (by decide +kernel)) qa_nil))))))) (qss_one (qs_ret qe_bl)) qss_nil)))))
      (qss_one (qs_ret qe_bl))))), ?_⟩
    have q0 := q H (.refl _ _)
    refine ⟨v, rfl, v, _, _, _, rfl, rp.ty, kit3' d, _, rfl, ?_⟩
    cases d with
    | tuple ds =>
      obtain ⟨a, xs, rfl, ha, r⟩ := rp.of_tup
      refine iteF ⟨_, rfl, a, xs, rfl, .inr (SqT.of ha), rfl, _, rfl, ite2 (fun hl => ?_) (fun hl => ?_)⟩
      · have hl' : ds.length ≠ 2 := fun z => by
          rw [r.length, z] at hl
          simp at hl
        rw [web_len hl'] at q0
        exact iteT q0
      have hl' : ds.length = 2 := by
        have : V.int (xs.length : Nat) = V.int 2 := by
          by_cases z : V.int (xs.length : Nat) = V.int 2
          · exact z
          · exact absurd (by simp [z]) hl
        have := V.int.inj this
        rw [r.length] at this
        omega
      match ds, hl', r, rp, q0 with
      | [x, y], _, r, rp, q0 =>
        obtain ⟨x', y', rfl, rx, ry⟩ := r.two
        refine ⟨_, rfl, a, _, 0, _, rfl, rfl, SqT.of ha, rfl, S, x, x', 1, 60, rfl, rx, _, rfl, ?_⟩
        cases hx : wholeD 1 60 x with
        | false =>
          have e : isWebD (.tuple [x, y]) = false := by
            cases x with
            | int m =>
              cases y with
              | tuple ts =>
                have : (decide (1 ≤ m) && decide (m ≤ 60)) = false := hx
                show (decide (1 ≤ m) && decide (m ≤ 60) && decide (ts.length ≤ 200) && ts.all (isTieD m)) = false
                rw [this]
                rfl
              | _ => rfl
            | _ => rfl
          rw [e] at q0
          exact iteT q0
        | true =>
          refine iteF ⟨_, rfl, a, _, 1, _, rfl, rfl, SqT.of ha, rfl, y', _, _, _, rfl, ry.ty, kit3' y, _, rfl, ?_⟩
          cases hy : isTupD y with
          | false =>
            rw [web_no2 hy] at q0
            exact iteT q0
          | true =>
            cases x with
            | int m =>
              cases y with
              | tuple ts =>
                cases rx.of_int
                obtain ⟨t, txs, rfl, ht, rt⟩ := ry.of_tup
                have tl := rt.length
                have hx' : (decide (1 ≤ m) && decide (m ≤ 60)) = true := hx
                rw [Bool.and_eq_true] at hx'
                have h1' : 1 ≤ m := of_decide_eq_true hx'.1
                have h2' : m ≤ 60 := of_decide_eq_true hx'.2
                refine iteF ⟨_, rfl, a, _, 1, _, rfl, rfl, SqT.of ha, rfl, t, txs, rfl, .inr (SqT.of ht), _, _, rfl, rfl, _, rfl, ite2 (fun h3 => ?_) (fun h3 => ?_)⟩
                · have : (200 : Int) < (txs.length : Nat) := of_decide_eq_true h3
                  rw [web_no3 (.inr (.inr (by omega)))] at q0
                  exact q0
                have h3' : ts.length ≤ 200 := by
                  have : ¬ (200 : Int) < (txs.length : Nat) := fun z => h3 (decide_eq_true z)
                  omega
                rw [web_yes h1' h2' h3'] at q0
                refine ⟨_, rfl, a, _, 1, _, rfl, rfl, SqT.of ha, rfl, t, rfl, ⟨_, SqT.of ht⟩, for_tup (K := K) (a := t) (xs := txs) (fun i σ H' => H' = H ∧ (∃ y, σ = [some (.ref a), y]) ∧ ts.all (isTieD m) = (ts.drop i).all (isTieD m)) ⟨rfl, ⟨_, rfl⟩, rfl⟩ (fun i σ H' _ e => by rw [e.1]; exact SqT.of ht) ?_ ?_⟩
                · rintro i u σ H' hu ⟨rfl, ⟨y0, rfl⟩, hz⟩
                  obtain ⟨d, hd, rd⟩ := rt.get hu
                  have hlt : i < ts.length := (List.getElem?_eq_some_iff.mp hd).1
                  have hdr : ts.drop i = d :: ts.drop (i + 1) := by
                    rw [List.drop_eq_getElem_cons hlt]
                    congr
                    exact (List.getElem?_eq_some_iff.mp hd).2
                  rw [hdr, List.all_cons] at hz
                  have no : isTieD m d = false → Q (.bl false) H' := fun z => by
                    rw [hz, z, Bool.false_and] at q0
                    exact q0
                  refine ⟨u, rfl, u, _, _, _, rfl, rd.ty, kit3' d, _, rfl, ?_⟩
                  cases d with
                  | tuple es =>
                    obtain ⟨b, ys, rfl, hb, re⟩ := rd.of_tup
                    refine iteF ⟨_, rfl, b, ys, rfl, .inr (SqT.of hb), rfl, _, rfl, ite2 (fun hl => ?_) (fun hl => ?_)⟩
                    · have hl' : es.length ≠ 3 := fun z => by
                        rw [re.length, z] at hl
                        simp at hl
                      exact iteT (no (tie_len hl'))
                    have hl' : es.length = 3 := by
                      have : V.int (ys.length : Nat) = V.int 3 := by
                        by_cases z : V.int (ys.length : Nat) = V.int 3
                        · exact z
                        · exact absurd (by simp [z]) hl
                      have := V.int.inj this
                      rw [re.length] at this
                      omega
                    match es, hl', re, rd, no, hz with
                    | [c1, c2, c3], _, re, rd, no, hz =>
                      obtain ⟨u1, u2, u3, rfl, r1, r2, r3⟩ := re.three
                      refine ⟨_, rfl, b, _, 0, _, rfl, rfl, SqT.of hb, rfl, _, rfl, a, _, 0, _, rfl, rfl, SqT.of ha, rfl, _, _, rfl, rfl, S, c1, u1, 0, m - 2, rfl, r1, _, rfl, ?_⟩
                      cases w1 : wholeD 0 (m - 2) c1 with
                      | false => exact iteT (no (by rw [tie_eq, w1, Bool.false_and]))
                      | true =>
                        cases c1 with
                        | int z1 =>
                          cases r1.of_int
                          refine iteF ⟨_, rfl, b, _, 1, _, rfl, rfl, SqT.of hb, rfl, _, rfl, b, _, 0, _, rfl, rfl, SqT.of hb, rfl, _, _, rfl, rfl, _, rfl, a, _, 0, _, rfl, rfl, SqT.of ha, rfl, _, _, rfl, rfl, S, c2, u2, z1 + 1, m - 1, rfl, r2, _, rfl, ?_⟩
                          cases w2 : wholeD (z1 + 1) (m - 1) c2 with
                          | false => exact iteT (no (by rw [tie_eq, show intOf (.int z1) = z1 from rfl, w2, Bool.false_and, Bool.and_false]))
                          | true =>
                            refine iteF ⟨_, rfl, b, _, 2, _, rfl, rfl, SqT.of hb, rfl, u3, _, _, _, rfl, r3.ty, kit1 c3, _, rfl, ?_⟩
                            have e3 : isTieD m (.tuple [.int z1, c2, c3]) = isIntD c3 := by rw [tie_eq, show intOf (.int z1) = z1 from rfl, w1, w2, Bool.true_and, Bool.true_and]
                            cases c3 with
                            | int z3 =>
                              refine iteF ⟨_, rfl, b, _, 2, _, rfl, rfl, SqT.of hb, rfl, u3, _, _, _, rfl, r3.ty, kit2 (.int z3), _, rfl, iteF ⟨rfl, ⟨_, rfl⟩, ?_⟩⟩
                              rw [hz, e3]
                              rfl
                            | bool z3 => exact iteF ⟨_, rfl, b, _, 2, _, rfl, rfl, SqT.of hb, rfl, u3, _, _, _, rfl, r3.ty, kit2 (.bool z3), _, rfl, iteT (no e3)⟩
                            | _ => exact iteT (no e3)
                        | _ => cases w1
                  | _ => exact iteT (no rfl)
                · rintro σ H' ⟨rfl, ⟨y0, rfl⟩, hz⟩
                  rw [hz, List.drop_of_length_le (by rw [tl]; exact Nat.le_refl _)] at q0
                  exact q0
              | _ => cases hy
            | _ => cases hx
    | _ => exact iteT q0
end
end Odj

set_option Elab.async false
set_option linter.all false
set_option maxRecDepth 100000
set_option maxHeartbeats 8000000
namespace L2
open PySem
theorem keepS {S : List Addr} {H H' : Hp} (x : Ext [] H H') (hS : ∀ b ∈ S, H b ≠ none) : ∀ b ∈ S, H' b ≠ none := fun b hb => by
  cases e : H b with
  | none => exact absurd e (hS b hb)
  | some o => rw [x.keep b o (by simp) e]; simp
/-- a list with another one behind -/
theorem catL {S : List Addr} {H : Hp} {l : Addr} {xs : List V} {D ds : List PyData} {v : V} {Q : VK} (hl : H l = some (.lst xs)) (rD : Reps S H D xs) (r2 : Rep S H (.list ds) v) (hz : D.length + ds.length ≤ sizeLine) (hS : ∀ b ∈ S, H b ≠ none)
    (k : ∀ p ys H', Ext [] H H' → H' p = some (.lst ys) → p ∉ S → Reps S H' (D ++ ds) ys → H p = none → Q (.ref p) H') : rCat (.ref l) v H Q := by
  obtain ⟨b, zs, rfl, hb, _, rz⟩ := r2.of_lst
  exact ⟨l, b, xs, zs, rfl, rfl, hl, hb, by rw [rD.length, rz.length]; exact hz, fun p hp => k p _ _ (.new hp) upd_same (fun z => hS p z hp) ((rD.append rz).ext (.new hp)) hp⟩
end L2
namespace Odj
open PySem L2
def hand : List PyData := hand0 ++ hand1 ++ hand2 ++ hand3 ++ hand4
def spHand : Sp := fun vs H Q _ => vs = [] ∧ ∃ S, (∀ b ∈ S, H b ≠ none) ∧ ∀ l xs H', Ext [] H H' → H' l = some (.lst xs) → l ∉ S → Reps S H' hand xs → Q (.ref l) H'
section
variable {P : Program} {w : World} {K : PySem.W.Frag} {mg : Str → Option Value} {base : Heap} {f : Addr} {fd : FuncData}
theorem d_by_hand (F : Fun K "_law_by_hand" "_law_by_hand" (top 19) f fd) (hm : mg "_law_by_hand" = some (.ref f)) : DefOk P w K mg base 1 "_law_by_hand" [] spHand := by
  refine ⟨f, fd, ?_, hm, F.kp, F.binds fun _ _ _ _ _ _ us hl => match us, hl with | [], _ => rfl⟩
  have sc : FnScope ["_law_some"] [] (defScope (top 19)) := ⟨rfl, rfl, rfl, by decide +kernel, rfl, by decide +kernel, by decide +kernel⟩
  refine F.okQ sc (fun vs H Q E h => ?_) (fun cdv A outer s H vs Q E hr h => ?_)
  · obtain ⟨rfl, _⟩ := h
    rfl
  · obtain ⟨rfl, S, hS, q⟩ := h
    refine ⟨_, (qss_cons (qs_set (i := 0) sc.nd rfl (Or.inl rfl) (show QE _ _ (tDat [] [] _) from (qd_lst (qds_c (qd_tup (qds_c qd_int (qds_c (qd_repT K (qd_tup (qds_c (qd_tup (qds_c qd_int (qds_c qd_int (qds_c qd_int qds_nil)))) qds_nil))) qds_nil))) (qds_c (qd_tup (qds_c qd_int (qds_c (qd_repT K (qd_tup (qds_c (qd_tup (qds_c qd_int (qds_c qd_int (qds_c qd_int qds_nil)))) qds_nil))) qds_nil))) (qds_c (qd_tup (qds_c qd_int (qds_c (qd_tup qds_nil) qds_nil))) (qds_c (qd_tup (qds_c qd_int (qds_c (qd_tup qds_nil) qds_nil))) (qds_c (qd_tup (qds_c qd_int (qds_c (qd_tup qds_nil) qds_nil))) (qds_c (qd_tup (qds_c qd_int (qds_c (qd_tup qds_nil) qds_nil))) (qds_c (qd_tup (qds_c (qd_neg qd_int) (qds_c (qd_tup qds_nil) qds_nil))) qds_nil))))))))))
      (qss_cons (qs_set (i := 0) sc.nd rfl (Or.inl rfl) (qe_op op_cat (qv 0) (show QE _ _ (tDat [] [] _) from (qd_lst (qds_c (qd_tup (qds_c qd_int (qds_c (qd_tup (qds_c (qd_tup (qds_c qd_int (qds_c qd_int (qds_c qd_int qds_nil)))) qds_nil)) qds_nil))) (qds_c (qd_tup (qds_c qd_int (qds_c (qd_tup (qds_c (qd_tup (qds_c qd_int (qds_c qd_int (qds_c (qd_neg (qd_pow qd_int qd_int ⟨by decide, by decide, by decide⟩)) qds_nil)))) qds_nil)) qds_nil))) (qds_c (qd_tup (qds_c qd_int (qds_c (qd_tup (qds_c (qd_tup (qds_c qd_int (qds_c qd_int (qds_c qd_int qds_nil)))) qds_nil)) qds_nil))) (qds_c (qd_tup (qds_c qd_int (qds_c (qd_tup (qds_c (qd_tup (qds_c qd_int (qds_c qd_int (qds_c qd_int qds_nil)))) qds_nil)) qds_nil))) (qds_c (qd_tup (qds_c qd_int (qds_c (qd_tup (qds_c (qd_tup (qds_c qd_int (qds_c qd_int qds_nil))) qds_nil)) qds_nil))) qds_nil)))))))))
      (qss_cons (qs_set (i := 0) sc.nd rfl (Or.inl rfl) (qe_op op_cat (qv 0) (show QE _ _ (tDat [] [] _) from (qd_lst (qds_c (qd_tup (qds_c qd_int (qds_c (qd_tup (qds_c (qd_tup (qds_c qd_int (qds_c qd_int (qds_c qd_int (qds_c qd_int qds_nil))))) qds_nil)) qds_nil))) (qds_c (qd_tup (qds_c qd_bl (qds_c (qd_tup qds_nil) qds_nil))) (qds_c (qd_tup (qds_c qd_int (qds_c (qd_tup (qds_c (qd_tup (qds_c qd_bl (qds_c qd_int (qds_c qd_int qds_nil)))) qds_nil)) qds_nil))) (qds_c (qd_tup (qds_c qd_int (qds_c (qd_tup (qds_c (qd_tup (qds_c qd_int (qds_c qd_bl (qds_c qd_int qds_nil)))) qds_nil)) qds_nil))) (qds_c (qd_tup (qds_c qd_int (qds_c (qd_tup (qds_c (qd_tup (qds_c qd_int (qds_c qd_int (qds_c qd_bl qds_nil)))) qds_nil)) qds_nil))) qds_nil)))))))))
      (qss_cons (qs_set (i := 0) sc.nd rfl (Or.inl rfl) (qe_op op_cat (qv 0) (show QE _ _ (tDat [] [] _) from (qd_lst (qds_c (qd_tup (qds_c qd_int (qds_c (qd_lst (qds_c (qd_tup (qds_c qd_int (qds_c qd_int (qds_c qd_int qds_nil)))) qds_nil)) qds_nil))) (qds_c (qd_tup (qds_c qd_int (qds_c (qd_tup (qds_c (qd_lst (qds_c qd_int (qds_c qd_int (qds_c qd_int qds_nil)))) qds_nil)) qds_nil))) (qds_c (qd_tup (qds_c qd_int (qds_c (qd_tup (qds_c (qd_tup (qds_c qd_int (qds_c qd_int (qds_c qd_int qds_nil)))) qds_nil)) (qds_c (qd_tup qds_nil) qds_nil)))) (qds_c (qd_tup (qds_c qd_int (qds_c (qd_tup (qds_c (qd_tup (qds_c (qd_neg qd_int) (qds_c qd_int (qds_c qd_int qds_nil)))) qds_nil)) qds_nil))) (qds_c (qd_tup (qds_c qd_int (qds_c (qd_tup (qds_c (qd_tup (qds_c qd_int (qds_c qd_int (qds_c qd_int qds_nil)))) qds_nil)) qds_nil))) qds_nil)))))))))
      (qss_one (qs_ret (qe_op op_cat (qv 0) (show QE _ _ (tDat [] [] _) from (qd_lst (qds_c qd_non (qds_c (qd_tup qds_nil) (qds_c qd_int (qds_c qd_str (qds_c (qd_tup (qds_c qd_int qds_nil)) (qds_c (qd_lst (qds_c qd_int (qds_c (qd_tup qds_nil) qds_nil))) (qds_c (qd_tup (qds_c qd_int (qds_c qd_non qds_nil))) (qds_c (qd_tup (qds_c qd_str (qds_c (qd_tup qds_nil) qds_nil))) (qds_c (qd_tup (qds_c qd_int (qds_c (qd_tup (qds_c (qd_tup (qds_c qd_int (qds_c qd_int (qds_c qd_str qds_nil)))) qds_nil)) qds_nil))) (qds_c (qd_tup (qds_c qd_int (qds_c (qd_tup (qds_c (qd_tup (qds_c qd_int (qds_c qd_int (qds_c qd_non qds_nil)))) qds_nil)) qds_nil))) qds_nil))))))))))))))))))), ?_⟩
    refine ⟨S, fun _ => .none, fun _ => 0, ⟨hS, by simp, by simp⟩, fun v H1 x1 r1 => ?_⟩
    obtain ⟨l1, xs1, rfl, a1, n1, s1⟩ := r1.of_lst
    have hS1 := keepS x1 hS
    refine ⟨_, rfl, S, fun _ => .none, fun _ => 0, ⟨hS1, by simp, by simp⟩, fun v H2 x2 r2 => catL (x2.keep _ _ (by simp) a1) (s1.ext (x2.mono (by simp))) r2 (by decide) (keepS x2 hS1) fun l2 xs2 H3 x3 a3 n3 s3 _ => ?_⟩
    have hS3 := keepS (x2.trans x3) hS1
    refine ⟨_, rfl, S, fun _ => .none, fun _ => 0, ⟨hS3, by simp, by simp⟩, fun v H4 x4 r4 => catL (x4.keep _ _ (by simp) a3) (s3.ext (x4.mono (by simp))) r4 (by decide) (keepS x4 hS3) fun l3 xs3 H5 x5 a5 n5 s5 _ => ?_⟩
    have hS5 := keepS (x4.trans x5) hS3
    refine ⟨_, rfl, S, fun _ => .none, fun _ => 0, ⟨hS5, by simp, by simp⟩, fun v H6 x6 r6 => catL (x6.keep _ _ (by simp) a5) (s5.ext (x6.mono (by simp))) r6 (by decide) (keepS x6 hS5) fun l4 xs4 H7 x7 a7 n7 s7 _ => ?_⟩
    have hS7 := keepS (x6.trans x7) hS5
    refine ⟨_, rfl, S, fun _ => .none, fun _ => 0, ⟨hS7, by simp, by simp⟩, fun v H8 x8 r8 => catL (x8.keep _ _ (by simp) a7) (s7.ext (x8.mono (by simp))) r8 (by decide) (keepS x8 hS7) fun l5 xs5 H9 x9 a9 n9 s9 _ => ?_⟩
    exact q _ _ _ (((((x1.trans (x2.trans x3)).trans (x4.trans x5)).trans (x6.trans x7)).trans (x8.trans x9))) a9 n9 s9
end
def spOtherwise : Sp := fun vs H Q _ => ∃ (fa sa : Addr) (n many : Int) (ts : List Tie) (v : V), vs = [.ref fa, v] ∧ Feed H fa sa n ∧ Rep [fa] H (webD many (ts.map tieD)) v ∧ 1 ≤ many ∧ many ≤ 60 ∧ ts.length ≤ 200 ∧
  (∀ t ∈ ts, t.1.natAbs ≤ 100 ∧ t.2.1.natAbs ≤ 100 ∧ t.2.2.natAbs ≤ 100) ∧ n + 10 ≤ most ∧
  ∀ (d' : PyData) (v' : V) (n' : Int) (H' : Hp), Rep [fa] H' d' v' → ThOk d' → n ≤ n' → n' ≤ n + 3 → Feed H' fa sa n' → Ext [fa] H H' → Q v' H'
theorem Feed.hS {H : Hp} {fa sa : Addr} {n : Int} (f : Feed H fa sa n) : ∀ b ∈ [fa], H b ≠ none := by
  intro b hb
  have : b = fa := by simpa using hb
  subst this
  obtain ⟨ns, i, c, e, _⟩ := f.ex
  rw [e]
  simp
theorem tie_of {S : List Addr} {H : Hp} {t : Tie} {v : V} (h : Rep S H (tieD t) v) : ∃ p, v = .ref p ∧ H p = some (.tup [.int t.1, .int t.2.1, .int t.2.2]) := by
  obtain ⟨p, xs, e, hp, r⟩ := h.of_tup
  obtain ⟨u1, u2, u3, rfl, r1, r2, r3⟩ := r.three
  cases r1.of_int
  cases r2.of_int
  cases r3.of_int
  exact ⟨p, e, hp⟩
/-- what stands at a tie's place, otherwise -/
def others (many a b p : Int) : List PyData := [.tuple [.int b, .int a, .int p], .tuple [.int a, .int a, .int p], .tuple [.int a, .int many, .int p], .tuple [.int (-1), .int b, .int p], .list [.int a, .int b, .int p], .tuple [.int a, .int b], .tuple [.int a, .int b, .int p, .int 0]] ++ [.tuple [.int a, .int b, .bool true], .tuple [.int a, .int b, .int (-p)], .tuple [.int a, .int b, .none]]
theorem others_fine {many a b p : Int} (h0 : many.natAbs ≤ 100) (h1 : a.natAbs ≤ 100) (h2 : b.natAbs ≤ 100) (h3 : p.natAbs ≤ 100) : ∀ d ∈ others many a b p, Gd (10 ^ 50) d ∧ d.weight ≤ 100 ∧ d.depth ≤ 1 := by
  intro d hd
  have hb : (100 : Nat) ≤ 10 ^ 50 := by decide +kernel
  have w0 := w_int (i := many) (k := 7) (by omega)
  have w1 := w_int (i := a) (k := 7) (by omega)
  have w2 := w_int (i := b) (k := 7) (by omega)
  have w3 := w_int (i := p) (k := 7) (by omega)
  have w4 := w_int (i := -p) (k := 7) (by omega)
  have w5 := w_int (i := -1) (k := 7) (by decide)
  have w6 := w_int (i := 0) (k := 7) (by decide)
  unfold others at hd
  simp only [List.cons_append, List.nil_append, List.mem_cons, List.not_mem_nil, or_false] at hd
  have g : ∀ i : Int, i.natAbs ≤ 100 → i.natAbs ≤ 10 ^ 50 := fun i hi => Nat.le_trans hi hb
  have g4 : (-p).natAbs ≤ 10 ^ 50 := g _ (by omega)
  have g5 : (-1 : Int).natAbs ≤ 10 ^ 50 := g _ (by decide)
  have g6 : (0 : Int).natAbs ≤ 10 ^ 50 := g _ (by decide)
  have wb : PyData.weight (.bool true) ≤ 7 := by simp [PyData.weight]
  have wn : PyData.weight .none ≤ 7 := by simp [PyData.weight]
  rcases hd with rfl | rfl | rfl | rfl | rfl | rfl | rfl | rfl | rfl | rfl
  all_goals refine ⟨?_, ?_, ?_⟩
  all_goals first
    | (simp only [Gd, GdL]; exact ⟨by first | exact g _ h0 | exact g _ h1 | exact g _ h2 | exact g5, by first | exact g _ h1 | exact g _ h2 | exact g _ h0, trivial⟩)
    | (simp only [Gd, GdL, and_true, true_and]; refine ⟨?_, ?_, ?_⟩ <;> first | exact g _ h1 | exact g _ h2 | exact g _ h0 | exact g _ h3 | exact g4 | exact g5 | exact g6)
    | (simp only [Gd, GdL, and_true, true_and]; refine ⟨?_, ?_, ?_, ?_⟩ <;> first | exact g _ h1 | exact g _ h2 | exact g _ h0 | exact g _ h3 | exact g4 | exact g5 | exact g6)
    | (simp only [Gd, GdL, and_true, true_and]; refine ⟨?_, ?_⟩ <;> first | exact g _ h1 | exact g _ h2 | exact g _ h0 | exact g _ h3 | exact g4 | exact g5 | exact g6)
    | (simp only [PyData.depth, PyData.depthAll]; omega)
    | (show PyData.weightAll _ ≤ 100; simp only [PyData.weightAll]; omega)
section
variable {P : Program} {w : World} {K : PySem.W.Frag} {mg : Str → Option Value} {base : Heap} {f : Addr} {fd : FuncData}
theorem d_otherwise (F : Fun K "_law_otherwise" "_law_otherwise" (top 21) f fd) (hm : mg "_law_otherwise" = some (.ref f)) (B : Bt mg) (D_law_draw : DefOk P w K mg base 1 "_law_draw" ["_law_feed_here", "_law_many"] spDraw) : DefOk P w K mg base 2 "_law_otherwise" ["_law_feed_here", "_law_web_here"] spOtherwise := by
  refine ⟨f, fd, ?_, hm, F.kp, F.binds fun _ _ _ _ _ _ us hl => match us, hl with | [_, _], _ => rfl⟩
  have sc : FnScope ["_law_feed_here", "_law_web_here", "_law_many", "_law_ties", "_law_at", "_law_a", "_law_b", "_law_price_here", "_law_some"] ["_law_feed_here", "_law_web_here"] (defScope (top 21)) := ⟨rfl, rfl, rfl, by decide +kernel, rfl, by decide +kernel, by decide +kernel⟩
  refine F.okQ sc (fun vs H Q E h => ?_) (fun cdv A outer s H vs Q E hr h => ?_)
  · obtain ⟨fa, sa, n, many, ts, v, rfl, _⟩ := h
    rfl
  · obtain ⟨fa, sa, n, many, ts, v, rfl, fe, rw0, m0, m1, tl, tok, nm, q⟩ := h
    have hsz : sizeLine = 16777216 := by decide
    have hmo : most = 1099511627776 := rfl
    have n0 := fe.lo
    obtain ⟨k1, k2, k3⟩ := ties_fine tok
    have hb : (100 : Nat) ≤ 10 ^ 50 := by decide +kernel
    have wm := w_int (i := many) (k := 7) (by omega)
    refine ⟨_, (qss_cons (qs_asg (qv 1) (qg_tupK (n := 2) K rfl (qgs_cons (qg_name (i := 2) sc.nd rfl (Or.inl rfl)) (qgs_cons (qg_name (i := 3) sc.nd rfl (Or.inl rfl)) qgs_nil))))
      (qss_cons (qs_if (qt_cmpR (op_eqD hr) (qv 3) (show QE _ _ (tDat [] [] _) from (qd_tup qds_nil)) (nomark _)) (qss_one (qs_ret (show QE _ _ (tDat [] [2] _) from (qd_tup (qds_c (qd_ivar 2 (qv 2)) (qds_c (qd_tup (qds_c (qd_tup (qds_c qd_int (qds_c (qd_ivar 2 (qv 2)) (qds_c qd_int qds_nil)))) qds_nil)) qds_nil)))))) qss_nil)
      (qss_cons (qs_set (i := 4) sc.nd rfl (Or.inl rfl) (qe_ix (ixL K) (qe_lst (qa_c (qe_callD D_law_draw (hr.mono (by decide)) (qa_c (qv 0) (qa_c (qe_callB (lenK K) (by rfl) B.len (by decide +kernel) (qa_c (qv 3) qa_nil)) qa_nil))) (qa_c qe_int (qa_c (qe_op op_sub (qe_callB (lenK K) (by rfl) B.len (by decide +kernel) (qa_c (qv 3) qa_nil)) qe_int) qa_nil)))) (qe_callD D_law_draw (hr.mono (by decide)) (qa_c (qv 0) (qa_c qe_int qa_nil))) (fun _ _ => rfl)))
      (qss_cons (qs_asg (qe_ix (ixT K) (qv 3) (qv 4) (fun _ _ => rfl)) (qg_tupK (n := 3) K rfl (qgs_cons (qg_name (i := 5) sc.nd rfl (Or.inl rfl)) (qgs_cons (qg_name (i := 6) sc.nd rfl (Or.inl rfl)) (qgs_cons (qg_name (i := 7) sc.nd rfl (Or.inl rfl)) qgs_nil)))))
      (qss_cons (qs_set (i := 8) sc.nd rfl (Or.inl rfl) (show QE _ _ (tDat [] [2, 5, 6, 7] _) from (qd_lst (qds_c (qd_tup (qds_c (qd_ivar 6 (qv 6)) (qds_c (qd_ivar 5 (qv 5)) (qds_c (qd_ivar 7 (qv 7)) qds_nil)))) (qds_c (qd_tup (qds_c (qd_ivar 5 (qv 5)) (qds_c (qd_ivar 5 (qv 5)) (qds_c (qd_ivar 7 (qv 7)) qds_nil)))) (qds_c (qd_tup (qds_c (qd_ivar 5 (qv 5)) (qds_c (qd_ivar 2 (qv 2)) (qds_c (qd_ivar 7 (qv 7)) qds_nil)))) (qds_c (qd_tup (qds_c (qd_neg qd_int) (qds_c (qd_ivar 6 (qv 6)) (qds_c (qd_ivar 7 (qv 7)) qds_nil)))) (qds_c (qd_lst (qds_c (qd_ivar 5 (qv 5)) (qds_c (qd_ivar 6 (qv 6)) (qds_c (qd_ivar 7 (qv 7)) qds_nil)))) (qds_c (qd_tup (qds_c (qd_ivar 5 (qv 5)) (qds_c (qd_ivar 6 (qv 6)) qds_nil))) (qds_c (qd_tup (qds_c (qd_ivar 5 (qv 5)) (qds_c (qd_ivar 6 (qv 6)) (qds_c (qd_ivar 7 (qv 7)) (qds_c qd_int qds_nil))))) qds_nil))))))))))
      (qss_cons (qs_set (i := 8) sc.nd rfl (Or.inl rfl) (qe_op op_cat (qv 8) (show QE _ _ (tDat [] [5, 6, 7] _) from (qd_lst (qds_c (qd_tup (qds_c (qd_ivar 5 (qv 5)) (qds_c (qd_ivar 6 (qv 6)) (qds_c qd_bl qds_nil)))) (qds_c (qd_tup (qds_c (qd_ivar 5 (qv 5)) (qds_c (qd_ivar 6 (qv 6)) (qds_c (qd_neg (qd_ivar 7 (qv 7))) qds_nil)))) (qds_c (qd_tup (qds_c (qd_ivar 5 (qv 5)) (qds_c (qd_ivar 6 (qv 6)) (qds_c qd_non qds_nil)))) qds_nil)))))))
      (qss_one (qs_ret (qe_tup (qa_c (qv 2) (qa_c (qe_op (catT K) (qe_op (catT K) (qe_slice (slT K) (qv 3) qo_none (qo_some (qv 4))) (qe_tup (qa_c (qe_ix (ixL K) (qv 8) (qe_callD D_law_draw (hr.mono (by decide)) (qa_c (qv 0) (qa_c qe_int qa_nil))) (fun _ _ => rfl)) qa_nil))) (qe_slice (slT K) (qv 3) (qo_some (qe_op op_add (qv 4) qe_int)) qo_none)) qa_nil))))))))))), ?_⟩
    obtain ⟨wa, t, xs, rfl, ha, ht, rt⟩ := web_of rw0
    have hxl := rt.length
    rw [List.length_map] at hxl
    have rT : Rep [fa] H (.tuple (ts.map tieD)) (.ref t) := .tup ht rt
    refine ⟨_, rfl, wa, _, rfl, SqT.of ha, rfl, _, _, rfl, _, _, rfl, rfl, ?_⟩
    refine ⟨_, rfl, [fa], fun _ => .none, fun _ => 0, ⟨fe.hS, by simp, by simp⟩, fun v1 H1 x1 r1 => ?_⟩
    have rT1 := rT.ext (x1.mono (S' := [fa]) (by simp))
    have f1 := fe.ext x1 (by simp) (by simp)
    refine ⟨[fa], _, _, rT1, r1, (gd_lay (.tuple (ts.map tieD)) (by simp only [Gd]; exact k1)).1, rfl, by simp only [PyData.depth]; omega, _, rfl, ite2 (fun he => ?_) (fun he => ?_)⟩
    · refine ⟨[fa], fun _ => .none, fun _ => many, ⟨f1.hS, by simp, ?_⟩, fun v2 H2 x2 r2 => q _ v2 n H2 r2 ⟨?_, ?_, ?_⟩ (by omega) (by omega) (f1.ext x2 (by simp) (by simp)) ((x1.trans x2).mono (by simp))⟩
      · intro i hi
        have : i = 2 := by simpa using hi
        subst this
        rfl
      · simp only [Gd, GdL]
        exact ⟨by omega, ⟨⟨by decide +kernel, by omega, by decide +kernel, trivial⟩, trivial⟩, trivial⟩
      · have e : (PyData.tuple [.int many, .tuple [.tuple [.int 0, .int many, .int 1]]]).weight = PyData.weight (.int many) + 1 + ((PyData.weight (.int 0) + 1 + (PyData.weight (.int many) + 1 + (PyData.weight (.int 1) + 1 + 0))) + 1 + 0 + 1 + 0) := by simp only [PyData.weight, PyData.weightAll]
        have w6 := w_int (i := 0) (k := 7) (by decide)
        have w7 := w_int (i := 1) (k := 7) (by decide)
        rw [e]
        omega
      · simp [PyData.depth, PyData.depthAll]
    have hne : 0 < ts.length := by
      cases ts with
      | nil => simp [PyData.eqv, PyData.eqvAll] at he
      | cons _ _ => simp
    have ht1 := x1.tup _ _ ht
    refine ⟨_, rfl, _, rfl, t, xs, rfl, .inr (SqT.of ht1), fa, sa, n, _, rfl, f1, by omega, by omega, by omega, fun r H2 r0 r1' f2 x2 => ?_⟩
    have ht2 := x2.tup _ _ ht1
    refine ⟨_, rfl, t, xs, rfl, .inr (SqT.of ht2), _, _, rfl, rfl, by show 3 ≤ sizeLine; decide, fun l hl => ?_⟩
    have y3 : Ext [] H2 (upd H2 l (.lst [.int r, .int 0, .int ((xs.length : Nat) - 1)])) := .new hl
    have a3 : (upd H2 l (.lst [.int r, .int 0, .int ((xs.length : Nat) - 1)])) l = some (.lst [.int r, .int 0, .int ((xs.length : Nat) - 1)]) := upd_same
    have hlf := (f2.has hl).1
    have f3 := f2.ext y3 (by simp) (by simp)
    generalize upd H2 l (.lst [.int r, .int 0, .int ((xs.length : Nat) - 1)]) = H3 at y3 a3 f3 ⊢
    refine ⟨_, rfl, fa, sa, n + 1, 3, rfl, f3, by decide, by decide, by omega, fun r4 H4 c0 c1 f4 x4 => ?_⟩
    have a4 := x4.keep _ _ (by simpa using hlf) a3
    obtain ⟨v4, e4, g4⟩ := atI_ex (xs := [V.int r, .int 0, .int ((xs.length : Nat) - 1)]) c0 (by simpa using c1)
    obtain ⟨at', rfl, o0, o1⟩ : ∃ i, v4 = V.int i ∧ 0 ≤ i ∧ i < (xs.length : Nat) := by
      have hm := List.mem_of_getElem? g4
      simp only [List.mem_cons, List.not_mem_nil, or_false] at hm
      rcases hm with e | e | e <;> exact ⟨_, e, by omega, by omega⟩
    refine ⟨l, _, r4, _, rfl, rfl, SqL.of a4, e4, ?_⟩
    have x04 : Ext [fa] H H4 := ((x1.mono (by simp)).trans x2).trans ((y3.mono (by simp)).trans x4)
    have rT4 := rT.ext x04
    have ht4 := x04.tup _ _ ht
    have rt4 := rt.ext x04
    obtain ⟨tv, e5, g5⟩ := atI_ex (xs := xs) o0 o1
    obtain ⟨dt, hdt, rdt⟩ := rt4.get g5
    rw [List.getElem?_map] at hdt
    have hi : at'.toNat < ts.length := by omega
    have hts : ts[at'.toNat]? = some ts[at'.toNat] := by simp [hi]
    rw [hts] at hdt
    have hdt' : tieD ts[at'.toNat] = dt := Option.some.inj hdt
    subst hdt'
    have tk := tok ts[at'.toNat] (List.getElem_mem hi)
    obtain ⟨pt, rfl, hpt⟩ := tie_of rdt
    generalize ts[at'.toNat] = tt at hpt tk rdt hts hdt
    obtain ⟨ta, tb, tp⟩ := tt
    dsimp only at hpt tk
    refine ⟨_, rfl, _, rfl, t, xs, at', _, rfl, rfl, SqT.of ht4, e5, pt, _, rfl, SqT.of hpt, rfl, _, _, rfl, _, _, rfl, _, _, rfl, rfl, ?_⟩
    refine ⟨[fa], fun _ => .none, fun i => ([0, 0, many, 0, 0, ta, tb, tp] : List Int).getD i 0, ⟨f4.hS, by simp, ?_⟩, fun v5 H5 x5 r5 => ?_⟩
    · intro i hi
      simp only [List.mem_cons, List.not_mem_nil, or_false] at hi
      rcases hi with rfl | rfl | rfl | rfl <;> rfl
    obtain ⟨l5, xs5, rfl, a5, n5, s5⟩ := r5.of_lst
    have f5 := f4.ext x5 (by simp) (by simp)
    refine ⟨_, rfl, [fa], fun _ => .none, fun i => ([0, 0, many, 0, 0, ta, tb, tp] : List Int).getD i 0, ⟨f5.hS, by simp, ?_⟩, fun v6 H6 x6 r6 => catL (x6.keep _ _ (by simp) a5) (s5.ext (x6.mono (by simp))) r6 (by show 7 + 3 ≤ sizeLine; decide) (f5.ext x6 (by simp) (by simp)).hS fun l7 xs7 H7 x7 a7 n7 s7 _ => ?_⟩
    · intro i hi
      simp only [List.mem_cons, List.not_mem_nil, or_false] at hi
      rcases hi with rfl | rfl | rfl <;> rfl
    have s7' : Reps [fa] H7 (others many ta tb tp) xs7 := s7
    have x47 : Ext [] H4 H7 := (x5.trans x6).trans x7
    have f7 := f4.ext x47 (by simp) (by simp)
    have rT7 := rT4.ext (x47.mono (S' := [fa]) (by simp))
    refine ⟨_, rfl, _, rfl, _, rfl, at', rfl, sl_rep rT7 fun v8 H8 y8 r8 => ?_⟩
    rw [cutL_to _ at' o0] at r8
    have f8 := f7.ext y8 (by simp) (by simp)
    refine ⟨_, rfl, _, rfl, fa, sa, n + 1 + 1, 10, rfl, f8, by decide, by decide, by omega, fun r9 H9 d0 d1 f9 x9 => ?_⟩
    have s9 := (s7'.ext (y8.mono (S' := [fa]) (by simp))).ext x9
    have a9 := x9.keep _ _ n7 (y8.keep _ _ (by simp) a7)
    have h10 : xs7.length = 10 := by rw [s9.length]; rfl
    obtain ⟨v9, e9, g9⟩ := atI_ex (xs := xs7) d0 (by rw [h10]; exact d1)
    obtain ⟨d9, hd9, rd9⟩ := s9.get g9
    obtain ⟨w1, w2, w3⟩ := others_fine (by omega) tk.1 tk.2.1 tk.2.2 d9 (List.mem_of_getElem? hd9)
    refine ⟨l7, xs7, r9, v9, rfl, rfl, SqL.of a9, e9, by show 1 ≤ sizeLine; decide, fun pz hz => ?_⟩
    have y10 : Ext [] H9 (upd H9 pz (.tup [v9])) := .new hz
    have r10 : Rep [fa] (upd H9 pz (.tup [v9])) (.tuple [d9]) (.ref pz) := .tup upd_same (.cons (rd9.ext (y10.mono (by simp))) .nil)
    have r8' := (r8.ext x9).ext (y10.mono (S' := [fa]) (by simp))
    have rT10 := ((rT7.ext (y8.mono (S' := [fa]) (by simp))).ext x9).ext (y10.mono (S' := [fa]) (by simp))
    have f10 := f9.ext y10 (by simp) (by simp)
    have x010 : Ext [fa] H (upd H9 pz (.tup [v9])) := ((x04.trans ((x47.trans y8).mono (by simp))).trans x9).trans (y10.mono (by simp))
    generalize upd H9 pz (.tup [v9]) = H10 at y10 r10 r8' rT10 f10 x010 ⊢
    have hlt : ((ts.map tieD).take at'.toNat).length ≤ 200 := by rw [List.length_take, List.length_map]; omega
    have hld : ((ts.map tieD).drop (at' + 1).toNat).length ≤ 200 := by rw [List.length_drop, List.length_map]; omega
    refine cat_rep r8' r10 (by simp only [List.length_cons, List.length_nil]; omega) fun v11 H11 y11 r11 => ?_
    refine ⟨_, rfl, _, rfl, _, _, rfl, rfl, at' + 1, rfl, ?_⟩
    dsimp only [tNoPart]
    refine sl_rep (rT10.ext (y11.mono (S' := [fa]) (by simp))) fun v12 H12 y12 r12 => ?_
    rw [cutL_from _ (at' + 1) (by omega)] at r12
    refine cat_rep (r11.ext (y12.mono (S' := [fa]) (by simp))) r12 (by simp only [List.length_append, List.length_cons, List.length_nil]; omega) fun v13 H13 y13 r13 => ⟨by show 2 ≤ sizeLine; decide, fun p14 h14 => ?_⟩
    have y14 : Ext [] H13 (upd H13 p14 (.tup [.int many, v13])) := .new h14
    have wa' := wA_split (ts.map tieD) at'.toNat
    have wb' := wA_split (ts.map tieD) (at' + 1).toNat
    have da' := dA_split (ts.map tieD) at'.toNat
    have db' := dA_split (ts.map tieD) (at' + 1).toNat
    refine q (.tuple [.int many, .tuple ((ts.map tieD).take at'.toNat ++ [d9] ++ (ts.map tieD).drop (at' + 1).toNat)]) _ (n + 1 + 1 + 1) _ (.tup upd_same (.cons (.int _) (.cons (r13.ext (y14.mono (by simp))) .nil))) ⟨?_, ?_, ?_⟩ (by omega) (by omega) ((f10.ext ((y11.trans y12).trans y13) (by simp) (by simp)).ext y14 (by simp) (by simp)) (x010.trans ((((y11.trans y12).trans y13).trans y14).mono (by simp)))
    · simp only [Gd, GdL]
      exact ⟨by omega, gdl_append (gdl_append (gdl_take k1 _) (by simp only [GdL]; exact ⟨w1, trivial⟩)) (gdl_drop k1 _), trivial⟩
    · have e : (PyData.tuple [.int many, .tuple ((ts.map tieD).take at'.toNat ++ [d9] ++ (ts.map tieD).drop (at' + 1).toNat)]).weight = PyData.weight (.int many) + 1 + (PyData.weightAll ((ts.map tieD).take at'.toNat) + (d9.weight + 1 + 0) + PyData.weightAll ((ts.map tieD).drop (at' + 1).toNat) + 1 + 0) := by simp only [PyData.weight, PyData.weightAll, wA_append]
      rw [e]
      omega
    · simp only [PyData.depth, PyData.depthAll, dA_append]
      omega
end
end Odj

set_option Elab.async false
set_option linter.all false
set_option maxRecDepth 100000
set_option maxHeartbeats 8000000
namespace Odj
open PySem L2
theorem gdl_rep {B : Nat} {ds : List PyData} (g : GdL B ds) : ∀ k : Nat, GdL B (List.replicate k ds).flatten
  | 0 => by simp [GdL]
  | k + 1 => by
    rw [List.replicate_succ, List.flatten_cons]
    exact gdl_append g (gdl_rep g k)
theorem hand_ok : ∀ d ∈ hand, ThOk d := by
  intro d hd
  unfold hand hand0 hand1 hand2 hand3 hand4 at hd
  simp only [List.cons_append, List.nil_append, List.mem_cons, List.not_mem_nil, or_false] at hd
  have g1 : ∀ k, GdL (10 ^ 50) (List.replicate k [tie01 0 59 1]).flatten := gdl_rep (by simp only [GdL, tie01, Gd]; decide +kernel)
  rcases hd with rfl | rfl | rfl | rfl | rfl | rfl | rfl | rfl | rfl | rfl | rfl | rfl | rfl | rfl | rfl | rfl | rfl | rfl | rfl | rfl | rfl | rfl | rfl | rfl | rfl | rfl | rfl | rfl | rfl | rfl | rfl | rfl
  · exact ⟨by simp only [Gd, GdL]; exact ⟨by decide +kernel, g1 _, trivial⟩, by decide +kernel, by decide +kernel⟩
  · exact ⟨by simp only [Gd, GdL]; exact ⟨by decide +kernel, g1 _, trivial⟩, by decide +kernel, by decide +kernel⟩
  all_goals refine ⟨?_, by decide +kernel, by decide +kernel⟩
  all_goals simp only [Gd, GdL, tie01]
  all_goals decide +kernel
theorem ties_gd : ∀ {ts : List Tie}, (∀ t ∈ ts, t.1.natAbs ≤ 100 ∧ t.2.1.natAbs ≤ 100 ∧ t.2.2.natAbs ≤ 100) → GdL (10 ^ 39) (ts.map tieD)
  | [], _ => by simp [GdL]
  | t :: ts, h => by
    have h1 := ties_gd (ts := ts) fun t ht => h t (List.mem_cons_of_mem _ ht)
    obtain ⟨k1, k2, k3⟩ := h t (List.mem_cons_self ..)
    have hb : (100 : Nat) ≤ 10 ^ 39 := by decide +kernel
    simp only [List.map_cons, GdL, tieD, Gd]
    exact ⟨⟨by omega, by omega, by omega, trivial⟩, h1⟩
structure WebFine (d : PyData) : Prop where
  gd : Gd (10 ^ 39) d
  wt : d.weight ≤ 6000
  dp : d.depth ≤ 3
theorem web_fine {many : Int} {ts : List Tie} (h2 : many.natAbs ≤ 100) (hl : ts.length ≤ 200) (h : ∀ t ∈ ts, t.1.natAbs ≤ 100 ∧ t.2.1.natAbs ≤ 100 ∧ t.2.2.natAbs ≤ 100) : WebFine (webD many (ts.map tieD)) := by
  obtain ⟨_, k2, k3⟩ := ties_fine h
  have w1 := w_int (i := many) (k := 7) (by omega)
  have hb : (100 : Nat) ≤ 10 ^ 39 := by decide +kernel
  refine ⟨?_, ?_, ?_⟩
  · simp only [webD, Gd, GdL]
    exact ⟨by omega, ties_gd h, trivial⟩
  · have e : (webD many (ts.map tieD)).weight = PyData.weight (.int many) + 1 + (PyData.weightAll (ts.map tieD) + 1 + 0) := by simp only [webD, PyData.weight, PyData.weightAll]
    rw [e]
    omega
  · simp only [webD, PyData.depth, PyData.depthAll]
    omega
theorem WebFine.th {d : PyData} (h : WebFine d) : ThOk d := ⟨gd_mono big3950 _ h.gd, by have := h.wt; omega, by have := h.dp; omega⟩
theorem web_turned {many : Int} {ts : List PyData} (h : WebFine (webD many ts)) : ThOk (.list [.int many, .tuple ts]) ∧ ThOk (.tuple [.tuple ts, .int many]) := by
  have g := gd_mono big3950 _ h.gd
  have w := h.wt
  have d := h.dp
  simp only [webD, Gd, GdL] at g
  simp only [webD, PyData.weight, PyData.weightAll] at w
  simp only [webD, PyData.depth, PyData.depthAll] at d
  refine ⟨⟨?_, ?_, ?_⟩, ⟨?_, ?_, ?_⟩⟩
  · simp only [Gd, GdL]; exact g
  · simp only [PyData.weight, PyData.weightAll]; omega
  · simp only [PyData.depth, PyData.depthAll]; omega
  · simp only [Gd, GdL]; exact ⟨g.2.1, g.1, trivial⟩
  · simp only [PyData.weight, PyData.weightAll]; omega
  · simp only [PyData.depth, PyData.depthAll]; omega
section
variable {P : Program} {w : World} {K : PySem.W.Frag} {mg : Str → Option Value} {base : Heap} {f : Addr} {fd : FuncData}
theorem d_law (F : Fun K "law" "law" (top 22) f fd) (B : Bt mg) (B2 : Bt2 mg) (B3 : Bt3 mg) (B5 : Bt5 mg) (D_law_feed : DefOk P w K mg base 1 "_law_feed" ["_law_script"] (spFeed K)) (D_law_draw : DefOk P w K mg base 1 "_law_draw" ["_law_feed_here", "_law_many"] spDraw)
    (D_law_web : DefOk P w K mg base 3 "_law_web" ["_law_feed_here", "_law_most", "_law_ties", "_law_signed"] spWeb) (D_law_wide : DefOk P w K mg base 3 "_law_wide" ["_law_feed_here", "_law_ties"] spWide)
    (D_law_bent : DefOk P w K mg base 9 "_law_bent" ["_law_feed_here", "_law_thing"] (spBent 6)) (D_law_by_hand : DefOk P w K mg base 1 "_law_by_hand" [] spHand) (D_law_otherwise : DefOk P w K mg base 2 "_law_otherwise" ["_law_feed_here", "_law_web_here"] spOtherwise)
    (D_is_web : DefOk P w K mg base 4 "is_web" ["thing"] spIsWeb) (D_law_is_web : DefOk P w K mg base 2 "_law_is_web" ["_law_thing"] spIsWeb) : FnOk P w K mg base CX0 20 f fd ["_law_script"] (spLaw K) := by
  have sc : FnScope ["_law_script", "_law_feed_here", "_law_things", "_law_k", "_law_web_here", "_law_bent_here", "_law_far", "_law_thing", "_law_kept"] ["_law_script"] (defScope (top 22)) := ⟨rfl, rfl, rfl, by decide +kernel, rfl, by decide +kernel, by decide +kernel⟩
  refine F.okQ (k := 19) sc (fun vs H Q E h => ?_) (fun cdv A outer s H vs Q E hr h => ?_)
  · obtain ⟨_, _, rfl, _⟩ := h
    rfl
  obtain ⟨a, ns, rfl, hsq, hlen, q⟩ := h
  have hsz : sizeLine = 16777216 := by decide
  have hmo : most = 1099511627776 := rfl
  have hB1 : (10 : Nat) ^ 39 + 1 ≤ 10 ^ 50 := by decide +kernel
  have hB2 : (10 : Nat) ^ 39 + 1 + 1 ≤ 10 ^ 50 := by decide +kernel
  refine ⟨_, (qss_cons (qs_set (i := 1) sc.nd rfl (Or.inr rfl) (qe_callD D_law_feed (hr.mono (by decide)) (qa_c (qv 0) qa_nil)))
      (qss_cons (qs_set (i := 2) sc.nd rfl (Or.inl rfl) (qe_callD0 D_law_by_hand (hr.mono (by decide))))
      (qss_cons (qs_for PassesOwn.never rfl (qi_range1 (by rfl) B2.range (qa_c qe_int qa_nil)) (qg_name (i := 3) sc.nd rfl (Or.inl rfl)) (qss_cons (qs_set (i := 4) sc.nd rfl (Or.inl rfl) (qe_callD D_law_web (hr.mono (by decide)) (qa_c (qv 1) (qa_c qe_int (qa_c qe_int (qa_c qe_bl qa_nil))))))
      (qss_cons (qs_set (i := 5) sc.nd rfl (Or.inl rfl) (qe_callD D_law_bent (hr.mono (by decide)) (qa_c (qv 1) (qa_c (qv 4) qa_nil))))
      (qss_cons (qs_set (i := 2) sc.nd rfl (Or.inl rfl) (qe_op op_cat (qv 2) (qe_lst (qa_c (qv 4) (qa_c (qv 5) (qa_c (qe_callD D_law_bent (hr.mono (by decide)) (qa_c (qv 1) (qa_c (qv 5) qa_nil))) (qa_c (qe_callD D_law_bent (hr.mono (by decide)) (qa_c (qv 1) (qa_c (qv 4) qa_nil))) (qa_c (qe_callTy (listK K) (by rfl) B3.list (by decide +kernel) (qa_c (qv 4) qa_nil)) (qa_c (qe_rev K (qv 4)) qa_nil)))))))))
      (qss_one (qs_expr (qe_bmK K PySem.F.plainAttrs_list PySem.F.slot_list_append PySem.F.type_list_append mt_append (qv 2) (qa_c (qe_tup (qa_c (qe_callB (call_max2 rfl) (by rfl) B3.max (by decide +kernel) (qa_c qe_int (qa_c (qe_op op_sub (qe_ix (ixT K) (qv 4) qe_int (fun _ _ => rfl)) qe_int) qa_nil))) (qa_c (qe_ix (ixT K) (qv 4) qe_int (fun _ _ => rfl)) qa_nil))) qa_nil))))))))
      (qss_cut (qs_if (qt_cmpR op_eq (qe_callD D_law_draw (hr.mono (by decide)) (qa_c (qv 1) (qa_c qe_int qa_nil))) qe_int (nomark _)) (qss_cons (qs_set (i := 6) sc.nd rfl (Or.inr rfl) (qe_callD D_law_wide (hr.mono (by decide)) (qa_c (qv 1) (qa_c qe_int qa_nil))))
      (qss_one (qs_set (i := 2) sc.nd rfl (Or.inl rfl) (qe_op op_cat (qe_op op_cat (qv 2) (qe_lst (qa_c (qv 6) qa_nil))) (qe_comp (N := ["_law_k", "_law_feed_here", "_law_far"]) (mp := [none, some 1, some 6]) rfl (qi_range1 (by rfl) B2.range (qa_c qe_int qa_nil)) rfl (by show compOk ["_law_script", "_law_feed_here", "_law_things", "_law_k", "_law_web_here", "_law_bent_here", "_law_far", "_law_thing", "_law_kept"] (defScope (top 22)) _ _ _ = true; decide +kernel) fun _ _ _ _ _ => ⟨(qg_name (i := 0) (by show List.Nodup [("_law_k" : Str), ("_law_feed_here" : Str), ("_law_far" : Str)]; decide +kernel) rfl (Or.inl rfl)), qk_nil, (qe_callD D_law_otherwise (hr.mono (by decide)) (qa_c (qv 1) (qa_c (qv 2) qa_nil)))⟩))))) qss_nil)
      (qss_cons (qs_for PassesOwn.never rfl (qi_listK K (qv 2)) (qg_name (i := 7) sc.nd rfl (Or.inl rfl)) (qss_cons (qs_set (i := 8) sc.nd rfl (Or.inl rfl) (qe_callB (call_reprD hr) (by rfl) B5.repr (by decide +kernel) (qa_c (qv 7) qa_nil)))
      (qss_one (qs_if (QW.pt (qw_or (qt_cmpR op_ne (qe_callB (call_reprD hr) (by rfl) B5.repr (by decide +kernel) (qa_c (qe_callD D_is_web (hr.mono (by decide)) (qa_c (qv 7) qa_nil)) qa_nil)) (qe_callB (call_reprD hr) (by rfl) B5.repr (by decide +kernel) (qa_c (qe_callD D_law_is_web (hr.mono (by decide)) (qa_c (qv 7) qa_nil)) qa_nil)) (nomark _)) (qw_or1 (qt_cmpR op_ne (qe_callB (call_reprD hr) (by rfl) B5.repr (by decide +kernel) (qa_c (qv 7) qa_nil)) (qv 8) (nomark _))))) (qss_one (qs_ret qe_bl)) qss_nil))))
      (qss_one (qs_ret qe_bl))))))), ?_⟩
  refine ⟨_, rfl, a, ns, rfl, hsq, fun fa sa H1 f1 x1 e1 e2 => ?_⟩
  refine ⟨rfl, [fa], f1.hS, fun tl0 tv0 H2 x2 a2 n2 s2 => ?_⟩
  have f2 := f1.ext x2 (by simp) (by simp)
  refine ⟨5, rfl, by decide, by decide, for_range (n := 5) (fun i σ' H' => ∃ tl tv TD n' s3 s4 s5, σ' = [some (.ref a), some (.ref fa), some (.ref tl), s3, s4, s5, none, none, none] ∧ H' tl = some (.lst tv) ∧ tl ∉ [fa] ∧ Reps [fa] H' TD tv ∧ (∀ d ∈ TD, ThOk d) ∧ TD.length ≤ 40 + 7 * i ∧ Feed H' fa sa n' ∧ n' ≤ 4000 * i)
    ⟨tl0, tv0, hand, 0, none, none, none, rfl, a2, n2, s2, hand_ok, by decide, f2, by omega⟩ ?_ ?_⟩
  · rintro i σ' H0 hi ⟨tl, tv, TD, n0, s3, s4, s5, rfl, ct, htl, rT, hT, hTl, f0, hn0⟩
    have nlo := f0.lo
    refine ⟨_, rfl, fa, sa, n0, 9, 16, true, rfl, f0, by decide, by decide, by decide, by decide, by omega, fun many ts v n1 G1 rv m0 m1 tlen tok k0 k1 g1 z1 => ?_⟩
    have hts : ∀ t ∈ ts, t.1.natAbs ≤ 100 ∧ t.2.1.natAbs ≤ 100 ∧ t.2.2.natAbs ≤ 100 := fun t ht => by
      have o := tok t ht
      have o1 := o.a0
      have o2 := o.ab
      have o3 := o.bm
      have o4 := o.p0
      have o5 := o.p1
      omega
    have tlen' : ts.length ≤ 16 := by omega
    have wf := web_fine (many := many) (by omega) (by omega) hts
    obtain ⟨th1, th2⟩ := web_turned wf
    have ww := wf.wt
    have wd := wf.dp
    refine ⟨_, rfl, _, rfl, fa, sa, n1, webD many (ts.map tieD), v, 10 ^ 39, rfl, g1, rv, wf.gd, Nat.le_refl _, by decide +kernel, by omega, by omega, by omega, by omega, fun d1 v1 n2 G2 r1 gd1 w1 dp1 k2 k3 g2 z2 => ?_⟩
    have rv2 := rv.ext z2
    refine ⟨_, rfl, _, rfl, _, rfl, _, rfl, _, rfl, fa, sa, n2, d1, v1, 10 ^ 39 + 1, rfl, g2, r1, gd1, by omega, by decide +kernel, by omega, by omega, by omega, by omega, fun d2 v2 n3 G3 r2 gd2 w2 dp2 k4 k5 g3 z3 => ?_⟩
    have rv3 := rv2.ext z3
    refine ⟨_, rfl, _, rfl, fa, sa, n3, webD many (ts.map tieD), v, 10 ^ 39, rfl, g3, rv3, wf.gd, Nat.le_refl _, by decide +kernel, by omega, by omega, by omega, by omega, fun d3 v3 n4 G4 r3 gd3 w3 dp3 k6 k7 g4 z4 => ?_⟩
    have rv4 := rv3.ext z4
    obtain ⟨wa, wt, txs, rfl, ha, hb, rtx⟩ := web_of rv4
    refine ⟨_, rfl, wa, _, rfl, .inr (SqT.of ha), fun l1 h1 => ?_⟩
    have y5 : Ext [] G4 (upd G4 l1 (.lst [.int many, .ref wt])) := .new h1
    have r5 : Rep [fa] (upd G4 l1 (.lst [.int many, .ref wt])) (.list [.int many, .tuple (ts.map tieD)]) (.ref l1) := .lst upd_same (by simpa using (g4.has h1).1) (.cons (.int _) (.cons (.tup (y5.tup _ _ hb) (rtx.ext (y5.mono (by simp)))) .nil))
    have g5 := g4.ext y5 (by simp) (by simp)
    generalize upd G4 l1 (.lst [.int many, .ref wt]) = G5 at y5 r5 g5 ⊢
    refine ⟨_, rfl, wa, _, rfl, SqT.of (y5.tup _ _ ha), fun l2 h2 => ⟨by show 6 ≤ sizeLine; decide, fun l3 h3 => ?_⟩⟩
    have y6 : Ext [] G5 (upd G5 l2 (.tup [V.int many, .ref wt].reverse)) := .new h2
    have r6 : Rep [fa] (upd G5 l2 (.tup [V.int many, .ref wt].reverse)) (.tuple [.tuple (ts.map tieD), .int many]) (.ref l2) := .tup upd_same (.cons (.tup ((y5.trans y6).tup _ _ hb) (rtx.ext ((y5.trans y6).mono (by simp)))) (.cons (.int _) .nil))
    have g6 := g5.ext y6 (by simp) (by simp)
    generalize upd G5 l2 (.tup [V.int many, .ref wt].reverse) = G6 at y6 r6 g6 h3 ⊢
    have y7 : Ext [] G6 (upd G6 l3 (.lst [.ref wa, v1, v2, v3, .ref l1, .ref l2])) := .new h3
    have a7 : (upd G6 l3 (.lst [.ref wa, v1, v2, v3, .ref l1, .ref l2])) l3 = some (.lst [.ref wa, v1, v2, v3, .ref l1, .ref l2]) := upd_same
    have g7 := g6.ext y7 (by simp) (by simp)
    generalize upd G6 l3 (.lst [.ref wa, v1, v2, v3, .ref l1, .ref l2]) = G7 at y7 a7 g7 ⊢
    have y47 : Ext [] G4 G7 := (y5.trans y6).trans y7
    have z47 : Ext [fa] G4 G7 := y47.mono (by simp)
    have z07 : Ext [fa] H0 G7 := (((z1.trans z2).trans z3).trans z4).trans z47
    have z37 : Ext [fa] G3 G7 := z4.trans z47
    have rv7 := rv4.ext z47
    have rT7 := rT.ext z07
    have hTv := rT7.length
    have rA : Reps [fa] G7 (TD ++ [webD many (ts.map tieD), d1, d2, d3, .list [.int many, .tuple (ts.map tieD)], .tuple [.tuple (ts.map tieD), .int many]]) (tv ++ [.ref wa, v1, v2, v3, .ref l1, .ref l2]) :=
      rT7.append (.cons rv7 (.cons (r1.ext (z3.trans z37)) (.cons (r2.ext z37) (.cons (r3.ext z47) (.cons (r5.ext ((y6.trans y7).mono (by simp))) (.cons (r6.ext (y7.mono (by simp))) .nil))))))
    refine ⟨tl, l3, _, _, rfl, rfl, z07.keep _ _ htl ct, a7, by show tv.length + 6 ≤ sizeLine; omega, fun l4 h4 => ?_⟩
    have rA' := rA.more h4
    have rw' := rv7.more h4
    have hl4 := g7.has h4
    have y8 : Ext [] G7 (upd G7 l4 (.lst (tv ++ [.ref wa, v1, v2, v3, .ref l1, .ref l2]))) := .new h4
    have a8 : (upd G7 l4 (.lst (tv ++ [.ref wa, v1, v2, v3, .ref l1, .ref l2]))) l4 = some (.lst (tv ++ [.ref wa, v1, v2, v3, .ref l1, .ref l2])) := upd_same
    have g8 := g7.ext y8 (by simp) (by simp)
    have rA8 := rA'.ext (y8.mono (by simp))
    have rw8 := rw'.ext (y8.mono (by simp))
    generalize upd G7 l4 (.lst (tv ++ [.ref wa, v1, v2, v3, .ref l1, .ref l2])) = G8 at y8 a8 g8 rA8 rw8 ⊢
    obtain ⟨wa', wt', txs', e8, ha8, hb8, rtx8⟩ := web_of rw8
    cases e8
    refine ⟨_, rfl, .inl ⟨rfl, _, SqL.of a8⟩, _, rfl, wa, _, 0, _, rfl, rfl, SqT.of ha8, rfl, _, _, rfl, rfl, _, _, rfl, _, rfl, wa, _, 1, _, rfl, rfl, SqT.of ha8, rfl, by show 2 ≤ sizeLine; decide, fun pt hpt => ?_⟩
    have hm : ∃ m', (if many - 1 > 1 then many - 1 else 1) = m' ∧ 1 ≤ m' ∧ m' ≤ 60 := ⟨_, rfl, by split <;> omega, by split <;> omega⟩
    obtain ⟨m', em, mm0, mm1⟩ := hm
    dsimp only
    rw [em]
    have wf' := web_fine (many := m') (ts := ts) (by omega) (by omega) hts
    have y9 : Ext [] G8 (upd G8 pt (.tup [.int m', .ref wt'])) := .new hpt
    have r9 : Rep [l4, fa] (upd G8 pt (.tup [.int m', .ref wt'])) (webD m' (ts.map tieD)) (.ref pt) := .tup upd_same (.cons (.int _) (.cons (.tup (y9.tup _ _ hb8) (rtx8.ext (y9.mono (by simp)))) .nil))
    have a9 : (upd G8 pt (.tup [.int m', .ref wt'])) l4 = some (.lst (tv ++ [.ref wa, v1, v2, v3, .ref l1, .ref l2])) := y9.keep _ _ (by simp) a8
    have g9 := g8.ext y9 (by simp) (by simp)
    have rA9 := rA8.ext (y9.mono (by simp))
    generalize upd G8 pt (.tup [.int m', .ref wt']) = G9 at y9 r9 a9 g9 rA9 ⊢
    have z10 : Ext [l4, fa] G9 (upd G9 l4 (.lst (tv ++ [.ref wa, v1, v2, v3, .ref l1, .ref l2] ++ [.ref pt]))) := .set (by simp) a9
    have z10' : Ext [l4] G9 (upd G9 l4 (.lst (tv ++ [.ref wa, v1, v2, v3, .ref l1, .ref l2] ++ [.ref pt]))) := .set (by simp) a9
    refine ⟨l4, _, _, rfl, rfl, a9, by simp only [List.length_append, List.length_cons, List.length_nil]; omega, l4, _, TD ++ [webD many (ts.map tieD), d1, d2, d3, .list [.int many, .tuple (ts.map tieD)], .tuple [.tuple (ts.map tieD), .int many]] ++ [webD m' (ts.map tieD)], n4, _, _, _, rfl, upd_same, by simpa using hl4.1, ?_, ?_, ?_, g9.ext z10' (by simpa using hl4.1.symm) (by simpa using hl4.2.symm), by omega⟩
    · exact ((rA9.append (.cons r9 .nil)).ext z10).less (by simp)
    · intro d hd
      rcases List.mem_append.mp hd with h | h
      · rcases List.mem_append.mp h with h | h
        · exact hT d h
        · simp only [List.mem_cons, List.not_mem_nil, or_false] at h
          rcases h with rfl | rfl | rfl | rfl | rfl | rfl
          · exact wf.th
          · exact ⟨gd_mono hB1 _ gd1, by omega, by omega⟩
          · exact ⟨gd_mono hB2 _ gd2, by omega, by omega⟩
          · exact ⟨gd_mono hB1 _ gd3, by omega, by omega⟩
          · exact th1
          · exact th2
      · have : d = webD m' (ts.map tieD) := by simpa using h
        subst this
        exact wf'.th
    · simp only [List.length_append, List.length_cons, List.length_nil]
      omega
  rintro σ' H0 ⟨tl, tv, TD, n0, s3, s4, s5, rfl, ct, htl, rT, hT, hTl, f0, hn0⟩
  have hTl' : TD.length ≤ 75 := by omega
  have hTv := rT.length
  have nlo := f0.lo
  refine ⟨fun σ' H' => ∃ tl tv TD s3 s4 s5 s6 s7 s8, σ' = [some (.ref a), some (.ref fa), some (.ref tl), s3, s4, s5, s6, s7, s8] ∧ H' tl = some (.lst tv) ∧ Reps [fa] H' TD tv ∧ (∀ d ∈ TD, ThOk d), ?_, ?_⟩
  · refine ⟨_, rfl, fa, sa, n0, 3, rfl, f0, by decide, by decide, by omega, fun r G1 r0 r1 g1 z1 => ⟨rfl, _, rfl, ite2 (fun hz => ?_) (fun hz => ⟨tl, tv, TD, _, _, _, _, _, _, rfl, z1.keep _ _ htl ct, rT.ext z1, hT⟩)⟩⟩
    refine ⟨_, rfl, fa, sa, n0 + 1, 200, rfl, g1, by decide, by decide, by omega, fun many ts v n2 G2 rv m0 m1 tlen tok k0 k1 g2 z2 => ?_⟩
    have hts : ∀ t ∈ ts, t.1.natAbs ≤ 100 ∧ t.2.1.natAbs ≤ 100 ∧ t.2.2.natAbs ≤ 100 := fun t ht => by
      have o := tok t ht
      have o1 := o.a0
      have o2 := o.ab
      have o3 := o.bm
      have o4 := o.p0
      have o5 := o.p1
      omega
    have wf := web_fine (many := many) (by omega) tlen hts
    refine ⟨_, rfl, _, rfl, by show 1 ≤ sizeLine; decide, fun l1 h1 => ?_⟩
    have y3 : Ext [] G2 (upd G2 l1 (.lst [v])) := .new h1
    have a3 : (upd G2 l1 (.lst [v])) l1 = some (.lst [v]) := upd_same
    have g3 := g2.ext y3 (by simp) (by simp)
    generalize upd G2 l1 (.lst [v]) = G3 at y3 a3 g3 ⊢
    have z03 : Ext [fa] H0 G3 := (z1.trans z2).trans (y3.mono (by simp))
    refine ⟨tl, l1, tv, _, rfl, rfl, z03.keep _ _ htl ct, a3, by show tv.length + 1 ≤ sizeLine; omega, fun l2 h2 => ?_⟩
    have y4 : Ext [] G3 (upd G3 l2 (.lst (tv ++ [v]))) := .new h2
    have a4 : (upd G3 l2 (.lst (tv ++ [v]))) l2 = some (.lst (tv ++ [v])) := upd_same
    have hl2 : l2 ∉ [fa] := by simpa using (g3.has h2).1
    have g4 := g3.ext y4 (by simp) (by simp)
    generalize upd G3 l2 (.lst (tv ++ [v])) = G4 at y4 a4 g4 ⊢
    have rv4 := rv.ext ((y3.trans y4).mono (S' := [fa]) (by simp))
    have rT4 := rT.ext (z03.trans (y4.mono (by simp)))
    refine ⟨4, rfl, by decide, by decide, comp_range (n := 4) (fun i ys σ' H' => (∃ y, σ' = [y, some (.ref fa), some v]) ∧ ∃ D n', Reps [fa] H' D ys ∧ (∀ d ∈ D, ThOk d) ∧ D.length = i ∧ Feed H' fa sa n' ∧ n' ≤ n2 + 3 * i ∧ Ext [fa] G4 H')
      ⟨⟨none, rfl⟩, [], n2, .nil, by simp, rfl, g4, by omega, .refl _ _⟩ ?_ ?_⟩
    · rintro i ys σ' H' hi ⟨⟨y, rfl⟩, D, n', rD, hD, hDl, f5, hn5, x5⟩
      refine ⟨by rw [rD.length]; omega, truN ⟨_, rfl, _, rfl, fa, sa, n', many, ts, v, rfl, f5, rv4.ext x5, by omega, m1, tlen, hts, by omega, fun d' v' n'' H'' r' t' b0 b1 f6 x6 => ?_⟩⟩
      refine ⟨⟨_, rfl⟩, D ++ [d'], n'', (rD.ext x6).append (.cons r' .nil), ?_, by simp [hDl], f6, by omega, x5.trans x6⟩
      intro d hd
      rcases List.mem_append.mp hd with h | h
      · exact hD d h
      · have : d = d' := by simpa using h
        subst this
        exact t'
    · rintro ys σ' H' ⟨⟨y, rfl⟩, D, n', rD, hD, hDl, f5, hn5, x5⟩
      have hys := rD.length
      refine ⟨by omega, fun l5 h5 => ?_⟩
      have y6 : Ext [] H' (upd H' l5 (.lst ys)) := .new h5
      have a6 : (upd H' l5 (.lst ys)) l5 = some (.lst ys) := upd_same
      generalize upd H' l5 (.lst ys) = G6 at y6 a6 ⊢
      have z46 : Ext [fa] G4 G6 := x5.trans (y6.mono (by simp))
      refine ⟨l2, l5, _, _, rfl, rfl, z46.keep _ _ hl2 a4, a6, by rw [List.length_append]; show tv.length + 1 + ys.length ≤ sizeLine; omega, fun l7 h7 => ?_⟩
      have y8 : Ext [] G6 (upd G6 l7 (.lst (tv ++ [v] ++ ys))) := .new h7
      refine ⟨l7, _, TD ++ [webD many (ts.map tieD)] ++ D, _, _, _, _, _, _, rfl, upd_same, (((((rT4.append (.cons rv4 .nil)).ext z46).append (rD.ext (y6.mono (by simp)))).ext (y8.mono (by simp)))), ?_⟩
      intro d hd
      rcases List.mem_append.mp hd with h | h
      · rcases List.mem_append.mp h with h | h
        · exact hT d h
        · have : d = webD many (ts.map tieD) := by simpa using h
          subst this
          exact wf.th
      · exact hD d h
  clear f0 rT hT ct htl hn0 hTl hTl' hTv nlo
  rintro σ' J0 ⟨tl, tv, TD, s3, s4, s5, s6, s7, s8, rfl, ct, rT, hT⟩
  have hdq : ∀ z : Str, (!decide (V.str z = V.str z)) = false := fun z => by simp
  have hgb : ∀ b : Bool, Good (.bool b) := fun b => good_of (by simp [Gd]) (by simp [PyData.depth]) (by simp [PyData.weight])
  refine ⟨_, rfl, tl, rfl, ⟨_, SqL.of ct⟩, for_list (xs := tv) (D := { nx := _, rt := Q }) (fun j σ' H' => ∃ s7 s8, σ' = [some (.ref a), some (.ref fa), some (.ref tl), s3, s4, s5, s6, s7, s8] ∧ Ext [] J0 H')
    ⟨_, _, rfl, .refl _ _⟩ (fun j σ' H' _ h => ?_) ?_ (fun σ' H' _ => q H')⟩
  · obtain ⟨_, _, _, h⟩ := h
    exact SqL.of (h.keep _ _ (by simp) ct)
  · rintro j x σ' K0 hx ⟨s7, s8, rfl, y0⟩
    obtain ⟨d, hd, rx⟩ := (rT.ext (y0.mono (S' := [fa]) (by simp))).get hx
    have tok := hT d (List.mem_of_getElem? hd)
    have hgood : Good d := good_of tok.gd (by have := tok.dp; omega) (by have := tok.wt; omega)
    refine ⟨_, rfl, [fa], d, x, rfl, rx, hgood, ?_⟩
    refine ⟨_, rfl, [fa], d, x, rfl, rx, fun K1 y1 => ⟨[], .bool (isWebD d), _, rfl, .bl _, hgb _, _, rfl, [fa], d, x, rfl, rx.ext (y1.mono (by simp)), fun K2 y2 => ⟨[], .bool (isWebD d), _, rfl, .bl _, hgb _, rfl, _, rfl, ?_⟩⟩⟩
    rw [hdq]
    refine iteF ⟨_, rfl, [fa], d, x, rfl, rx.ext ((y1.trans y2).mono (by simp)), hgood, _, rfl, rfl, _, rfl, ?_⟩
    rw [hdq]
    exact iteF ⟨_, _, rfl, (y0.trans y1).trans y2⟩
end
end Odj

set_option Elab.async false
set_option linter.all false
set_option maxRecDepth 100000
set_option maxHeartbeats 8000000
namespace Odj
open PySem L2
theorem all_mk {l : PySem.W.OpenLaw} {w : World} {K : PySem.W.Frag} {h : Heap} {mg : Str → Option Value} {fa : Addr} {f1 f2 f6 f7 f8 f9 f11 f12 f13 f14 f15 f16 f17 f18 f19 f20 f21 f22 : Addr} {od1 an1 od2 an2 od6 an6 od7 an7 od8 an8 od9 an9 od11 an11 od12 an12 od13 an13 od14 an14 od15 an15 od16 an16 od17 an17 od18 an18 od19 an19 od20 an20 od21 an21 od22 an22 : Option Addr} {sl1 sl2 sl6 sl7 sl8 sl9 sl11 sl12 sl13 sl14 sl15 sl16 sl17 sl18 sl19 sl20 sl21 sl22 : Array (Option Value)} {oc1 kV1 dc1 pm1 cd1 ct1 oc2 kV2 dc2 pm2 cd2 ct2 oc6 kV6 dc6 pm6 cd6 ct6 oc7 kV7 dc7 pm7 cd7 ct7 oc8 kV8 dc8 pm8 cd8 ct8 oc9 kV9 dc9 pm9 cd9 ct9 oc11 kV11 dc11 pm11 cd11 ct11 oc12 kV12 dc12 pm12 cd12 ct12 oc13 kV13 dc13 pm13 cd13 ct13 oc14 kV14 dc14 pm14 cd14 ct14 oc15 kV15 dc15 pm15 cd15 ct15 oc16 kV16 dc16 pm16 cd16 ct16 oc17 kV17 dc17 pm17 cd17 ct17 oc18 kV18 dc18 pm18 cd18 ct18 oc19 kV19 dc19 pm19 cd19 ct19 oc20 kV20 dc20 pm20 cd20 ct20 oc21 kV21 dc21 pm21 cd21 ct21 oc22 kV22 dc22 pm22 cd22 ct22 : Value} {tk_MOST_PLACES tk_MOST_TIES : Tok} (X : K.In h) (G : h.Ns mainGlobals mg) (hfa : mg "law" = some (.ref fa))
    (a1 : PySem.W.nsIn K mainGlobals "is_whole" = some (some (.ref f1))) (l1 : K.lookup f1 = some ⟨oc1, od1, .func (PySem.W.fnOf "is_whole" "is_whole" (defArgs (top 1)) (defBody (top 1)) (defScope (top 1)) .none kV1 dc1 pm1 an1 cd1 ct1), sl1⟩) (c1 : PySem.W.codeIn K cd1 "is_whole" = true) (k1 : PySem.W.keepIn K (.ref f1) = true)
    (a2 : PySem.W.nsIn K mainGlobals "is_tuple_of" = some (some (.ref f2))) (l2 : K.lookup f2 = some ⟨oc2, od2, .func (PySem.W.fnOf "is_tuple_of" "is_tuple_of" (defArgs (top 2)) (defBody (top 2)) (defScope (top 2)) .none kV2 dc2 pm2 an2 cd2 ct2), sl2⟩) (c2 : PySem.W.codeIn K cd2 "is_tuple_of" = true) (k2 : PySem.W.keepIn K (.ref f2) = true)
    (a6 : PySem.W.nsIn K mainGlobals "is_tie_kind" = some (some (.ref f6))) (l6 : K.lookup f6 = some ⟨oc6, od6, .func (PySem.W.fnOf "is_tie_kind" "is_tie_kind" (defArgs (top 6)) (defBody (top 6)) (defScope (top 6)) .none kV6 dc6 pm6 an6 cd6 ct6), sl6⟩) (c6 : PySem.W.codeIn K cd6 "is_tie_kind" = true) (k6 : PySem.W.keepIn K (.ref f6) = true)
    (a7 : PySem.W.nsIn K mainGlobals "is_tie" = some (some (.ref f7))) (l7 : K.lookup f7 = some ⟨oc7, od7, .func (PySem.W.fnOf "is_tie" "is_tie" (defArgs (top 7)) (defBody (top 7)) (defScope (top 7)) .none kV7 dc7 pm7 an7 cd7 ct7), sl7⟩) (c7 : PySem.W.codeIn K cd7 "is_tie" = true) (k7 : PySem.W.keepIn K (.ref f7) = true)
    (a8 : PySem.W.nsIn K mainGlobals "is_web_kind" = some (some (.ref f8))) (l8 : K.lookup f8 = some ⟨oc8, od8, .func (PySem.W.fnOf "is_web_kind" "is_web_kind" (defArgs (top 8)) (defBody (top 8)) (defScope (top 8)) .none kV8 dc8 pm8 an8 cd8 ct8), sl8⟩) (c8 : PySem.W.codeIn K cd8 "is_web_kind" = true) (k8 : PySem.W.keepIn K (.ref f8) = true)
    (a9 : PySem.W.nsIn K mainGlobals "is_web" = some (some (.ref f9))) (l9 : K.lookup f9 = some ⟨oc9, od9, .func (PySem.W.fnOf "is_web" "is_web" (defArgs (top 9)) (defBody (top 9)) (defScope (top 9)) .none kV9 dc9 pm9 an9 cd9 ct9), sl9⟩) (c9 : PySem.W.codeIn K cd9 "is_web" = true) (k9 : PySem.W.keepIn K (.ref f9) = true)
    (a11 : PySem.W.nsIn K mainGlobals "_law_feed" = some (some (.ref f11))) (l11 : K.lookup f11 = some ⟨oc11, od11, .func (PySem.W.fnOf "_law_feed" "_law_feed" (defArgs (top 11)) (defBody (top 11)) (defScope (top 11)) .none kV11 dc11 pm11 an11 cd11 ct11), sl11⟩) (c11 : PySem.W.codeIn K cd11 "_law_feed" = true) (k11 : PySem.W.keepIn K (.ref f11) = true)
    (a12 : PySem.W.nsIn K mainGlobals "_law_draw" = some (some (.ref f12))) (l12 : K.lookup f12 = some ⟨oc12, od12, .func (PySem.W.fnOf "_law_draw" "_law_draw" (defArgs (top 12)) (defBody (top 12)) (defScope (top 12)) .none kV12 dc12 pm12 an12 cd12 ct12), sl12⟩) (c12 : PySem.W.codeIn K cd12 "_law_draw" = true) (k12 : PySem.W.keepIn K (.ref f12) = true)
    (a13 : PySem.W.nsIn K mainGlobals "_law_price" = some (some (.ref f13))) (l13 : K.lookup f13 = some ⟨oc13, od13, .func (PySem.W.fnOf "_law_price" "_law_price" (defArgs (top 13)) (defBody (top 13)) (defScope (top 13)) .none kV13 dc13 pm13 an13 cd13 ct13), sl13⟩) (c13 : PySem.W.codeIn K cd13 "_law_price" = true) (k13 : PySem.W.keepIn K (.ref f13) = true)
    (a14 : PySem.W.nsIn K mainGlobals "_law_web" = some (some (.ref f14))) (l14 : K.lookup f14 = some ⟨oc14, od14, .func (PySem.W.fnOf "_law_web" "_law_web" (defArgs (top 14)) (defBody (top 14)) (defScope (top 14)) .none kV14 dc14 pm14 an14 cd14 ct14), sl14⟩) (c14 : PySem.W.codeIn K cd14 "_law_web" = true) (k14 : PySem.W.keepIn K (.ref f14) = true)
    (a15 : PySem.W.nsIn K mainGlobals "_law_whole" = some (some (.ref f15))) (l15 : K.lookup f15 = some ⟨oc15, od15, .func (PySem.W.fnOf "_law_whole" "_law_whole" (defArgs (top 15)) (defBody (top 15)) (defScope (top 15)) .none kV15 dc15 pm15 an15 cd15 ct15), sl15⟩) (c15 : PySem.W.codeIn K cd15 "_law_whole" = true) (k15 : PySem.W.keepIn K (.ref f15) = true)
    (a16 : PySem.W.nsIn K mainGlobals "_law_odd" = some (some (.ref f16))) (l16 : K.lookup f16 = some ⟨oc16, od16, .func (PySem.W.fnOf "_law_odd" "_law_odd" (defArgs (top 16)) (defBody (top 16)) (defScope (top 16)) .none kV16 dc16 pm16 an16 cd16 ct16), sl16⟩) (c16 : PySem.W.codeIn K cd16 "_law_odd" = true) (k16 : PySem.W.keepIn K (.ref f16) = true)
    (a17 : PySem.W.nsIn K mainGlobals "_law_bent" = some (some (.ref f17))) (l17 : K.lookup f17 = some ⟨oc17, od17, .func (PySem.W.fnOf "_law_bent" "_law_bent" (defArgs (top 17)) (defBody (top 17)) (defScope (top 17)) .none kV17 dc17 pm17 an17 cd17 ct17), sl17⟩) (c17 : PySem.W.codeIn K cd17 "_law_bent" = true) (k17 : PySem.W.keepIn K (.ref f17) = true)
    (a18 : PySem.W.nsIn K mainGlobals "_law_is_web" = some (some (.ref f18))) (l18 : K.lookup f18 = some ⟨oc18, od18, .func (PySem.W.fnOf "_law_is_web" "_law_is_web" (defArgs (top 18)) (defBody (top 18)) (defScope (top 18)) .none kV18 dc18 pm18 an18 cd18 ct18), sl18⟩) (c18 : PySem.W.codeIn K cd18 "_law_is_web" = true) (k18 : PySem.W.keepIn K (.ref f18) = true)
    (a19 : PySem.W.nsIn K mainGlobals "_law_by_hand" = some (some (.ref f19))) (l19 : K.lookup f19 = some ⟨oc19, od19, .func (PySem.W.fnOf "_law_by_hand" "_law_by_hand" (defArgs (top 19)) (defBody (top 19)) (defScope (top 19)) .none kV19 dc19 pm19 an19 cd19 ct19), sl19⟩) (c19 : PySem.W.codeIn K cd19 "_law_by_hand" = true) (k19 : PySem.W.keepIn K (.ref f19) = true)
    (a20 : PySem.W.nsIn K mainGlobals "_law_wide" = some (some (.ref f20))) (l20 : K.lookup f20 = some ⟨oc20, od20, .func (PySem.W.fnOf "_law_wide" "_law_wide" (defArgs (top 20)) (defBody (top 20)) (defScope (top 20)) .none kV20 dc20 pm20 an20 cd20 ct20), sl20⟩) (c20 : PySem.W.codeIn K cd20 "_law_wide" = true) (k20 : PySem.W.keepIn K (.ref f20) = true)
    (a21 : PySem.W.nsIn K mainGlobals "_law_otherwise" = some (some (.ref f21))) (l21 : K.lookup f21 = some ⟨oc21, od21, .func (PySem.W.fnOf "_law_otherwise" "_law_otherwise" (defArgs (top 21)) (defBody (top 21)) (defScope (top 21)) .none kV21 dc21 pm21 an21 cd21 ct21), sl21⟩) (c21 : PySem.W.codeIn K cd21 "_law_otherwise" = true) (k21 : PySem.W.keepIn K (.ref f21) = true)
    (a22 : PySem.W.nsIn K mainGlobals "law" = some (some (.ref f22))) (l22 : K.lookup f22 = some ⟨oc22, od22, .func (PySem.W.fnOf "law" "law" (defArgs (top 22)) (defBody (top 22)) (defScope (top 22)) .none kV22 dc22 pm22 an22 cd22 ct22), sl22⟩) (c22 : PySem.W.codeIn K cd22 "law" = true) (k22 : PySem.W.keepIn K (.ref f22) = true)
    (g_MOST_PLACES : PySem.W.nsIn K mainGlobals "MOST_PLACES" = some (some (.int 60 tk_MOST_PLACES)))
    (g_MOST_TIES : PySem.W.nsIn K mainGlobals "MOST_TIES" = some (some (.int 200 tk_MOST_TIES)))
    (z_isinstance : PySem.W.nsIn K mainGlobals "isinstance" = some none)
    (z_int : PySem.W.nsIn K mainGlobals "int" = some none)
    (z_bool : PySem.W.nsIn K mainGlobals "bool" = some none)
    (z_tuple : PySem.W.nsIn K mainGlobals "tuple" = some none)
    (z_len : PySem.W.nsIn K mainGlobals "len" = some none)
    (z_range : PySem.W.nsIn K mainGlobals "range" = some none)
    (z_list : PySem.W.nsIn K mainGlobals "list" = some none)
    (z_min : PySem.W.nsIn K mainGlobals "min" = some none)
    (z_max : PySem.W.nsIn K mainGlobals "max" = some none)
    (z_repr : PySem.W.nsIn K mainGlobals "repr" = some none)
    (z_str : PySem.W.nsIn K mainGlobals "str" = some none)
    (z_all : PySem.W.nsIn K mainGlobals "all" = some none) :
    ∃ fd : FuncData, (∀ (s : Shared) (v : Value), BindsTo s fd ⟨[v], []⟩ [("_law_script", v)]) ∧ ∀ base : Heap, K.In base → base.Ns mainGlobals mg → FnOk l.prog w K mg base CX0 20 fa fd ["_law_script"] (spLaw K) := by
  have e := hfa.symm.trans (PySem.W.mg_of X G a22)
  cases e
  have F1 := fun_mk (st := top 1) l1 c1 k1
  have m1 := PySem.W.mg_of X G a1
  have F2 := fun_mk (st := top 2) l2 c2 k2
  have m2 := PySem.W.mg_of X G a2
  have F6 := fun_mk (st := top 6) l6 c6 k6
  have m6 := PySem.W.mg_of X G a6
  have F7 := fun_mk (st := top 7) l7 c7 k7
  have m7 := PySem.W.mg_of X G a7
  have F8 := fun_mk (st := top 8) l8 c8 k8
  have m8 := PySem.W.mg_of X G a8
  have F9 := fun_mk (st := top 9) l9 c9 k9
  have m9 := PySem.W.mg_of X G a9
  have F11 := fun_mk (st := top 11) l11 c11 k11
  have m11 := PySem.W.mg_of X G a11
  have F12 := fun_mk (st := top 12) l12 c12 k12
  have m12 := PySem.W.mg_of X G a12
  have F13 := fun_mk (st := top 13) l13 c13 k13
  have m13 := PySem.W.mg_of X G a13
  have F14 := fun_mk (st := top 14) l14 c14 k14
  have m14 := PySem.W.mg_of X G a14
  have F15 := fun_mk (st := top 15) l15 c15 k15
  have m15 := PySem.W.mg_of X G a15
  have F16 := fun_mk (st := top 16) l16 c16 k16
  have m16 := PySem.W.mg_of X G a16
  have F17 := fun_mk (st := top 17) l17 c17 k17
  have m17 := PySem.W.mg_of X G a17
  have F18 := fun_mk (st := top 18) l18 c18 k18
  have m18 := PySem.W.mg_of X G a18
  have F19 := fun_mk (st := top 19) l19 c19 k19
  have m19 := PySem.W.mg_of X G a19
  have F20 := fun_mk (st := top 20) l20 c20 k20
  have m20 := PySem.W.mg_of X G a20
  have F21 := fun_mk (st := top 21) l21 c21 k21
  have m21 := PySem.W.mg_of X G a21
  have F22 := fun_mk (st := top 22) l22 c22 k22
  have m22 := PySem.W.mg_of X G a22
  have B : Bt mg := ⟨PySem.W.mg_none_of X G z_isinstance, PySem.W.mg_none_of X G z_int, PySem.W.mg_none_of X G z_bool, PySem.W.mg_none_of X G z_tuple, PySem.W.mg_none_of X G z_len⟩
  have B2 : Bt2 mg := ⟨PySem.W.mg_none_of X G z_range⟩
  have B3 : Bt3 mg := ⟨PySem.W.mg_none_of X G z_list, PySem.W.mg_none_of X G z_min, PySem.W.mg_none_of X G z_max⟩
  have B4 : Bt4 mg := ⟨PySem.W.mg_none_of X G z_str⟩
  have B5 : Bt5 mg := ⟨PySem.W.mg_none_of X G z_repr⟩
  have B6 : Bt6 mg := ⟨PySem.W.mg_none_of X G z_all⟩
  have M : Gi mg := ⟨⟨_, PySem.W.mg_of X G g_MOST_PLACES⟩, ⟨_, PySem.W.mg_of X G g_MOST_TIES⟩⟩
  exact ⟨PySem.W.fnOf "law" "law" (defArgs (top 22)) (defBody (top 22)) (defScope (top 22)) .none kV22 dc22 pm22 an22 cd22 ct22, fun s v => .of_eq rfl, fun base _ _ => (by
    have dr := d_draw (P := l.prog) (w := w) (base := base) F12 m12 B
    have dp := d_price F13 m13 dr
    have dw := d_is_whole (P := l.prog) (w := w) (base := base) F1 m1 B
    have dt := d_is_tuple_of (P := l.prog) (w := w) (base := base) F2 m2 B
    exact d_law F22 B B2 B3 B5 (d_feed F11 m11) dr (d_web F14 m14 B B2 dr dp) (d_wide F20 m20 B B2 B3 dr dp) (d_bent F17 m17 B B3 B4 dr (d_odd F16 m16 dr) 6) (d_by_hand F19 m19) (d_otherwise F21 m21 B dr) (d_is_web F9 m9 B6 M (d_is_web_kind F8 m8 B dw dt) (d_is_tie F7 m7 (d_is_tie_kind F6 m6 B6 dw dt))) (d_law_is_web F18 m18 B (d_whole F15 m15 B)))⟩
theorem walk {l : PySem.W.OpenLaw} {q : Program} {loose : List Str} {XP : (Str → Option Value) → Heap → Prop} {YP : World → Heap → Prop} {d : DefRec} {K : Params → PySem.W.Frag} (hn : l.most = some 63) (hdf : d.params.defaults = [])
    (hY : ∀ (w : World) (h : Heap), YP w h → (K w.params).In h)
    (F : ∀ (w : World) (mg : Str → Option Value) (fa : Addr) (h : Heap), (K w.params).In h → h.Ns mainGlobals mg → mg d.name = some (.ref fa) →
      ∃ fd : FuncData, (∀ (s : Shared) (u : Value), BindsTo s fd ⟨[u], []⟩ [("_law_script", u)]) ∧ ∀ base : Heap, (K w.params).In base → base.Ns mainGlobals mg → FnOk l.prog w (K w.params) mg base CX0 20 fa fd ["_law_script"] (spLaw (K w.params))) :
    PySem.W.WalkO q loose XP YP l.row.toRowW d [] (fun f vs => PySem.call f vs) :=
  L2.walk_of (n := 63) (k := 20) (x := "_law_script") (CX := fun _ => CX0) (sp := fun w => spLaw (K w.params)) hn (by decide) hdf ⟨rfl, by decide, by decide, rfl⟩ hY F (fun _ _ a ns hl _ hS => ⟨a, ns, rfl, hS, hl, fun _ => rfl⟩) fun _ _ _ _ _ z => z
end Odj
open PySem PySem.W PyProof.Rows
set_option maxRecDepth 100000 in
set_option maxHeartbeats 0 in
theorem PySem.Challenge.cw_oddjoins_k01_what_is_a_web_holds : PySem.Challenge.rw_oddjoins_k01_what_is_a_web.Holds := by
  w_on; o_law; k_head; (case hw => w_witness2)
  k_fill
  refine Odj.walk (l := PySem.Challenge.rw_oddjoins_k01_what_is_a_web) rfl rfl (fun w h Y => PySem.W.kIn_of Y) ?F
  case F =>
    intro w mg fa h KX G hmg
    refine' Odj.all_mk KX G hmg ?a1 ?l1 ?c1 ?k1 ?a2 ?l2 ?c2 ?k2 ?a6 ?l6 ?c6 ?k6 ?a7 ?l7 ?c7 ?k7 ?a8 ?l8 ?c8 ?k8 ?a9 ?l9 ?c9 ?k9 ?a11 ?l11 ?c11 ?k11 ?a12 ?l12 ?c12 ?k12 ?a13 ?l13 ?c13 ?k13 ?a14 ?l14 ?c14 ?k14 ?a15 ?l15 ?c15 ?k15 ?a16 ?l16 ?c16 ?k16 ?a17 ?l17 ?c17 ?k17 ?a18 ?l18 ?c18 ?k18 ?a19 ?l19 ?c19 ?k19 ?a20 ?l20 ?c20 ?k20 ?a21 ?l21 ?c21 ?k21 ?a22 ?l22 ?c22 ?k22 ?g_MOST_PLACES ?g_MOST_TIES ?z_isinstance ?z_int ?z_bool ?z_tuple ?z_len ?z_range ?z_list ?z_min ?z_max ?z_repr ?z_str ?z_all
    (case a1 => k_is); (case l1 => k_is); (case c1 => k_is); (case k1 => k_is)
    (case a2 => k_is); (case l2 => k_is); (case c2 => k_is); (case k2 => k_is)
    (case a6 => k_is); (case l6 => k_is); (case c6 => k_is); (case k6 => k_is)
    (case a7 => k_is); (case l7 => k_is); (case c7 => k_is); (case k7 => k_is)
    (case a8 => k_is); (case l8 => k_is); (case c8 => k_is); (case k8 => k_is)
    (case a9 => k_is); (case l9 => k_is); (case c9 => k_is); (case k9 => k_is)
    (case a11 => k_is); (case l11 => k_is); (case c11 => k_is); (case k11 => k_is)
    (case a12 => k_is); (case l12 => k_is); (case c12 => k_is); (case k12 => k_is)
    (case a13 => k_is); (case l13 => k_is); (case c13 => k_is); (case k13 => k_is)
    (case a14 => k_is); (case l14 => k_is); (case c14 => k_is); (case k14 => k_is)
    (case a15 => k_is); (case l15 => k_is); (case c15 => k_is); (case k15 => k_is)
    (case a16 => k_is); (case l16 => k_is); (case c16 => k_is); (case k16 => k_is)
    (case a17 => k_is); (case l17 => k_is); (case c17 => k_is); (case k17 => k_is)
    (case a18 => k_is); (case l18 => k_is); (case c18 => k_is); (case k18 => k_is)
    (case a19 => k_is); (case l19 => k_is); (case c19 => k_is); (case k19 => k_is)
    (case a20 => k_is); (case l20 => k_is); (case c20 => k_is); (case k20 => k_is)
    (case a21 => k_is); (case l21 => k_is); (case c21 => k_is); (case k21 => k_is)
    (case a22 => k_is); (case l22 => k_is); (case c22 => k_is); (case k22 => k_is)
    (case g_MOST_PLACES => k_is); (case g_MOST_TIES => k_is); (case z_isinstance => k_is); (case z_int => k_is)
    (case z_bool => k_is); (case z_tuple => k_is); (case z_len => k_is); (case z_range => k_is)
    (case z_list => k_is); (case z_min => k_is); (case z_max => k_is); (case z_repr => k_is)
    (case z_str => k_is); (case z_all => k_is)

