import PyProof.Rows.All
import Wide.All
import OpenK.AllK
import Wide.FinOn
import Lean
import PyProof.EqAt
import PyProof.EqKinds
import PyProof.TupleCall
import KE.KTryMore
import PyProof.P3Statements
import PySem.Challenge.RW_oddjoins_k06_rows_walked
set_option Elab.async false
set_option linter.all false
set_option maxRecDepth 100000
/-! THE HAND LAYER, for ints, bools, texts, own classes, LISTS and tuples (index, slices, in, append, pop ..), calls, loops. Paste it whole ahead of your own text; what your proof does not reach may be deleted. -/
namespace L2
open PySem PySem.Spec PyProof.Rows

/-- a key: an int or a str -/
abbrev Key := Sum Int Str
def keyIs : Key → Value → Bool
  | .inl k, v => Value.isInt k v
  | .inr x, v => Value.isStrOf x v
def keyH (w : World) : Key → Int
  | .inl k => hashInt k
  | .inr x => hashStr w x
theorem keyIs_shape : ∀ {k : Key} {v : Value}, keyIs k v = true → (∃ i t, k = Sum.inl i ∧ v = Value.int i t) ∨ (∃ x t, k = Sum.inr x ∧ v = Value.str x t)
  | .inl i, v, h => by
    obtain ⟨t, e⟩ := Value.isInt_shape (k := i) (v := v) h
    exact .inl ⟨i, t, rfl, e⟩
  | .inr x, v, h => by
    obtain ⟨t, e⟩ := Value.isStrOf_shape (x := x) (v := v) h
    exact .inr ⟨x, t, rfl, e⟩
theorem key_ll (a b : Int) : decide ((Sum.inl a : Key) = Sum.inl b) = (a == b) := by
  by_cases e : a = b
  · subst e; simp
  · have h : ¬ (Sum.inl a : Key) = Sum.inl b := fun q => e (Sum.inl.inj q)
    rw [decide_eq_false h]
    exact (beq_eq_false_iff_ne.mpr e).symm
theorem key_rr (a b : Str) : decide ((Sum.inr a : Key) = Sum.inr b) = decide (a = b) := by
  by_cases e : a = b
  · subst e; simp
  · have h : ¬ (Sum.inr a : Key) = Sum.inr b := fun q => e (Sum.inr.inj q)
    rw [decide_eq_false h, decide_eq_false e]
theorem key_lr (a : Int) (b : Str) : decide ((Sum.inl a : Key) = Sum.inr b) = false := decide_eq_false (fun q => nomatch q)
theorem key_rl (a : Str) (b : Int) : decide ((Sum.inr a : Key) = Sum.inl b) = false := decide_eq_false (fun q => nomatch q)

def mixKind (prog : Program) (w : World) : PySem.KeyKind prog w Key where
  is := keyIs
  hash := keyH w
  inj := fun v a b ha hb => by
    rcases keyIs_shape ha with ⟨i, t, rfl, rfl⟩ | ⟨x, t, rfl, rfl⟩
    · rcases keyIs_shape hb with ⟨j, u, rfl, e⟩ | ⟨y, u, rfl, e⟩
      · injection e with e1 _; rw [e1]
      · exact nomatch e
    · rcases keyIs_shape hb with ⟨j, u, rfl, e⟩ | ⟨y, u, rfl, e⟩
      · exact nomatch e
      · injection e with e1 _; rw [e1]
  byValue := fun k v h => by
    rcases keyIs_shape h with ⟨i, t, rfl, rfl⟩ | ⟨x, t, rfl, rfl⟩ <;> rfl
  pyHash := fun hv h => by
    rcases keyIs_shape hv with ⟨i, t, rfl, rfl⟩ | ⟨x, t, rfl, rfl⟩
    · exact wpAny_pyHash_int h
    · exact wpAny_pyHash_str h
  eqBool := fun hu hv h => by
    rcases keyIs_shape hu with ⟨i, t, rfl, rfl⟩ | ⟨x, t, rfl, rfl⟩
    · rcases keyIs_shape hv with ⟨j, u, rfl, rfl⟩ | ⟨y, u, rfl, rfl⟩
      · rw [key_ll] at h; exact wpAny_eqBool_int h
      · rw [key_lr] at h; exact SeqAt.EqAt.int_str i t y u _ _ _ _ h
    · rcases keyIs_shape hv with ⟨j, u, rfl, rfl⟩ | ⟨y, u, rfl, rfl⟩
      · rw [key_rl] at h; exact SeqAt.EqAt.str_int x t j u _ _ _ _ h
      · rw [key_rr] at h; exact wpAny_eqBool_str h
  «strs» := fun k x t v h => by
    rcases keyIs_shape h with ⟨i, u, rfl, e⟩ | ⟨y, u, rfl, e⟩
    · exact nomatch e
    · injection e with e1 _
      subst e1
      cases v <;> rfl

end L2

namespace L2
open PySem PySem.Spec PyProof.Rows

/-- a value, without the heap -/
inductive V where
  | non | bl (b : Bool) | int (i : Int) | str (x : Str) | byt (b : Array UInt8) | flt (b : UInt64) | ref (a : Addr) | ty (n : String)
  deriving DecidableEq

def RelV : V → Value → Prop
  | .non, u => u = Value.none
  | .bl b, u => u = Value.bool b
  | .int i, u => ∃ t, u = Value.int i t
  | .str x, u => ∃ t, u = Value.str x t
  | .byt b, u => ∃ t, u = Value.bytes b t
  | .flt b, u => ∃ t, u = Value.float b t
  | .ref a, u => u = Value.ref a
  | .ty n, u => u = Value.type n

abbrev Vals : List V → List Value → Prop := Paired RelV
theorem Vals.length {xs : List V} {us : List Value} (r : Vals xs us) : xs.length = us.length := Paired.length r
theorem Vals.get : ∀ {xs : List V} {us : List Value} {i : Nat} {x : V}, Vals xs us → xs[i]? = some x → ∃ u, us[i]? = some u ∧ RelV x u
  | _, _, _, _, .nil, e => by simp at e
  | _, _, 0, _, .cons r _, e => by simp at e; subst e; exact ⟨_, rfl, r⟩
  | _, _, i + 1, x, .cons _ t, e => by
    obtain ⟨u, h1, h2⟩ := Vals.get (i := i) (x := x) t (by simpa using e)
    exact ⟨u, by simpa using h1, h2⟩
theorem Vals.set {x : V} {u : Value} (r : RelV x u) : ∀ {xs : List V} {us : List Value} (i : Nat), Vals xs us → Vals (xs.set i x) (us.set i u)
  | _, _, _, .nil => .nil
  | _, _, 0, .cons _ t => .cons r t
  | _, _, i + 1, .cons q t => .cons q (Vals.set r i t)
theorem Vals.append : ∀ {xs ys : List V} {us ws : List Value}, Vals xs us → Vals ys ws → Vals (xs ++ ys) (us ++ ws)
  | _, _, _, _, .nil, s => s
  | _, _, _, _, .cons r t, s => .cons r (Vals.append t s)
theorem Vals.take : ∀ {xs : List V} {us : List Value} (n : Nat), Vals xs us → Vals (xs.take n) (us.take n)
  | _, _, 0, _ => .nil
  | _, _, _ + 1, .nil => .nil
  | _, _, n + 1, .cons r t => .cons r (Vals.take n t)
theorem Vals.drop : ∀ {xs : List V} {us : List Value} (n : Nat), Vals xs us → Vals (xs.drop n) (us.drop n)
  | _, _, 0, r => r
  | _, _, _ + 1, .nil => .nil
  | _, _, n + 1, .cons _ t => Vals.drop n t
def RelO : Option V → Option Value → Prop
  | some v, some u => RelV v u
  | none, none => True
  | _, _ => False
def KV {κ : Type} : List (κ × V) → List (κ × Value) → Prop := Paired fun (p : κ × V) (q : κ × Value) => p.1 = q.1 ∧ RelV p.2 q.2

/-- a key of a dict (00_mix): an int or a text -/
def kV : Key → V
  | .inl i => .int i
  | .inr x => .str x

/-- what stands at a tracked address -/
inductive HO where
  /-- a list -/
  | lst (xs : List V)
  /-- a tuple (never changes) -/
  | tup (xs : List V)
  /-- a dict whose keys are ints and texts; one whose keys are tuples of ints and texts (the empty one is both) -/
  | dK (kvs : List (Key × V)) | dT (kvs : List (List Key × V))
  /-- a set of ints: its members, its size -/
  | set (S : Int → Bool) (n : Nat)
  /-- an instance of the class at C, its dict at dx, its attributes -/
  | ins (C dx : Addr) (fs : List (Str × V))
  /-- the dict of the instance at x -/
  | own (x : Addr)
  /-- the dict of an exception -/
  | xd (fs : List (Str × V))
  /-- a bound method, f of x -/
  | met (f x : Addr)
  /-- a range object lo, lo + 1, .. below hi -/
  | rng (lo hi : Int)
  /-- a thing that is known to the object (the script; a dict while a loop walks it): read, never written while it is so -/
  | frz (o : Obj) (u : HO)
  /-- a code object's table -/
  | tbl (ps : Array Value)
  /-- any other thing, by what is true of its one object (a def of one's own: SetO a S n := HO.ext fun h => ..) -/
  | ext (φ : Heap → Prop)

abbrev Hp := Addr → Option HO
def upd (H : Hp) (a : Addr) (o : HO) : Hp := fun b => if b = a then some o else H b
theorem upd_same {H : Hp} {a : Addr} {o : HO} : upd H a o a = some o := by unfold upd; rw [if_pos rfl]
theorem upd_ne {H : Hp} {a b : Addr} {o : HO} (h : b ≠ a) : upd H a o b = H b := by unfold upd; rw [if_neg h]
theorem ne_of_none {H : Hp} {a b : Addr} {o : HO} (h : H a = some o) (h' : H b = none) : a ≠ b := by
  intro e; subst e; rw [h] at h'; cases h'

section
variable (P : Program) (w : World)
def TupN (h : Heap) (a : Addr) (items : Array Value) : Prop := ∃ o, h.get? a = some o ∧ o.cls = .type "tuple" ∧ ∃ n, o.data = .seq items n ∧ o.dict = none
omit P w in
theorem TupN.tup {h : Heap} {a : Addr} {items : Array Value} (p : TupN h a items) : IsTup h a items := let ⟨o, e, c, n, d, _⟩ := p; ⟨o, e, c, n, d⟩
omit P w in
theorem TupN.new (h : Heap) (items : Array Value) : TupN (h.push { cls := .type "tuple", data := .seq items }) h.objs.size items := ⟨_, Heap.get?_push_size _ rfl, rfl, _, rfl, rfl⟩
def ObjOk (H : Hp) (h : Heap) (a : Addr) : HO → Prop
  | .lst xs => xs.length ≤ sizeLine ∧ ∃ (its : List Value) (n : Nat), Vals xs its ∧ h.get? a = some { cls := .type "list", data := .seq its.toArray n }
  | .tup xs => xs.length ≤ sizeLine ∧ ∃ its : List Value, Vals xs its ∧ TupN h a its.toArray
  | .dK kvs => kvs.length ≤ sizeLine ∧ (a == sysModules) = false ∧ ∃ vs, KV kvs vs ∧ h.DictOf (mixKind P w) a vs
  | .dT kvs => kvs.length ≤ sizeLine ∧ (a == sysModules) = false ∧ ∃ xs : List (List Key × Addr × Value),
      Paired (fun (p : List Key × V) (q : List Key × Addr × Value) => p.1 = q.1 ∧ H q.2.1 = some (.tup (p.1.map kV)) ∧ RelV p.2 q.2.2) kvs xs ∧
      ∃ o es ep, h.get? a = some o ∧ o.ExactDict ∧ o.data = .dict es ep ∧ es.toList = xs.map (entryOfKey (tupleKind (mixKind P w))) ∧ (xs.map (·.1)).Nodup
  | .set S n => h.SetOf (intKind P w) a S n
  | .ins C dx fs => H dx = some (.own a) ∧ fs.length ≤ 1000 ∧ dx ≠ a ∧ h.get? a = some (PySem.W.instObj C dx) ∧
      ∃ mA, h.Ns1 dx mA ∧ (∀ f, RelO (fs.lookup f) (mA f)) ∧ PySem.Within mA (fs.map (·.1))
  | .own _ => ∃ o, h.get? a = some o
  | .xd fs => ∃ mA, h.Ns1 a mA ∧ ∀ f, RelO (fs.lookup f) (mA f)
  | .rng lo hi => ∃ t u v, h.get? a = some { cls := .type "range", data := .fields #[.int lo t, .int hi u, .int 1 v] }
  | .frz o u => h.get? a = some o ∧ ObjOk H h a u
  | .tbl ps => h.get? a = some { cls := .none, data := .fields ps }
  | .met f x => h.get? a = some (PySem.W.methodObj (.ref f) (.ref x))
  | .ext φ => φ h ∧ (∃ o, h.get? a = some o) ∧ ∀ h1 h2 : Heap, φ h1 → (∀ o, h1.get? a = some o → h2.get? a = some o) → φ h2
/-- the abstract heap is held -/
def HOk (H : Hp) (h : Heap) : Prop := ∀ a o, H a = some o → ObjOk P w H h a o
end

section
variable {P : Program} {w : World} {H H' : Hp} {h h' : Heap} {a : Addr} {o : HO}
theorem ObjOk.lt (x : ObjOk P w H h a o) : a < h.objs.size := by
  cases o with
  | lst xs => obtain ⟨_, _, _, _, e⟩ := x; exact Heap.lt_size e
  | tup xs => obtain ⟨_, _, _, p⟩ := x; exact p.tup.lt
  | dK kvs => obtain ⟨_, _, _, _, o, _, _, e, _⟩ := x; exact Heap.lt_size e
  | dT kvs => obtain ⟨_, _, _, _, o, _, _, e, _⟩ := x; exact Heap.lt_size e
  | set S n => obtain ⟨o, _, _, _, e, _⟩ := x; exact Heap.lt_size e
  | ins C dx fs => obtain ⟨_, _, _, e, _⟩ := x; exact Heap.lt_size e
  | own y => obtain ⟨_, e⟩ := x; exact Heap.lt_size e
  | xd fs => obtain ⟨_, ⟨_, _, _, e, _⟩, _⟩ := x; exact Heap.lt_size e
  | rng lo hi => obtain ⟨_, _, _, e⟩ := x; exact Heap.lt_size e
  | frz ob u => obtain ⟨e, _⟩ := x; exact Heap.lt_size e
  | tbl ps => exact Heap.lt_size (show h.get? a = some _ from x)
  | met f y => exact Heap.lt_size (show h.get? a = some _ from x)
  | ext φ => obtain ⟨_, ⟨_, e⟩, _⟩ := x; exact Heap.lt_size e
theorem Paired.mapP {α β : Type} {F G : α → β → Prop} : ∀ {l₁ : List α} {l₂ : List β}, Paired F l₁ l₂ → (∀ a b, F a b → G a b) → Paired G l₁ l₂
  | _, _, .nil, _ => .nil
  | _, _, .cons r t, f => .cons (f _ _ r) (Paired.mapP t f)
/-- what an object's description leans on: its own object, its own dict, the tuples -/
theorem ObjOk.stay (x : ObjOk P w H h a o) (k : ∀ b u, (b = a ∨ H b = some (.own a)) → h.get? b = some u → h'.get? b = some u)
    (ho : ∀ b, H b = some (.own a) → H' b = some (.own a)) (ht : ∀ b xs, H b = some (.tup xs) → H' b = some (.tup xs)) : ObjOk P w H' h' a o := by
  induction o with
  | lst xs => obtain ⟨z, its, n, r, e⟩ := x; exact ⟨z, its, n, r, k _ _ (.inl rfl) e⟩
  | tup xs => obtain ⟨z, its, r, ob, e, c⟩ := x; exact ⟨z, its, r, ob, k _ _ (.inl rfl) e, c⟩
  | dK kvs => obtain ⟨z, y, vs, r, ob, es, ep, e, c⟩ := x; exact ⟨z, y, vs, r, ob, es, ep, k _ _ (.inl rfl) e, c⟩
  | dT kvs =>
    obtain ⟨z, y, xs, r, ob, es, ep, e, c⟩ := x
    exact ⟨z, y, xs, Paired.mapP r fun p q z => ⟨z.1, ht _ _ z.2.1, z.2.2⟩, ob, es, ep, k _ _ (.inl rfl) e, c⟩
  | set S n => obtain ⟨ob, es, ep, t, e, c⟩ := x; exact ⟨ob, es, ep, t, k _ _ (.inl rfl) e, c⟩
  | ins C dx fs =>
    obtain ⟨d, z, ne, e, mA, ⟨od, es, ep, e2, c⟩, r⟩ := x
    exact ⟨ho _ d, z, ne, k _ _ (.inl rfl) e, mA, ⟨od, es, ep, k _ _ (.inr d) e2, c⟩, r⟩
  | own y => obtain ⟨ob, e⟩ := x; exact ⟨ob, k _ _ (.inl rfl) e⟩
  | xd fs => obtain ⟨mA, ⟨od, es, ep, e, c⟩, r⟩ := x; exact ⟨mA, ⟨od, es, ep, k _ _ (.inl rfl) e, c⟩, r⟩
  | rng lo hi => obtain ⟨t, u, v, e⟩ := x; exact ⟨t, u, v, k _ _ (.inl rfl) e⟩
  | frz ob u ih => obtain ⟨e, q⟩ := x; exact ⟨k _ _ (.inl rfl) e, ih q⟩
  | tbl ps =>
    have e : h.get? a = some { cls := .none, data := .fields ps } := x
    show h'.get? a = some { cls := .none, data := .fields ps }
    exact k a _ (.inl rfl) e
  | met f y =>
    have e : h.get? a = some (PySem.W.methodObj (.ref f) (.ref y)) := x
    show h'.get? a = some (PySem.W.methodObj (.ref f) (.ref y))
    exact k a _ (.inl rfl) e
  | ext φ => obtain ⟨p, ⟨o, e⟩, st⟩ := x; exact ⟨st _ _ p fun o q => k _ _ (.inl rfl) q, ⟨o, k _ _ (.inl rfl) e⟩, st⟩
theorem HOk.lt (x : HOk P w H h) (e : H a = some o) : a < h.objs.size := (x a o e).lt
theorem HOk.fresh (x : HOk P w H h) (e : h.objs.size ≤ a) : H a = none := by
  cases q : H a with
  | none => rfl
  | some u => exact absurd (Nat.lt_of_lt_of_le (x.lt q) e) (Nat.lt_irrefl _)
/-- every object of the heap is kept -/
theorem HOk.kept (x : HOk P w H h) (k : ∀ b u, h.get? b = some u → h'.get? b = some u) : HOk P w H h' := fun a o e =>
  (x a o e).stay (fun b u _ q => k b u q) (fun _ q => q) fun _ _ q => q
/-- a new object is laid and tracked -/
theorem HOk.laid (x : HOk P w H h) (k : ∀ b u, h.get? b = some u → h'.get? b = some u) (hp : h.objs.size ≤ a) (new : ObjOk P w (upd H a o) h' a o) : HOk P w (upd H a o) h' := fun b u e => by
  have hn := x.fresh hp
  by_cases hb : b = a
  · subst hb; rw [upd_same] at e; cases e; exact new
  · rw [upd_ne hb] at e
    exact (x b u e).stay (fun c v _ q => k c v q) (fun c q => by rw [upd_ne (ne_of_none q hn)]; exact q) fun c xs q => by rw [upd_ne (ne_of_none q hn)]; exact q
end

/-- what may be read as u: it is u, or a known u -/
def Rd (H : Hp) (a : Addr) (u : HO) : Prop := H a = some u ∨ ∃ o, H a = some (.frz o u)
theorem Rd.of {H : Hp} {a : Addr} {u : HO} (h : H a = some u) : Rd H a u := .inl h
theorem Rd.ok {P : Program} {w : World} {H : Hp} {h : Heap} {a : Addr} {u : HO} (r : Rd H a u) (x : HOk P w H h) : ObjOk P w H h a u := by
  rcases r with r | ⟨o, r⟩
  · exact x a u r
  · obtain ⟨_, q⟩ := x a _ r
    exact q
/-- what may be written -/
def Mut : Option HO → Prop
  | some (.lst _) => True
  | some (.dK _) => True
  | some (.dT _) => True
  | some (.set _ _) => True
  | some (.ins _ _ _) => True
  | some (.ext _) => True
  | _ => False
section
variable {P : Program} {w : World} {H : Hp} {h h' : Heap} {x e : Addr} {o' : HO}
/-- the object at e is changed: x itself, or the dict of the instance x -/
theorem HOk.write (ok : HOk P w H h) (mu : Mut (H x)) (he : e = x ∨ H e = some (.own x)) (k : ∀ b u, b ≠ e → h.get? b = some u → h'.get? b = some u) (heo : ∃ u, h'.get? e = some u)
    (new : ObjOk P w (upd H x o') h' x o') : HOk P w (upd H x o') h' := fun b u q => by
  have nown : ∀ c y, H c = some (.own y) → c ≠ x := fun c y r z => by subst z; rw [r] at mu; exact mu
  have ntup : ∀ c xs, H c = some (.tup xs) → c ≠ x := fun c xs r z => by subst z; rw [r] at mu; exact mu
  by_cases hb : b = x
  · subst hb; rw [upd_same] at q; cases q; exact new
  · rw [upd_ne hb] at q
    by_cases hbe : b = e
    · have q' : H b = some (.own x) := by
        rcases he with z | z
        · exact absurd (hbe.trans z) hb
        · rw [hbe]; exact z
      rw [q] at q'; cases q'
      obtain ⟨v, hv⟩ := heo
      exact ⟨v, by rw [hbe]; exact hv⟩
    · refine (ok b u q).stay (fun c v hc r => k c v ?_ r) (fun c r => by rw [upd_ne (nown c b r)]; exact r) fun c xs r => by rw [upd_ne (ntup c xs r)]; exact r
      rcases hc with rfl | hc
      · exact hbe
      · rintro rfl
        rcases he with z | z
        · exact nown c b hc z
        · rw [hc] at z; cases z; exact hb rfl
end

/-! ### kept unless tracked; of the frames at fs (the callers') the slots may change (an exception that passes writes there); of the records at ex (iterators) nothing is said -/
structure Un (fs ex : List Addr) (H H' : Hp) (h h' : Heap) : Prop where
  keep : ∀ b o, h.get? b = some o → H b = none → b ∉ fs → b ∉ ex → h'.get? b = some o
  slot : ∀ b o, h.get? b = some o → H b = none → b ∈ fs → b ∉ ex → ∃ sl, h'.get? b = some { o with slots := sl }
  free : ∀ b o, h.get? b = some o → H b = none → b ∉ ex → H' b = none
  there : ∀ b o, h.get? b = some o → b ∉ ex → ∃ o', h'.get? b = some o'
  tups : ∀ b xs, H b = some (.tup xs) → H' b = some (.tup xs)
  frzs : ∀ b o u, H b = some (.frz o u) → H' b = some (.frz o u)
  tbls : ∀ b ps, H b = some (.tbl ps) → ∃ more, H' b = some (.tbl (ps ++ more))
section
variable {fs fs' ex ex' : List Addr} {H H1 H2 : Hp} {h h1 h2 h' : Heap} {a x e : Addr} {o : HO}
theorem Un.any (u : Un fs ex H H1 h h1) {b : Addr} {ob : Obj} (q : h.get? b = some ob) (n : H b = none) (hx : b ∉ ex) : ∃ sl, h1.get? b = some { ob with slots := sl } := by
  by_cases hb : b ∈ fs
  · exact u.slot b ob q n hb hx
  · exact ⟨ob.slots, u.keep b ob q n hb hx⟩
theorem Un.trans (a : Un fs ex H H1 h h1) (b : Un fs ex H1 H2 h1 h2) : Un fs ex H H2 h h2 where
  keep := fun c ob q n hc hx => b.keep c ob (a.keep c ob q n hc hx) (a.free c ob q n hx) hc hx
  slot := fun c ob q n hc hx => by
    obtain ⟨sl, e1⟩ := a.slot c ob q n hc hx
    obtain ⟨sl', e2⟩ := b.slot c _ e1 (a.free c ob q n hx) hc hx
    exact ⟨sl', e2⟩
  free := fun c ob q n hx => by
    obtain ⟨o', e1⟩ := a.there c ob q hx
    exact b.free c o' e1 (a.free c ob q n hx) hx
  there := fun c ob q hx => by
    obtain ⟨o', e1⟩ := a.there c ob q hx
    exact b.there c o' e1 hx
  tups := fun c xs q => b.tups c xs (a.tups c xs q)
  frzs := fun c ob xs q => b.frzs c ob xs (a.frzs c ob xs q)
  tbls := fun c ps q => by
    obtain ⟨m1, e1⟩ := a.tbls c ps q
    obtain ⟨m2, e2⟩ := b.tbls c _ e1
    exact ⟨m1 ++ m2, by rw [e2, Array.append_assoc]⟩
theorem Un.kept (k : ∀ b u, h.get? b = some u → h'.get? b = some u) : Un fs ex H H h h' :=
  ⟨fun b ob q _ _ _ => k b ob q, fun b ob q _ _ _ => ⟨ob.slots, k b ob q⟩, fun _ _ _ n _ => n, fun b ob q _ => ⟨ob, k b ob q⟩, fun _ _ q => q, fun _ _ _ q => q, fun _ ps q => ⟨#[], by rw [q]; simp⟩⟩
theorem Un.refl : Un fs ex H H h h := Un.kept fun _ _ q => q
theorem Un.laid (k : ∀ b u, h.get? b = some u → h'.get? b = some u) (hp : h.objs.size ≤ a) (hn : H a = none) : Un fs ex H (upd H a o) h h' where
  keep := fun b u q _ _ _ => k b u q
  slot := fun b u q _ _ _ => ⟨u.slots, k b u q⟩
  free := fun b u q n _ => by rw [upd_ne (Nat.ne_of_lt (Nat.lt_of_lt_of_le (Heap.lt_size q) hp))]; exact n
  there := fun b u q _ => ⟨u, k b u q⟩
  tups := fun b xs q => by rw [upd_ne (ne_of_none q hn)]; exact q
  frzs := fun b u xs q => by rw [upd_ne (ne_of_none q hn)]; exact q
  tbls := fun b ps q => ⟨#[], by rw [upd_ne (ne_of_none q hn), q]; simp⟩
theorem Un.write (mu : Mut (H x)) (he : e = x ∨ H e = some (.own x)) (k : ∀ b u, b ≠ e → h.get? b = some u → h'.get? b = some u) (heo : ∃ u, h'.get? e = some u) : Un fs ex H (upd H x o) h h' := by
  have hx : ∀ b, H b = none → b ≠ x := fun b n z => by subst z; rw [n] at mu; exact mu
  have hb : ∀ b, H b = none → b ≠ e := fun b n z => by
    subst z
    rcases he with r | r
    · exact hx b n r
    · rw [n] at r; cases r
  have hm : ∀ b u, H b = some u → ¬ Mut (some u) → b ≠ x := fun b u q nm z => by subst z; rw [q] at mu; exact nm mu
  refine ⟨fun b u q n _ _ => k b u (hb b n) q, fun b u q n _ _ => ⟨u.slots, k b u (hb b n) q⟩, fun b u q n _ => by rw [upd_ne (hx b n)]; exact n, fun b u q _ => ?_,
    fun b xs q => by rw [upd_ne (hm b _ q fun z => z)]; exact q, fun b u xs q => by rw [upd_ne (hm b _ q fun z => z)]; exact q, fun b ps q => ⟨#[], by rw [upd_ne (hm b _ q fun z => z), q]; simp⟩⟩
  by_cases hbe : b = e
  · subst hbe; exact heo
  · exact ⟨u, k b u hbe q⟩
theorem Un.mono (u : Un fs ex H H1 h h1) (hs : ∀ b ∈ fs, b ∈ fs') (hx : ∀ b ∈ ex, b ∈ ex') : Un fs' ex' H H1 h h1 :=
  ⟨fun b ob q n hb he => u.keep b ob q n (fun z => hb (hs b z)) fun z => he (hx b z), fun _ _ q n _ he => u.any q n fun z => he (hx _ z), fun b ob q n he => u.free b ob q n fun z => he (hx b z), fun b ob q he => u.there b ob q fun z => he (hx b z), u.tups, u.frzs, u.tbls⟩
end

/-! ### the heap without what is tracked -/
def trk (h : Heap) (H : Hp) : List Addr := (List.range h.objs.size).filter fun a => (H a).isSome
def hidT (h : Heap) (H : Hp) : Heap := PySem.W.hideAll h (trk h H)
theorem hidT_size (h : Heap) (H : Hp) : (hidT h H).objs.size = h.objs.size := PySem.W.hideAll_size _ _
theorem hidT_get {h : Heap} {H : Hp} {b : Addr} {o : Obj} (e : h.get? b = some o) (n : H b = none) : (hidT h H).get? b = some o :=
  PySem.W.hideAll_get _ e fun hm => by
    have q : (H b).isSome = true := (List.mem_filter.mp hm).2
    rw [n] at q; simp at q
theorem of_hidT {h : Heap} {H : Hp} {b : Addr} {o : Obj} (e : (hidT h H).get? b = some o) : h.get? b = some o ∧ H b = none := by
  have e' : h.get? b = some o := PySem.W.of_hideAll (trk h H) e
  refine ⟨e', ?_⟩
  cases q : H b with
  | none => rfl
  | some x =>
    have hm : b ∈ trk h H := List.mem_filter.mpr ⟨List.mem_range.mpr (Heap.lt_size e'), by simp [q]⟩
    have z : (hidT h H).get? b = none := PySem.W.hideAll_none (trk h H) hm
    rw [z] at e; cases e

/-! ### OpenK's ledger, filled with every new object but one -/
def allNews (g h : Heap) (L : Addr) : List (Addr × Obj) := (List.range h.objs.size).filterMap fun a => if a = L ∨ (g.get? a).isSome = true then none else (h.get? a).map fun o => (a, o)
def rest (g h : Heap) (L d : Addr) : List (Addr × Obj) := (allNews g h L).filter fun p => decide (p.1 ≠ d)
end L2

namespace L2
open PySem PySem.Spec PyProof.Rows

/-- the module's facts, over the base: the heap at the law's entry without what is tracked there -/
structure Mod (K : PySem.W.Frag) (mg : Str → Option Value) (base : Heap) : Prop where
  kin : K.In base
  glob : base.Ns mainGlobals mg
  blt : ∃ mb, base.Ns builtinsNs mb ∧ ∀ x : Str, x ≠ "__name__" → mb x = bootBuiltins x
  nolimit : base.NoLimit

/-- the context: a def's body (or a comprehension's block) running. base: fixed through the whole law; s₀, H₀: the entry; outer: the frames whose slots others may change (a def's callers); stack: all frames that run;
   ex: iterators that were made ahead of the entry and are walked here (a comprehension's); fn: the names whose cells were made at the entry (a def: all; a comprehension's block: its own); calm: not within an except suite; pn: pins that every state bears; xe: what is wanted of an exception that leaves the code -/
structure Cx where
  prog : Program
  w : World
  K : PySem.W.Frag
  mg : Str → Option Value
  base : Heap
  A : Around
  N : List Str
  s₀ : Shared
  H₀ : Hp
  env : Env
  outer : List Env
  stack : List Env
  ex : List Addr
  fn : Str → Bool
  calm : Bool
  pn : List (Addr × Obj)
  xe : Value → Shared → Prop
/-- the callers' frames -/
def frs (l : List Env) : List Addr := l.filterMap (·.frame)
abbrev Cx.fs (X : Cx) : List Addr := frs X.outer

def Vis (sc : Scope) (x : Str) : Prop := sc.names.lookup x = some .local ∨ sc.names.lookup x = some .cell ∨ sc.names.lookup x = some .free
def Loc (sc : Scope) (x : Str) : Prop := sc.names.lookup x = some .local ∨ sc.names.lookup x = some .cell
def Look (env : Env) (h : Heap) (m : Str → Option Value) (x : Str) (u : Value) : Prop :=
  (env.kindOf x = some .local ∧ m x = some u) ∨ ((env.kindOf x = some .cell ∨ env.kindOf x = some .free) ∧ ∃ c, env.cells.lookup x = some c ∧ h.IsCell c (some u))

structure Cx.Ok (X : Cx) : Prop where
  mod : Mod X.K X.mg X.base
  kind : X.env.scope.kind = .function
  glob : X.env.globals = mainGlobals
  blt : X.env.builtins = builtinsNs
  above : X.s₀.heap.objs.size ≤ X.env.locals
  inj : ∀ x y c, X.env.cells.lookup x = some c → X.env.cells.lookup y = some c → x = y
  has : ∀ x, (X.env.kindOf x = some .cell ∨ X.env.kindOf x = some .free) → ∃ c, X.env.cells.lookup x = some c
  cab : ∀ x c, X.fn x = true → X.env.cells.lookup x = some c → X.s₀.heap.objs.size ≤ c
  hd : X.calm = true → X.A.handled = none
  frames : X.A.frames = some X.stack
  stk : X.stack = X.outer ∨ (X.stack = X.env :: X.outer ∧ X.env.frame = some X.env.locals)
  exf : ∀ b ∈ X.ex, b ≠ X.env.locals ∧ ∀ x c, X.env.cells.lookup x = some c → c ≠ b
  bs : ∀ b o, X.base.get? b = some o → X.s₀.heap.get? b = some o ∧ X.H₀ b = none
  bsz : X.base.objs.size ≤ X.s₀.heap.objs.size
  noex : ∀ b o, X.base.get? b = some o → b ∉ X.ex
  exfs : ∀ b ∈ X.ex, b ∉ X.fs
  funs : X.s₀.heap.FunFrames X.base X.outer
  frf : ∀ b ∈ X.fs, X.H₀ b = none

structure Inv (X : Cx) (pins : List (Addr × Obj)) (σ : List (Option V)) (H : Hp) (s : Shared) : Prop where
  ok : X.Ok
  os : s.os = X.s₀.os
  bare : AllBare s.gens
  base : Un X.fs X.ex X.H₀ H X.s₀.heap s.heap
  loc : ∃ m, s.heap.Ns X.env.locals m ∧ ∀ (i : Nat) (x : Str) (v : V), X.N[i]? = some x → σ[i]? = some (some v) → Vis X.env.scope x → ∃ u, RelV v u ∧ Look X.env s.heap m x u
  cell : ∀ x c, X.env.cells.lookup x = some c → ∃ v, s.heap.IsCell c v
  free : H X.env.locals = none
  freeC : ∀ x c, X.env.cells.lookup x = some c → H c = none
  pin : ∀ p ∈ X.pn ++ pins, s.heap.get? p.1 = some p.2 ∧ H p.1 = none ∧ p.1 ≠ X.env.locals ∧ p.1 ∉ X.fs ∧ ∀ v, p.2.data ≠ .cell v
  hok : HOk X.prog X.w H s.heap
  len : σ.length = X.N.length

section
variable {X : Cx} {pins : List (Addr × Obj)} {σ : List (Option V)} {H H' : Hp} {s : Shared} {h' : Heap}

theorem Cx.Ok.nofr (ok : X.Ok) {b : Addr} {o : Obj} (e : X.base.get? b = some o) : b ∉ X.fs := fun hb => by
  have := (ok.funs.mem hb).1
  rw [e] at this; cases this
theorem Inv.bs (I : Inv X pins σ H s) : ∀ b o, X.base.get? b = some o → s.heap.get? b = some o ∧ H b = none := fun b o e =>
  ⟨I.base.keep b o (I.ok.bs b o e).1 (I.ok.bs b o e).2 (I.ok.nofr e) (I.ok.noex b o e), I.base.free b o (I.ok.bs b o e).1 (I.ok.bs b o e).2 (I.ok.noex b o e)⟩
theorem Inv.bk (I : Inv X pins σ H s) : ∀ b o, X.base.get? b = some o → s.heap.get? b = some o := fun b o e => (I.bs b o e).1
theorem Inv.mod (I : Inv X pins σ H s) : Mod X.K X.mg X.base := I.ok.mod
theorem Inv.kIn (I : Inv X pins σ H s) : X.K.In s.heap := I.ok.mod.kin.keeps I.bk
theorem Inv.nolimit (I : Inv X pins σ H s) : s.heap.NoLimit := I.ok.mod.nolimit.keeps I.bk
theorem Inv.lt (I : Inv X pins σ H s) : X.env.locals < s.heap.objs.size := let ⟨_, hn, _⟩ := I.loc; hn.lt
theorem Inv.sz (I : Inv X pins σ H s) : X.s₀.heap.objs.size ≤ s.heap.objs.size := Nat.le_trans I.ok.above (Nat.le_of_lt I.lt)
theorem Inv.nofs (I : Inv X pins σ H s) {a : Addr} (h : s.heap.objs.size ≤ a) : a ∉ X.fs := fun hb => by
  obtain ⟨_, o, ho, _⟩ := I.ok.funs.mem hb
  exact absurd (Nat.lt_of_lt_of_le (Heap.lt_size ho) (Nat.le_trans I.sz h)) (Nat.lt_irrefl _)
theorem Inv.cne (I : Inv X pins σ H s) : ∀ x c, X.env.cells.lookup x = some c → c ≠ X.env.locals := fun x c e z => by
  obtain ⟨v, o, ho, hd⟩ := I.cell x c e
  obtain ⟨m, ⟨o', es, ep, ho', hd', _⟩, _⟩ := I.loc
  rw [z, ho'] at ho; cases ho; rw [hd'] at hd; cases hd
theorem Inv.funs (I : Inv X pins σ H s) : s.heap.FunFrames X.base X.outer := by
  have all : ∀ (l : List Env), (∀ b ∈ frs l, b ∈ X.fs) → X.s₀.heap.FunFrames X.base l → s.heap.FunFrames X.base l := by
    intro l
    induction l with
    | nil => intro _ _; trivial
    | cons env r ih =>
      intro hs hl
      obtain ⟨hk, ⟨L, o, hf, hn, ho, hd⟩, hr⟩ := hl
      have hL : L ∈ X.fs := hs L (by unfold frs; rw [List.filterMap_cons, hf]; exact List.mem_cons_self)
      obtain ⟨sl, e⟩ := I.base.slot L o ho (I.ok.frf L hL) hL fun z => I.ok.exfs L z hL
      exact ⟨hk, ⟨L, _, hf, hn, e, hd⟩, ih (fun b hb => hs b (by unfold frs; rw [List.filterMap_cons, hf]; exact List.mem_cons_of_mem _ hb)) hr⟩
  exact all X.outer (fun _ hb => hb) I.ok.funs

/-- the frames that run, for a call -/
theorem Inv.stack (I : Inv X pins σ H s) : s.heap.FunFrames X.base X.stack := by
  rcases I.ok.stk with e | ⟨e, hf⟩
  · rw [e]; exact I.funs
  · rw [e]
    obtain ⟨m, hn, _⟩ := I.loc
    refine .cons (by rw [I.ok.kind]; decide) hf hn ?_ I.funs
    exact Heap.get?_none_of_le (Nat.le_trans I.ok.bsz I.ok.above)
theorem Inv.stkSub (I : Inv X pins σ H s) : ∀ b ∈ frs X.stack, b ∈ X.env.locals :: X.fs := fun b hb => by
  rcases I.ok.stk with e | ⟨e, hf⟩
  · rw [e] at hb; exact List.mem_cons_of_mem _ hb
  · rw [e] at hb
    unfold frs at hb
    rw [List.filterMap_cons, hf] at hb
    exact hb
theorem Inv.stkFree (I : Inv X pins σ H s) : ∀ b ∈ frs X.stack, H b = none := fun b hb => by
  rcases List.mem_cons.mp (I.stkSub b hb) with e | hb
  · rw [e]; exact I.free
  · obtain ⟨_, o, ho, _⟩ := I.ok.funs.mem hb
    exact I.base.free b o ho (I.ok.frf b hb) fun z => I.ok.exfs b z hb

/-- THE STEP: the untracked objects but the frame and the records at ch are kept (the callers' frames up to slots), the frame's map is kept, the new abstract heap is held -/
theorem Inv.step {g' : Array GenState} {t' : Nat} {d' : Drawn} {ch : List Addr} (I : Inv X pins σ H s)
    (hch : ∀ b ∈ ch, (b ∈ X.ex ∨ X.s₀.heap.objs.size ≤ b) ∧ b ≠ X.env.locals ∧ (∀ x c, X.env.cells.lookup x = some c → c ≠ b) ∧ ∀ p ∈ X.pn ++ pins, p.1 ≠ b)
    (keep : ∀ b o, b ≠ X.env.locals → b ∉ X.fs → b ∉ ch → s.heap.get? b = some o → H b = none → h'.get? b = some o)
    (slot : ∀ b o, b ≠ X.env.locals → b ∈ X.fs → b ∉ ch → s.heap.get? b = some o → H b = none → ∃ sl, h'.get? b = some { o with slots := sl }) (free : ∀ b o, b ∉ ch → s.heap.get? b = some o → H b = none → H' b = none)
    (there : ∀ b o, b ∉ ch → s.heap.get? b = some o → ∃ o', h'.get? b = some o')
    (tups : ∀ b xs, H b = some (.tup xs) → H' b = some (.tup xs)) (frzs : ∀ b o u, H b = some (.frz o u) → H' b = some (.frz o u)) (tbls : ∀ b ps, H b = some (.tbl ps) → ∃ more, H' b = some (.tbl (ps ++ more)))
    (ns : ∀ m, s.heap.Ns X.env.locals m → h'.Ns X.env.locals m) (hok : HOk X.prog X.w H' h') (hg : AllBare g') :
    Inv X pins σ H' { s with heap := h', gens := g', drawn := d', toks := t' } := by
  have neL : ∀ b o, X.s₀.heap.get? b = some o → b ≠ X.env.locals := fun b o e => Nat.ne_of_lt (Nat.lt_of_lt_of_le (Heap.lt_size e) I.ok.above)
  have neC : ∀ b o, X.s₀.heap.get? b = some o → b ∉ X.ex → b ∉ ch := fun b o e hx hb => by
    rcases (hch b hb).1 with z | z
    · exact hx z
    · exact absurd (Nat.lt_of_lt_of_le (Heap.lt_size e) z) (Nat.lt_irrefl _)
  have cellK : ∀ x c, X.env.cells.lookup x = some c → ∀ v, s.heap.IsCell c v → h'.IsCell c v := fun x c e v ⟨o, ho, hd⟩ => by
    have nch : c ∉ ch := fun z => (hch c z).2.2.1 x c e rfl
    by_cases hc : c ∈ X.fs
    · obtain ⟨sl, q⟩ := slot c o (I.cne x c e) hc nch ho (I.freeC x c e)
      exact ⟨_, q, hd⟩
    · exact ⟨o, keep c o (I.cne x c e) hc nch ho (I.freeC x c e), hd⟩
  refine ⟨I.ok, I.os, hg, ⟨fun b o e n hb hx => ?_, fun b o e n hb hx => ?_, fun b o e n hx => ?_, fun b o e hx => ?_, fun b xs e => tups b xs (I.base.tups b xs e), fun b o xs e => frzs b o xs (I.base.frzs b o xs e), fun b ps e => ?_⟩, ?_, fun x c e => ?_, ?_, fun x c e => ?_, fun p hp => ?_, hok, I.len⟩
  · exact keep b o (neL b o e) hb (neC b o e hx) (I.base.keep b o e n hb hx) (I.base.free b o e n hx)
  · obtain ⟨sl, e1⟩ := I.base.slot b o e n hb hx
    obtain ⟨sl', e2⟩ := slot b _ (neL b o e) hb (neC b o e hx) e1 (I.base.free b o e n hx)
    exact ⟨sl', e2⟩
  · obtain ⟨o', e1⟩ := I.base.there b o e hx
    exact free b o' (neC b o e hx) e1 (I.base.free b o e n hx)
  · obtain ⟨o', e1⟩ := I.base.there b o e hx
    exact there b o' (neC b o e hx) e1
  · obtain ⟨m1, e1⟩ := I.base.tbls b ps e
    obtain ⟨m2, e2⟩ := tbls b _ e1
    exact ⟨m1 ++ m2, by rw [e2, Array.append_assoc]⟩
  · obtain ⟨m, hn, hl⟩ := I.loc
    refine ⟨m, ns m hn, fun i x v e1 e2 e3 => ?_⟩
    obtain ⟨u, r, l⟩ := hl i x v e1 e2 e3
    refine ⟨u, r, ?_⟩
    rcases l with l | ⟨k, c, e, z⟩
    · exact .inl l
    · exact .inr ⟨k, c, e, cellK x c e _ z⟩
  · obtain ⟨v, z⟩ := I.cell x c e
    exact ⟨v, cellK x c e v z⟩
  · obtain ⟨m, ⟨o, _, _, ho, _⟩, _⟩ := I.loc
    exact free _ o (fun z => (hch _ z).2.1 rfl) ho I.free
  · obtain ⟨v, o, ho, hd⟩ := I.cell x c e
    exact free c o (fun z => (hch c z).2.2.1 x c e rfl) ho (I.freeC x c e)
  · obtain ⟨e, n, ne, nf, d⟩ := I.pin p hp
    have nch : p.1 ∉ ch := fun z => (hch p.1 z).2.2.2 p hp rfl
    exact ⟨keep p.1 p.2 ne nf nch e n, free p.1 p.2 nch e n, ne, nf, d⟩
/-- .. where the frame's own object is kept too -/
theorem Inv.un {t' : Nat} (I : Inv X pins σ H s) (u : Un X.fs [] H H' s.heap h') (hok : HOk X.prog X.w H' h') : Inv X pins σ H' { s with heap := h', toks := t' } := by
  obtain ⟨m, ⟨o, es, ep, ho, r⟩, _⟩ := id I.loc
  obtain ⟨sl, hL⟩ := u.any ho I.free (by simp)
  exact I.step (g' := s.gens) (d' := s.drawn) (ch := []) (fun _ z => nomatch z) (fun b o _ hb _ e n => u.keep b o e n hb (by simp)) (fun b o _ hb _ e n => u.slot b o e n hb (by simp)) (fun b o _ e n => u.free b o e n (by simp)) (fun b o _ e => u.there b o e (by simp)) u.tups u.frzs u.tbls (fun m' hm => by
    obtain ⟨o', es', ep', ho', r'⟩ := hm
    rw [ho] at ho'; cases ho'
    exact ⟨_, es', ep', hL, r'⟩) hok I.bare
/-- behind a call (or a comprehension's block): the slots of this frame may have changed too, the records at ch may have turned -/
theorem Inv.call {g' : Array GenState} {t' : Nat} {d' : Drawn} {ch : List Addr} (I : Inv X pins σ H s) (u : Un (frs X.stack) ch H H' s.heap h') (hok : HOk X.prog X.w H' h') (hg : AllBare g')
    (hch : ∀ b ∈ ch, (b ∈ X.ex ∨ X.s₀.heap.objs.size ≤ b) ∧ b ≠ X.env.locals ∧ (∀ x c, X.env.cells.lookup x = some c → c ≠ b) ∧ ∀ p ∈ X.pn ++ pins, p.1 ≠ b) :
    Inv X pins σ H' { s with heap := h', gens := g', drawn := d', toks := t' } := by
  obtain ⟨m, ⟨o, es, ep, ho, r⟩, _⟩ := id I.loc
  obtain ⟨sl, hL⟩ := u.any ho I.free fun z => (hch _ z).2.1 rfl
  exact I.step (ch := ch) hch (fun b o hL hb hc e n => u.keep b o e n (fun z => (List.mem_cons.mp (I.stkSub b z)).elim hL hb) hc) (fun b o _ _ hc e n => u.any e n hc) (fun b o hc e n => u.free b o e n hc) (fun b o hc e => u.there b o e hc) u.tups u.frzs u.tbls (fun m' hm => by
    obtain ⟨o', es', ep', ho', r'⟩ := hm
    rw [ho] at ho'; cases ho'
    exact ⟨_, es', ep', hL, r'⟩) hok hg
/-- an untracked record of ours (an iterator) has turned -/
theorem Inv.turned {t' : Nat} {it : Addr} (I : Inv X pins σ H s) (k : ∀ b o, b ≠ it → s.heap.get? b = some o → h'.get? b = some o) (hn : H it = none) (hL : it ≠ X.env.locals)
    (h1 : it ∈ X.ex ∨ X.s₀.heap.objs.size ≤ it) (h2 : ∀ x c, X.env.cells.lookup x = some c → c ≠ it) (h3 : ∀ p ∈ X.pn ++ pins, p.1 ≠ it) : Inv X pins σ H { s with heap := h', toks := t' } := by
  have nit : ∀ b u, H b = some u → b ≠ it := fun b u e z => by rw [z, hn] at e; cases e
  refine I.step (g' := s.gens) (d' := s.drawn) (ch := [it]) (fun b hb => ?_) (fun b o _ _ hc e _ => k b o (fun z => hc (by simp [z])) e) (fun b o _ _ hc e _ => ⟨o.slots, k b o (fun z => hc (by simp [z])) e⟩) (fun _ _ _ _ n => n)
    (fun b o hc e => ⟨o, k b o (fun z => hc (by simp [z])) e⟩) (fun _ _ e => e) (fun _ _ _ e => e) (fun b ps e => ⟨#[], by rw [e]; simp⟩) (fun m hm => ?_) (fun b u e => ?_) I.bare
  · have e : b = it := by simpa using hb
    subst e
    exact ⟨h1, hL, h2, h3⟩
  · obtain ⟨o, es, ep, ho, r⟩ := hm
    exact ⟨o, es, ep, k _ o (Ne.symm hL) ho, r⟩
  · refine (I.hok b u e).stay (fun c v hc q => k c v ?_ q) (fun _ q => q) fun _ _ q => q
    rcases hc with z | z
    · rw [z]; exact nit b u e
    · exact nit c _ z
theorem Inv.tok (I : Inv X pins σ H s) (t : Nat) : Inv X pins σ H { s with toks := t } := I.un (h' := s.heap) (t' := t) Un.refl I.hok
/-- all objects kept -/
theorem Inv.kept {t' : Nat} (I : Inv X pins σ H s) (k : ∀ b u, s.heap.get? b = some u → h'.get? b = some u) : Inv X pins σ H { s with heap := h', toks := t' } := I.un (Un.kept k) (I.hok.kept k)
/-- a new object laid and tracked -/
theorem Inv.laid {a : Addr} {o : HO} {t' : Nat} (I : Inv X pins σ H s) (k : ∀ b u, s.heap.get? b = some u → h'.get? b = some u) (hp : s.heap.objs.size ≤ a) (new : ObjOk X.prog X.w (upd H a o) h' a o) :
    Inv X pins σ (upd H a o) { s with heap := h', toks := t' } := I.un (Un.laid k hp (I.hok.fresh hp)) (I.hok.laid k hp new)
/-- an object written -/
theorem Inv.write {x e : Addr} {o : HO} {t' : Nat} (I : Inv X pins σ H s) (mu : Mut (H x)) (he : e = x ∨ H e = some (.own x)) (k : ∀ b u, b ≠ e → s.heap.get? b = some u → h'.get? b = some u) (heo : ∃ u, h'.get? e = some u)
    (new : ObjOk X.prog X.w (upd H x o) h' x o) : Inv X pins σ (upd H x o) { s with heap := h', toks := t' } := I.un (Un.write mu he k heo) (I.hok.write mu he k heo new)
theorem Inv.pins_of {pins' : List (Addr × Obj)} (I : Inv X pins σ H s) (h : ∀ p ∈ pins', s.heap.get? p.1 = some p.2 ∧ H p.1 = none ∧ p.1 ≠ X.env.locals ∧ p.1 ∉ X.fs ∧ ∀ v, p.2.data ≠ .cell v) : Inv X pins' σ H s :=
  ⟨I.ok, I.os, I.bare, I.base, I.loc, I.cell, I.free, I.freeC, fun p hp => (List.mem_append.mp hp).elim (fun z => I.pin p (List.mem_append_left _ z)) (h p), I.hok, I.len⟩

theorem nodup_ix {N : List Str} (hN : N.Nodup) {i j : Nat} {x : Str} (a : N[i]? = some x) (b : N[j]? = some x) : i = j := by
  obtain ⟨h1, e1⟩ := List.getElem?_eq_some_iff.mp a
  obtain ⟨h2, e2⟩ := List.getElem?_eq_some_iff.mp b
  exact (List.getElem_inj hN).mp (e1.trans e2.symm)

/-- a name is stored; what changed -/
theorem store_ok2 {M : Model} {A : Around} {E : Value → Shared → Prop} {i : Nat} {x : Str} {v : V} {u : Value} {Q : Unit → Shared → Prop} (I : Inv X pins σ H s) (hN : X.N.Nodup) (hi : X.N[i]? = some x) (hx : Loc X.env.scope x) (r : RelV v u)
    (h : ∀ s', Inv X pins (σ.set i (some v)) H s' → (∃ a, Heap.SameBut a s.heap s'.heap ∧ (a = X.env.locals ∨ X.env.cells.lookup x = some a)) → Q () s') (hf : X.fn x = true ∨ X.env.scope.names.lookup x = some .local := by first | exact .inl rfl | exact .inr rfl | assumption) : wpAny M A (storeName X.env x u) Q E s := by
  obtain ⟨m, hn, hl⟩ := id I.loc
  have hcls : (X.env.scope.kind == .class || (X.env.scope.kind == .module && X.env.locals != X.env.globals)) = false := by rw [I.ok.kind]; rfl
  have hiσ : i < σ.length := by rw [I.len]; exact (List.getElem?_eq_some_iff.mp hi).1
  have cne := I.cne
  have tracked : ∀ {a : Addr} {h' : Heap}, (∃ o, s.heap.get? a = some o ∧ H a = none) → Heap.SameBut a s.heap h' → HOk X.prog X.w H h' := fun {a h'} ha hs b ob e => by
    obtain ⟨_, _, hfree⟩ := ha
    refine (I.hok b ob e).stay (fun c w' hc q => (hs.2 c ?_).trans q) (fun _ q => q) fun _ _ q => q
    rintro rfl
    rcases hc with rfl | hc
    · rw [hfree] at e; cases e
    · rw [hfree] at hc; cases hc
  rcases hx with hk | hk
  · refine wpAny_storeName_local hk hn (fun h' hn' hs => ?_) hcls
    obtain ⟨oL, _, _, hoL, _⟩ := id hn
    refine h _ ⟨I.ok, I.os, I.bare, ⟨fun b o e n hb hx => ?_, fun b o e n hb hx => ?_, I.base.free, fun b o e hx => ?_, I.base.tups, I.base.frzs, I.base.tbls⟩, ⟨_, hn', fun j y v' e1 e2 e3 => ?_⟩, fun y c e => ?_, I.free, I.freeC, fun p hp => ?_, tracked ⟨oL, hoL, I.free⟩ hs, by simpa using I.len⟩ ⟨_, hs, .inl rfl⟩
    · exact (hs.2 b (Nat.ne_of_lt (Nat.lt_of_lt_of_le (Heap.lt_size e) I.ok.above))).trans (I.base.keep b o e n hb hx)
    · obtain ⟨sl, e1⟩ := I.base.slot b o e n hb hx
      exact ⟨sl, (hs.2 b (Nat.ne_of_lt (Nat.lt_of_lt_of_le (Heap.lt_size e) I.ok.above))).trans e1⟩
    · obtain ⟨o', e1⟩ := I.base.there b o e hx
      exact ⟨o', (hs.2 b (Nat.ne_of_lt (Nat.lt_of_lt_of_le (Heap.lt_size e) I.ok.above))).trans e1⟩
    · by_cases hj : j = i
      · subst hj
        rw [hi] at e1; cases e1
        rw [List.getElem?_set_self hiσ] at e2
        cases e2
        exact ⟨u, r, .inl ⟨hk, by simp⟩⟩
      · rw [List.getElem?_set_ne (Ne.symm hj)] at e2
        obtain ⟨u', r', q⟩ := hl j y v' e1 e2 e3
        refine ⟨u', r', ?_⟩
        rcases q with ⟨k, e⟩ | ⟨k, c, e, z⟩
        · refine .inl ⟨k, ?_⟩
          have : y ≠ x := fun e => hj (nodup_ix hN e1 (e ▸ hi))
          simp [this, e]
        · exact .inr ⟨k, c, e, z.sameBut hs (cne y c e)⟩
    · obtain ⟨w', z⟩ := I.cell y c e
      exact ⟨w', z.sameBut hs (cne y c e)⟩
    · obtain ⟨e, n, ne, nf, d⟩ := I.pin p hp
      exact ⟨(hs.2 p.1 ne).trans e, n, ne, nf, d⟩
  · have hfn : X.fn x = true := by
      rcases hf with z | z
      · exact z
      · rw [z] at hk; cases hk
    obtain ⟨c, hc⟩ := I.ok.has x (.inl hk)
    obtain ⟨w', z⟩ := I.cell x c hc
    refine wpAny_storeName_cell I.ok.kind hk hc z (fun h' hc' hs => ?_)
    obtain ⟨oc, hoc, hocd⟩ := id z
    refine h { s with heap := h' } ⟨I.ok, I.os, I.bare, ⟨fun b o e n hb hx => ?_, fun b o e n hb hx => ?_, I.base.free, fun b o e hx => ?_, I.base.tups, I.base.frzs, I.base.tbls⟩, ⟨m, hn.sameBut hs (Ne.symm (cne x c hc)), fun j y v' e1 e2 e3 => ?_⟩, fun y c' e => ?_, I.free, I.freeC, fun p hp => ?_, tracked ⟨oc, hoc, I.freeC x c hc⟩ hs, by simpa using I.len⟩ ⟨c, hs, .inr hc⟩
    · exact (hs.2 b (Nat.ne_of_lt (Nat.lt_of_lt_of_le (Heap.lt_size e) (I.ok.cab x c hfn hc)))).trans (I.base.keep b o e n hb hx)
    · obtain ⟨sl, e1⟩ := I.base.slot b o e n hb hx
      exact ⟨sl, (hs.2 b (Nat.ne_of_lt (Nat.lt_of_lt_of_le (Heap.lt_size e) (I.ok.cab x c hfn hc)))).trans e1⟩
    · obtain ⟨o', e1⟩ := I.base.there b o e hx
      exact ⟨o', (hs.2 b (Nat.ne_of_lt (Nat.lt_of_lt_of_le (Heap.lt_size e) (I.ok.cab x c hfn hc)))).trans e1⟩
    · by_cases hj : j = i
      · subst hj
        rw [hi] at e1; cases e1
        rw [List.getElem?_set_self hiσ] at e2
        cases e2
        exact ⟨u, r, .inr ⟨.inl hk, c, hc, hc'⟩⟩
      · rw [List.getElem?_set_ne (Ne.symm hj)] at e2
        obtain ⟨u', r', q⟩ := hl j y v' e1 e2 e3
        refine ⟨u', r', ?_⟩
        rcases q with q | ⟨k, c', e, z'⟩
        · exact .inl q
        · refine .inr ⟨k, c', e, z'.sameBut hs ?_⟩
          rintro rfl
          exact hj (nodup_ix hN e1 (I.ok.inj _ _ _ e hc ▸ hi))
    · by_cases hcc : c' = c
      · subst hcc; exact ⟨_, hc'⟩
      · obtain ⟨w2, z2⟩ := I.cell y c' e
        exact ⟨w2, z2.sameBut hs hcc⟩
    · obtain ⟨e, n, ne, nf, d⟩ := I.pin p hp
      refine ⟨(hs.2 p.1 ?_).trans e, n, ne, nf, d⟩
      intro q
      rw [q, hoc] at e
      have q' : oc = p.2 := Option.some.inj e
      exact d w' (by rw [← q']; exact hocd)
theorem store_ok {M : Model} {A : Around} {E : Value → Shared → Prop} {i : Nat} {x : Str} {v : V} {u : Value} {Q : Unit → Shared → Prop} (I : Inv X pins σ H s) (hN : X.N.Nodup) (hi : X.N[i]? = some x) (hx : Loc X.env.scope x) (r : RelV v u)
    (h : ∀ s', Inv X pins (σ.set i (some v)) H s' → Q () s') (hf : X.fn x = true ∨ X.env.scope.names.lookup x = some .local := by first | exact .inl rfl | exact .inr rfl | assumption) : wpAny M A (storeName X.env x u) Q E s :=
  store_ok2 I hN hi hx r (fun s' I' _ => h s' I') hf
/-- behind a call or a block, the state as it is -/
theorem Inv.call' {s' : Shared} {ch : List Addr} (I : Inv X pins σ H s) (ho : s'.os = s.os) (u : Un (frs X.stack) ch H H' s.heap s'.heap) (hok : HOk X.prog X.w H' s'.heap) (hg : AllBare s'.gens)
    (hch : ∀ b ∈ ch, (b ∈ X.ex ∨ X.s₀.heap.objs.size ≤ b) ∧ b ≠ X.env.locals ∧ (∀ x c, X.env.cells.lookup x = some c → c ≠ b) ∧ ∀ p ∈ X.pn ++ pins, p.1 ≠ b) : Inv X pins σ H' s' := by
  obtain ⟨h', g', d', t', o'⟩ := s'
  have e : o' = s.os := ho
  subst e
  exact I.call (g' := g') (t' := t') (d' := d') u hok hg hch
end

/-! ### the judgements -/
/-- an exception: its class, its own dict's address (where it has one), the abstract heap behind it -/
abbrev XK := Value → Option Addr → Hp → Prop
abbrev St := List (Option V)
abbrev VK := V → Hp → Prop
/-- an expression's reading; a test's; an argument list's -/
abbrev TE := St → Hp → VK → Prop
abbrev TT := St → Hp → (Bool → Hp → Prop) → Prop
abbrev TA := St → Hp → (List V → Hp → Prop) → Prop
/-- what is wanted behind a statement -/
structure Ends where
  nx : St → Hp → Prop
  rt : VK
  bk : St → Hp → Prop := fun _ _ => False
  ct : St → Hp → Prop := fun _ _ => False
abbrev TS := Ends → St → Hp → Prop

def EP (X : Cx) (pins : List (Addr × Obj)) (σ : St) (Q : VK) (u : Value) (s' : Shared) : Prop := ∃ v H', Inv X pins σ H' s' ∧ RelV v u ∧ Q v H'
def TP (X : Cx) (pins : List (Addr × Obj)) (σ : St) (Q : Bool → Hp → Prop) (b : Bool) (s' : Shared) : Prop := ∃ H', Inv X pins σ H' s' ∧ Q b H'
def AP (X : Cx) (pins : List (Addr × Obj)) (σ : St) (Q : List V → Hp → Prop) (us : List Value) (s' : Shared) : Prop := ∃ vs H', Inv X pins σ H' s' ∧ Vals vs us ∧ Q vs H'
def SP (X : Cx) (pins : List (Addr × Obj)) (D : Ends) (f : Flow) (s' : Shared) : Prop :=
  match f with
  | .next => ∃ σ' H', Inv X pins σ' H' s' ∧ D.nx σ' H'
  | .brk => ∃ σ' H', Inv X pins σ' H' s' ∧ D.bk σ' H'
  | .cont => ∃ σ' H', Inv X pins σ' H' s' ∧ D.ct σ' H'
  | .ret u => ∃ v σ' H', Inv X pins σ' H' s' ∧ RelV v u ∧ D.rt v H'

def PE (X : Cx) (e : Expr) (t : TE) : Prop :=
  ∀ (pins : List (Addr × Obj)) (s : Shared) (σ : St) (H : Hp) (Q : VK), Inv X pins σ H s → t σ H Q → wpAny (model X.prog X.w) X.A (eval e X.env) (EP X pins σ Q) X.xe s
def PT (X : Cx) (e : Expr) (t : TT) : Prop :=
  ∀ (pins : List (Addr × Obj)) (s : Shared) (σ : St) (H : Hp) (Q : Bool → Hp → Prop), Inv X pins σ H s → t σ H Q → wpAny (model X.prog X.w) X.A (isTrue e X.env (eval e X.env)) (TP X pins σ Q) X.xe s
/-- a test whatever its 'whole' is (and, or) -/
def PW (X : Cx) (e : Expr) (t : TT) : Prop :=
  ∀ (whole : Sem Value) (pins : List (Addr × Obj)) (s : Shared) (σ : St) (H : Hp) (Q : Bool → Hp → Prop), Inv X pins σ H s → t σ H Q → wpAny (model X.prog X.w) X.A (isTrue e X.env whole) (TP X pins σ Q) X.xe s
theorem PW.pt {X : Cx} {e : Expr} {t : TT} (h : PW X e t) : PT X e t := h _
/-- an argument list (no star), from the left -/
def PA (X : Cx) (es : List Expr) (t : TA) : Prop :=
  ∀ (pos : Pos) (pins : List (Addr × Obj)) (s : Shared) (σ : St) (H : Hp) (Q : List V → Hp → Prop), Inv X pins σ H s → t σ H Q → wpAny (model X.prog X.w) X.A (spliced (backTo pos (starEach es X.env))) (AP X pins σ Q) X.xe s
def PS (X : Cx) (st : Stmt) (t : TS) : Prop :=
  ∀ (pins : List (Addr × Obj)) (s : Shared) (σ : St) (H : Hp) (D : Ends), Inv X pins σ H s → t D σ H → wpAny (model X.prog X.w) X.A (exec st X.env) (SP X pins D) X.xe s
def PSs (X : Cx) (st : List Stmt) (t : TS) : Prop :=
  ∀ (pins : List (Addr × Obj)) (s : Shared) (σ : St) (H : Hp) (D : Ends), Inv X pins σ H s → t D σ H → wpAny (model X.prog X.w) X.A (execs st X.env) (SP X pins D) X.xe s
/-- weaken the end -/
theorem thn {α : Type} {t : Sem α} {Q Q' : α → Shared → Prop} {M : Model} {A : Around} {E : Value → Shared → Prop} {s : Shared} (h : wpAny M A t Q E s) (hQ : ∀ a s, Q a s → Q' a s) : wpAny M A t Q' E s := wpAny_mono h hQ fun _ _ x => x
end L2

namespace L2
open PySem PySem.Spec PyProof.Rows
section
variable {X : Cx}

/-! ### names and constants -/
def tVar (i : Nat) : TE := fun σ H Q => ∃ v, σ[i]? = some (some v) ∧ Q v H
def tC (v : V) : TE := fun _ H Q => Q v H
theorem pe_var {i : Nat} {x : Str} {pos : Pos} (hN : X.N[i]? = some x) (hv : Vis X.env.scope x) (hd : (x == ("__debug__" : Str)) = false := by decide) (hcd : (x == ("__classdict__" : Str)) = false := by decide) : PE X (.Name x pos) (tVar i) := by
  intro pins s σ H Q I h
  obtain ⟨v, e, h⟩ := h
  obtain ⟨m, hn, hl⟩ := I.loc
  obtain ⟨u, r, l⟩ := hl i x v hN e hv
  have fin : EP X pins σ Q u s := ⟨v, H, I, r, h⟩
  rcases l with ⟨hk, hm⟩ | ⟨hk, c, hc, hcell⟩
  · exact wpAny_Name (wpAny_loadName_local I.ok.kind hk hn hm fin) hd
  · rcases hk with hk | hk
    · exact wpAny_Name (wpAny_loadName_cell I.ok.kind hk hc hcell fin) hd
    · exact wpAny_Name (wpAny_loadName_free I.ok.kind hk hc hcell fin hcd) hd
theorem pe_int {i j pos} : PE X (.Constant (.int i) j pos) (tC (.int i)) := fun _ _ _ H _ I h => wpAny_Constant_int ⟨.int i, H, I.tok _, ⟨_, rfl⟩, h⟩
theorem pe_bl {b j pos} : PE X (.Constant (.bool b) j pos) (tC (.bl b)) := fun _ _ _ H _ I h => Constant_bool ⟨.bl b, H, I, rfl, h⟩
theorem pe_non {j pos} : PE X (.Constant .none j pos) (tC .non) := fun _ _ _ H _ I h => Constant_none ⟨.non, H, I, rfl, h⟩
theorem pe_str {x j pos} : PE X (.Constant (.str x) j pos) (tC (.str x)) := fun _ _ _ H _ I h => Calls.Constant_str ⟨.str x, H, I.tok _, ⟨_, rfl⟩, h⟩

/-- a global name of the def -/
def Gl (X : Cx) (x : Str) : Prop := X.env.kindOf x = some .globalImplicit
theorem ld_glob {E : Value → Shared → Prop} {pins : List (Addr × Obj)} {s : Shared} {σ : St} {H : Hp} {x : Str} {u : Value} {pos : Pos} {Q : Value → Shared → Prop} (I : Inv X pins σ H s) (hg : Gl X x) (hm : X.mg x = some u) (h : Q u s)
    (hd : (x == ("__debug__" : Str)) = false := by decide) : wpAny (model X.prog X.w) X.A (eval (.Name x pos) X.env) Q E s :=
  Calls.Name_function_global I.ok.kind hg (Calls.loadGlobal_global (by rw [I.ok.glob]; exact I.mod.glob.keeps I.bk) hm h) hd
theorem ld_blt {E : Value → Shared → Prop} {pins : List (Addr × Obj)} {s : Shared} {σ : St} {H : Hp} {x : Str} {u : Value} {pos : Pos} {Q : Value → Shared → Prop} (I : Inv X pins σ H s) (hg : Gl X x) (hm : X.mg x = none) (hv : bootBuiltins x = some u) (h : Q u s)
    (hn : x ≠ "__name__" := by decide) (hd : (x == ("__debug__" : Str)) = false := by decide) : wpAny (model X.prog X.w) X.A (eval (.Name x pos) X.env) Q E s := by
  obtain ⟨mb, h1, h2⟩ := I.mod.blt
  exact Calls.Name_function_global I.ok.kind hg (Calls.loadGlobal_builtin (by rw [I.ok.glob]; exact I.mod.glob.keeps I.bk) hm (by rw [I.ok.blt]; exact h1.keeps I.bk) ((h2 x hn).trans hv) h) hd
/-- a module's constant, a class, a function, as a value -/
theorem pe_glob {x : Str} {v : V} {u : Value} {pos : Pos} (hg : Gl X x) (hm : X.mg x = some u) (r : RelV v u) (hd : (x == ("__debug__" : Str)) = false := by decide) : PE X (.Name x pos) (tC v) :=
  fun _ _ _ H _ I h => ld_glob I hg hm ⟨v, H, I, r, h⟩ hd
theorem pe_bltn {x : Str} {v : V} {u : Value} {pos : Pos} (hg : Gl X x) (hm : X.mg x = none) (hv : bootBuiltins x = some u) (r : RelV v u) (hn : x ≠ "__name__" := by decide) (hd : (x == ("__debug__" : Str)) = false := by decide) : PE X (.Name x pos) (tC v) :=
  fun _ _ _ H _ I h => ld_blt I hg hm hv ⟨v, H, I, r, h⟩ hn hd

/-! ### arithmetic -/
variable {a b : Expr} {ta tb : TE} {pos : Pos}
/-! ### comparisons -/
/-- a comparison as a value, as a test -/
def tB (t : TE) : TT := fun σ H Q => t σ H fun x H1 => ∃ c, x = .bl c ∧ Q c H1
/-- an expression whose value is a bool, as a test -/
theorem pt_val {e : Expr} {t : TE} (h : PE X e t) (he : ∀ whole, isTrue e X.env whole = (do let v ← whole; standAt e.pos; holding [v] (truthy v)) := by intro _; rfl) : PT X e (tB t) := by
  intro pins s σ H Q I hw
  refine isTrue_plain (thn (h pins s σ H _ I hw) fun v s1 ⟨x, H1, I1, r1, q1⟩ => ?_) (he _)
  obtain ⟨d, rfl, q⟩ := q1
  cases r1
  exact wpAny_truthy_bool ⟨H1, I1, q⟩

/-! ### and, or, not -/
variable {tA tB' : TT} {rest : List Expr}
def tAnd (t u : TT) : TT := fun σ H Q => t σ H fun c H1 => if c = true then u σ H1 Q else Q false H1
def tOr (t u : TT) : TT := fun σ H Q => t σ H fun c H1 => if c = true then Q true H1 else u σ H1 Q
def tNot (t : TT) : TT := fun σ H Q => t σ H fun c H1 => Q (!c) H1
theorem pw_and1 (ha : PT X a tA) : PW X (.BoolOp .And [a] pos) tA := by
  intro wh pins s σ H Q I h
  refine isTrue_and (thn (ha pins s σ H Q I h) fun c s1 e => ?_)
  cases c with
  | true => exact isTrue_and_nil e
  | false => exact e
theorem pw_or1 (ha : PT X a tA) : PW X (.BoolOp .Or [a] pos) tA := by
  intro wh pins s σ H Q I h
  refine isTrue_or (thn (ha pins s σ H Q I h) fun c s1 e => ?_)
  cases c with
  | false => exact isTrue_or_nil e
  | true => exact e
theorem pw_and (ha : PT X a tA) (hb : PW X (.BoolOp .And (b :: rest) pos) tB') : PW X (.BoolOp .And (a :: b :: rest) pos) (tAnd tA tB') := by
  intro wh pins s σ H Q I h
  refine isTrue_and (thn (ha pins s σ H _ I h) fun c s1 ⟨H1, I1, q1⟩ => ?_)
  cases c with
  | true => exact hb wh pins s1 σ H1 Q I1 q1
  | false => exact ⟨H1, I1, q1⟩
theorem pw_or (ha : PT X a tA) (hb : PW X (.BoolOp .Or (b :: rest) pos) tB') : PW X (.BoolOp .Or (a :: b :: rest) pos) (tOr tA tB') := by
  intro wh pins s σ H Q I h
  refine isTrue_or (thn (ha pins s σ H _ I h) fun c s1 ⟨H1, I1, q1⟩ => ?_)
  cases c with
  | true => exact ⟨H1, I1, q1⟩
  | false => exact hb wh pins s1 σ H1 Q I1 q1
theorem pt_not (ha : PT X a tA) : PT X (.UnaryOp .Not a pos) (tNot tA) := by
  intro pins s σ H Q I h
  exact isTrue_not (ha pins s σ H (fun c H1 => Q (!c) H1) I h)
/-- .. as values (bools) -/
def tAndV (ta tb : TE) : TE := fun σ H Q => ta σ H fun x H1 => ∃ c, x = .bl c ∧ if c = true then tb σ H1 Q else Q (.bl false) H1
def tOrV (ta tb : TE) : TE := fun σ H Q => ta σ H fun x H1 => ∃ c, x = .bl c ∧ if c = true then Q (.bl true) H1 else tb σ H1 Q
def tNotV (ta : TE) : TE := fun σ H Q => ta σ H fun x H1 => ∃ c, x = .bl c ∧ Q (.bl (!c)) H1
theorem pe_one {op} {t : TE} (h : PE X a t) : PE X (.BoolOp op [a] pos) t := fun pins s σ H Q I hw => BoolOp_one (h pins s σ H Q I hw)
theorem pe_and (ha : PE X a ta) (hb : PE X (.BoolOp .And (b :: rest) pos) tb) : PE X (.BoolOp .And (a :: b :: rest) pos) (tAndV ta tb) := by
  intro pins s σ H Q I h
  refine BoolOp_and (thn (ha pins s σ H _ I h) fun v s1 ⟨x, H1, I1, r1, q1⟩ => ?_)
  obtain ⟨c, rfl, q1⟩ := q1
  cases r1
  refine wpAny_truthy_bool ?_
  cases c with
  | true => exact hb pins s1 σ H1 Q I1 q1
  | false => exact ⟨.bl false, H1, I1, rfl, q1⟩
theorem pe_or (ha : PE X a ta) (hb : PE X (.BoolOp .Or (b :: rest) pos) tb) : PE X (.BoolOp .Or (a :: b :: rest) pos) (tOrV ta tb) := by
  intro pins s σ H Q I h
  refine BoolOp_or (thn (ha pins s σ H _ I h) fun v s1 ⟨x, H1, I1, r1, q1⟩ => ?_)
  obtain ⟨c, rfl, q1⟩ := q1
  cases r1
  refine wpAny_truthy_bool ?_
  cases c with
  | false => exact hb pins s1 σ H1 Q I1 q1
  | true => exact ⟨.bl true, H1, I1, rfl, q1⟩
theorem pe_not (ha : PE X a ta) : PE X (.UnaryOp .Not a pos) (tNotV ta) := by
  intro pins s σ H Q I h
  refine UnaryOp_ (thn (ha pins s σ H _ I h) fun v s1 ⟨x, H1, I1, r1, q1⟩ => ?_)
  obtain ⟨c, rfl, q1⟩ := q1
  cases r1
  exact not_of (wpAny_truthy_bool ⟨.bl (!c), H1, I1, rfl, q1⟩)
/-- a if t else b -/
def tIf (t : TT) (ta tb : TE) : TE := fun σ H Q => t σ H fun c H1 => if c = true then ta σ H1 Q else tb σ H1 Q
theorem pe_ifExp {c : Expr} (hc : PT X c tA) (ha : PE X a ta) (hb : PE X b tb) : PE X (.IfExp c a b pos) (tIf tA ta tb) := by
  intro pins s σ H Q I h
  refine wpAny_IfExp (thn (hc pins s σ H _ I h) fun d s1 ⟨H1, I1, q1⟩ => ?_)
  cases d with
  | true => exact ha pins s1 σ H1 Q I1 q1
  | false => exact hb pins s1 σ H1 Q I1 q1
end
end L2

namespace L2
open PySem PySem.Spec PyProof.Rows

/-! ### a list, a tuple that is read: tracked, frozen, or an object of the module -/
def SqL (K : PySem.W.Frag) (H : Hp) (a : Addr) (xs : List V) : Prop :=
  Rd H a (.lst xs) ∨
    ∃ (o : Obj) (its : Array Value) (n : Nat), K.lookup a = some o ∧ o.cls = .type "list" ∧ o.dict = none ∧ o.data = .seq its n ∧ its.size ≤ sizeLine ∧ Vals xs its.toList
def SqT (K : PySem.W.Frag) (H : Hp) (a : Addr) (xs : List V) : Prop :=
  Rd H a (.tup xs) ∨
    ∃ (o : Obj) (its : Array Value) (n : Nat), K.lookup a = some o ∧ o.cls = .type "tuple" ∧ o.data = .seq its n ∧ its.size ≤ sizeLine ∧ Vals xs its.toList
def absV : Value → Option V
  | .none => some .non
  | .bool b => some (.bl b)
  | .int i _ => some (.int i)
  | .str x _ => some (.str x)
  | .bytes b _ => some (.byt b)
  | .float b _ => some (.flt b)
  | .ref a => some (.ref a)
  | .type n => some (.ty n)
  | _ => none
theorem RelV.abs {x : V} {u : Value} (r : RelV x u) : absV u = some x := by
  cases x with
  | non => cases r; rfl
  | bl _ => cases r; rfl
  | int _ => obtain ⟨t, rfl⟩ := r; rfl
  | str _ => obtain ⟨t, rfl⟩ := r; rfl
  | byt _ => obtain ⟨t, rfl⟩ := r; rfl
  | flt _ => obtain ⟨t, rfl⟩ := r; rfl
  | ref _ => cases r; rfl
  | ty _ => cases r; rfl
theorem RelV.inj {x y : V} {u : Value} (r : RelV x u) (q : RelV y u) : x = y := Option.some.inj (r.abs.symm.trans q.abs)
theorem Vals.inj : ∀ {xs ys : List V} {us : List Value}, Vals xs us → Vals ys us → xs = ys
  | _, _, _, .nil, .nil => rfl
  | _, _, _, .cons r t, .cons r' t' => by rw [r.inj r', Vals.inj t t']
section
variable {X : Cx} {pins : List (Addr × Obj)} {σ : St} {H : Hp} {s : Shared} {a : Addr} {xs ys : List V}
theorem SqL.of {K : PySem.W.Frag} (h : H a = some (.lst xs)) : SqL K H a xs := .inl (.inl h)
theorem SqT.of {K : PySem.W.Frag} (h : H a = some (.tup xs)) : SqT K H a xs := .inl (.inl h)
theorem Inv.list (I : Inv X pins σ H s) (h : SqL X.K H a xs) : ∃ its : List Value, Vals xs its ∧ PlainL s.heap a its.toArray ∧ xs.length ≤ sizeLine := by
  rcases h with h | ⟨o, its, n, hk, hc, hd, hs, hz, r⟩
  · obtain ⟨z, its, n, r, e⟩ := h.ok I.hok
    exact ⟨its, r, ⟨_, n, e, rfl, rfl, rfl⟩, z⟩
  · refine ⟨its.toList, r, ⟨o, n, I.kIn a o hk, hc, hd, by simpa using hs⟩, ?_⟩
    have e := r.length
    simp only [Array.length_toList] at e
    omega
theorem Inv.tuple (I : Inv X pins σ H s) (h : SqT X.K H a xs) : ∃ its : List Value, Vals xs its ∧ IsTup s.heap a its.toArray ∧ xs.length ≤ sizeLine := by
  rcases h with h | ⟨o, its, n, hk, hc, hs, hz, r⟩
  · obtain ⟨z, its, r, p⟩ := h.ok I.hok
    exact ⟨its, r, p.tup, z⟩
  · refine ⟨its.toList, r, ⟨o, I.kIn a o hk, hc, n, by simpa using hs⟩, ?_⟩
    have e := r.length
    simp only [Array.length_toList] at e
    omega
theorem Inv.list_inj (I : Inv X pins σ H s) (h : SqL X.K H a xs) (h' : SqL X.K H a ys) : xs = ys := by
  obtain ⟨its, r, ⟨o, n, e, _, _, d⟩, _⟩ := I.list h
  obtain ⟨its', r', ⟨o', n', e', _, _, d'⟩, _⟩ := I.list h'
  rw [e] at e'; cases e'
  rw [d] at d'
  injection d' with d1 _
  have : its = its' := by simpa using congrArg Array.toList d1
  subst this
  exact r.inj r'
theorem Inv.tuple_inj (I : Inv X pins σ H s) (h : SqT X.K H a xs) (h' : SqT X.K H a ys) : xs = ys := by
  obtain ⟨its, r, ⟨o, e, _, n, d⟩, _⟩ := I.tuple h
  obtain ⟨its', r', ⟨o', e', _, n', d'⟩, _⟩ := I.tuple h'
  rw [e] at e'; cases e'
  rw [d] at d'
  injection d' with d1 _
  have : its = its' := by simpa using congrArg Array.toList d1
  subst this
  exact r.inj r'
end

/-! ### another wish about exceptions -/
abbrev Cx.wish (X : Cx) (E : Value → Shared → Prop) : Cx := { X with xe := E }
/-- no exception leaves -/
abbrev Cx.nox (X : Cx) : Cx := X.wish fun _ _ => False
theorem Cx.Ok.wish {X : Cx} (ok : X.Ok) (E : Value → Shared → Prop) : (X.wish E).Ok :=
  ⟨ok.mod, ok.kind, ok.glob, ok.blt, ok.above, ok.inj, ok.has, ok.cab, ok.hd, ok.frames, ok.stk, ok.exf, ok.bs, ok.bsz, ok.noex, ok.exfs, ok.funs, ok.frf⟩
theorem Cx.Ok.unwish {X : Cx} {E : Value → Shared → Prop} (ok : (X.wish E).Ok) : X.Ok :=
  ⟨ok.mod, ok.kind, ok.glob, ok.blt, ok.above, ok.inj, ok.has, ok.cab, ok.hd, ok.frames, ok.stk, ok.exf, ok.bs, ok.bsz, ok.noex, ok.exfs, ok.funs, ok.frf⟩
section
variable {X : Cx} {pins : List (Addr × Obj)} {σ : St} {H : Hp} {s : Shared} {E : Value → Shared → Prop}
theorem Inv.wish (I : Inv X pins σ H s) (E : Value → Shared → Prop) : Inv (X.wish E) pins σ H s := ⟨I.ok.wish E, I.os, I.bare, I.base, I.loc, I.cell, I.free, I.freeC, I.pin, I.hok, I.len⟩
theorem Inv.unwish (I : Inv (X.wish E) pins σ H s) : Inv X pins σ H s := ⟨I.ok.unwish, I.os, I.bare, I.base, I.loc, I.cell, I.free, I.freeC, I.pin, I.hok, I.len⟩
theorem SP.unwish {D : Ends} {f : Flow} {s' : Shared} (h : SP (X.wish E) pins D f s') : SP X pins D f s' := by
  cases f with
  | next => obtain ⟨σ', H', I, q⟩ := h; exact ⟨σ', H', I.unwish, q⟩
  | brk => obtain ⟨σ', H', I, q⟩ := h; exact ⟨σ', H', I.unwish, q⟩
  | cont => obtain ⟨σ', H', I, q⟩ := h; exact ⟨σ', H', I.unwish, q⟩
  | ret u => obtain ⟨v, σ', H', I, r, q⟩ := h; exact ⟨v, σ', H', I.unwish, r, q⟩
theorem PE.nox {e : Expr} {t : TE} (h : PE X.nox e t) : PE X e t := fun pins s σ H Q I hw =>
  wpAny_mono (h pins s σ H Q (I.wish _) hw) (fun _ _ ⟨v, H', I', r, q⟩ => ⟨v, H', I'.unwish, r, q⟩) fun _ _ z => False.elim z
theorem PT.nox {e : Expr} {t : TT} (h : PT X.nox e t) : PT X e t := fun pins s σ H Q I hw =>
  wpAny_mono (h pins s σ H Q (I.wish _) hw) (fun _ _ ⟨H', I', q⟩ => ⟨H', I'.unwish, q⟩) fun _ _ z => False.elim z
theorem PSs.nox {st : List Stmt} {t : TS} (h : PSs X.nox st t) : PSs X st t := fun pins s σ H D I hw =>
  wpAny_mono (h pins s σ H D (I.wish _) hw) (fun _ _ q => q.unwish) fun _ _ z => False.elim z
end

/-! ### blocks and small statements -/
section
variable {X : Cx} {st : Stmt} {rest : List Stmt} {t u : TS} {e : Expr} {te : TE} {pos : Pos}
def tNext : TS := fun D σ H => D.nx σ H
def tSeq (t u : TS) : TS := fun D σ H => t { D with nx := u D } σ H
theorem pss_nil : PSs X [] tNext := fun _ _ σ H _ I h => wpAny_execs_nil ⟨σ, H, I, h⟩
theorem pss_cons (h1 : PS X st t) (h2 : PSs X rest u) : PSs X (st :: rest) (tSeq t u) := by
  intro pins s σ H D I h
  refine wpAny_execs_cons (thn (h1 pins s σ H { D with nx := u D } I h) fun f s1 q => ?_)
  cases f with
  | next =>
    obtain ⟨σ', H', I', q⟩ := q
    exact h2 pins s1 σ' H' D I' q
  | ret v => exact q
  | brk => exact q
  | cont => exact q
theorem pss_one (h1 : PS X st t) : PSs X [st] t := by
  intro pins s σ H D I h
  refine wpAny_execs_cons (thn (h1 pins s σ H D I h) fun f s1 q => ?_)
  cases f with
  | next => exact wpAny_execs_nil q
  | ret v => exact q
  | brk => exact q
  | cont => exact q
/-- in a def's body nothing is shown -/
theorem Inv.quiet {pins : List (Addr × Obj)} {σ : St} {H : Hp} {s : Shared} (I : Inv X pins σ H s) : interactive X.env = false := by simp [interactive, I.ok.kind]
/-- an expression whose value is dropped -/
def tDrop (te : TE) : TS := fun D σ H => te σ H fun _ H1 => D.nx σ H1
theorem ps_expr (he : PE X e te) (hs : swapsWith e none pos.line X.env = pure false := by rfl) : PS X (.Expr e pos) (tDrop te) := by
  intro pins s σ H D I h
  exact wpAny_Expr_any (thn (he pins s σ H _ I h) fun v s1 ⟨x, H1, I1, r1, q1⟩ => ⟨σ, H1, I1, q1⟩) I.quiet hs
def tRet (te : TE) : TS := fun D σ H => te σ H D.rt
theorem ps_ret (he : PE X e te) : PS X (.Return (some e) pos) (tRet te) := by
  intro pins s σ H D I h
  exact wpAny_Return_some (thn (he pins s σ H _ I h) fun v s1 ⟨x, H1, I1, r1, q1⟩ => ⟨x, σ, H1, I1, r1, q1⟩)
def tIfS (c : TT) (t u : TS) : TS := fun D σ H => c σ H fun b H1 => if b = true then t D σ H1 else u D σ H1
theorem ps_if {c : Expr} {a b : List Stmt} {tc : TT} (hc : PT X c tc) (ha : PSs X a t) (hb : PSs X b u) : PS X (.If c a b pos) (tIfS tc t u) := by
  intro pins s σ H D I h
  refine wpAny_If (thn (hc pins s σ H _ I h) fun d s1 ⟨H1, I1, q1⟩ => ?_)
  cases d with
  | true => exact ha pins s1 σ H1 D I1 q1
  | false => exact hb pins s1 σ H1 D I1 q1
end

/-! ### targets -/
abbrev TG := V → St → Hp → (St → Hp → Prop) → Prop
abbrev TGs := List V → St → Hp → (St → Hp → Prop) → Prop
def PG (X : Cx) (target : Expr) (t : TG) : Prop :=
  ∀ (pins : List (Addr × Obj)) (s : Shared) (σ : St) (H : Hp) (v : V) (u : Value) (Q : St → Hp → Prop), Inv X pins σ H s → RelV v u → t v σ H Q →
    wpAny (model X.prog X.w) X.A (assign target X.env u) (fun _ s' => ∃ σ' H', Inv X pins σ' H' s' ∧ Q σ' H') X.xe s
/-- several targets, one after another -/
def PGs (X : Cx) (ts : List Expr) (t : TGs) : Prop :=
  ∀ (pins : List (Addr × Obj)) (s : Shared) (σ : St) (H : Hp) (vs : List V) (us : List Value) (Q : St → Hp → Prop), Inv X pins σ H s → Vals vs us → t vs σ H Q →
    wpAny (model X.prog X.w) X.A (assignInOrder ((assignEach ts X.env).map (·.2)) us) (fun _ s' => ∃ σ' H', Inv X pins σ' H' s' ∧ Q σ' H') X.xe s
/-- o[i] = v, by values -/
abbrev TSet := V → V → V → Hp → (Hp → Prop) → Prop
def PSet (X : Cx) (t : TSet) : Prop :=
  ∀ (pins : List (Addr × Obj)) (s : Shared) (σ : St) (H : Hp) (o i v : V) (ov iv u : Value) (Q : Hp → Prop), Inv X pins σ H s → RelV o ov → RelV i iv → RelV v u → t o i v H Q →
    wpAny (model X.prog X.w) X.A (setItem ov iv u) (fun _ s' => ∃ H', Inv X pins σ H' s' ∧ Q H') X.xe s
section
variable {X : Cx} {pos : Pos}
def gName (i : Nat) : TG := fun v σ H Q => Q (σ.set i (some v)) H
theorem pg_name {i : Nat} {x : Str} (hN : X.N.Nodup) (hi : X.N[i]? = some x) (hx : Loc X.env.scope x) (hf : X.fn x = true ∨ X.env.scope.names.lookup x = some .local := by first | exact .inl rfl | exact .inr rfl | assumption) : PG X (.Name x pos) (gName i) := by
  intro pins s σ H v u Q I r h
  exact wpAny_assign_Name (store_ok I hN hi hx r (fun s' I' => ⟨_, H, I', h⟩) hf)
def gNil : TGs := fun vs σ H Q => vs = [] ∧ Q σ H
def gCons (t : TG) (u : TGs) : TGs := fun vs σ H Q => ∃ v r, vs = v :: r ∧ t v σ H fun σ' H' => u r σ' H' Q
theorem pgs_nil : PGs X [] gNil := by
  intro pins s σ H vs us Q I r h
  obtain ⟨e, h⟩ := h
  subst e
  cases r
  exact assignInOrder_nil ⟨σ, H, I, h⟩
theorem pgs_cons {e : Expr} {es : List Expr} {t : TG} {u : TGs} (h1 : PG X e t) (h2 : PGs X es u)
    (hs : (assignEach (e :: es) X.env).map (·.2) = assign e X.env :: (assignEach es X.env).map (·.2) := by rfl) : PGs X (e :: es) (gCons t u) := by
  intro pins s σ H vs us Q I r h
  obtain ⟨v, vr, e1, h⟩ := h
  subst e1
  cases r with
  | cons r rr =>
    rw [hs]
    refine assignInOrder_cons (thn (h1 pins s σ H _ _ _ I r h) fun _ s1 ⟨σ1, H1, I1, q1⟩ => ?_)
    exact h2 pins s1 σ1 H1 _ _ Q I1 rr q1
/-- (a, b, ..) = a tuple of that length -/
def gTup (K : PySem.W.Frag) (n : Nat) (t : TGs) : TG := fun v σ H Q => ∃ a xs, v = .ref a ∧ SqT K H a xs ∧ xs.length = n ∧ t xs σ H Q
theorem pg_tup {es : List Expr} {k : Nat} {t : TGs} {n : Nat} (hc : X.calm = true) (h : PGs X es t)
    (hn : (assignEach es X.env).length = n := by rfl) (hst : (assignEach es X.env).findIdx? (·.1) = none := by rfl) : PG X (.Tuple es k pos) (gTup X.K n t) := by
  intro pins s σ H v u Q I r hw
  obtain ⟨a, xs, e1, hq, hl, hw⟩ := hw
  subst e1
  cases r
  obtain ⟨its, rv, ht, hz⟩ := I.tuple hq
  refine assign_Tuple_tuple (I.ok.hd hc) ht (by simp [hn, ← hl, rv.length]) hst fun h' hx => ?_
  have I1 : Inv X pins σ H { s with heap := h' } := I.kept (t' := s.toks) fun b o e => hx b o (Nat.ne_of_lt (Heap.lt_size e)) e
  exact h pins _ σ H xs _ Q I1 (by simpa using rv) hw
/-- o[i] = .. -/
def gSub (to ti : TE) (t : TSet) : TG := fun v σ H Q => to σ H fun o H1 => ti σ H1 fun i H2 => t o i v H2 fun H3 => Q σ H3
theorem pg_sub {o i : Expr} {to ti : TE} {t : TSet} (ho : PE X o to) (hi : PE X i ti) (hs : PSet X t)
    (ha : ∀ v, assign (.Subscript o i pos) X.env v = (do
      let ov ← holding [v] (eval o X.env)
      let iv ← holding [v, ov] (eval i X.env)
      standAt pos
      holding [v, ov, iv] (setItem ov iv v)
      release [v, ov, iv] []) := by intro _; rfl) : PG X (.Subscript o i pos) (gSub to ti t) := by
  intro pins s σ H v u Q I r h
  rw [ha]
  refine wpAny_bind (wpAny_holding (thn (ho pins s σ H _ I h) fun ov s1 ⟨x, H1, I1, r1, q1⟩ => ?_))
  refine wpAny_bind (wpAny_holding (thn (hi pins s1 σ H1 _ I1 q1) fun iv s2 ⟨y, H2, I2, r2, q2⟩ => ?_))
  refine wpAny_bind (wpAny_standAt (wpAny_bind (wpAny_holding (thn (hs pins s2 σ H2 x y v ov iv u _ I2 r1 r2 r q2) fun _ s3 ⟨H3, I3, q3⟩ => ?_))))
  exact wpAny_release ⟨σ, H3, I3, q3⟩
/-- target = value -/
def tAsg (te : TE) (g : TG) : TS := fun D σ H => te σ H fun x H1 => g x σ H1 D.nx
theorem ps_asg {tg e : Expr} {te : TE} {g : TG} (he : PE X e te) (hg : PG X tg g) (hs : swapsWithSole [tg] e pos.line X.env = pure false := by rfl) (hw : swappedStores [tg] e X.env = pure none := by rfl)
    (h1 : (assignEach [tg] X.env).map (·.2) = [assign tg X.env] := by rfl) : PS X (.Assign [tg] e pos) (tAsg te g) := by
  intro pins s σ H D I h
  refine wpAny_Assign_stores (thn (he pins s σ H _ I h) fun v s1 ⟨x, H1, I1, r1, q1⟩ => ?_) hs hw
  rw [h1]
  exact thn (hg pins s1 σ H1 x v _ I1 r1 q1) fun _ s2 q => q
/-- name = value -/
theorem ps_set {i : Nat} {x : Str} {e : Expr} {te : TE} {pos' : Pos} (hN : X.N.Nodup) (hi : X.N[i]? = some x) (hx : Loc X.env.scope x) (he : PE X e te) (hs : swapsWith e (some (.Name x pos')) pos.line X.env = pure false := by rfl) (hf : X.fn x = true ∨ X.env.scope.names.lookup x = some .local := by first | exact .inl rfl | exact .inr rfl | assumption) :
    PS X (.Assign [.Name x pos'] e pos) (tAsg te (gName i)) := by
  intro pins s σ H D I h
  refine wpAny_Assign_Name (thn (he pins s σ H _ I h) fun v s1 ⟨y, H1, I1, r1, q1⟩ => ?_) hs
  exact store_ok I1 hN hi hx r1 (fun s2 I2 => ⟨_, H1, I2, q1⟩) hf
end

/-! ### while -/
section
variable {X : Cx} {pos : Pos}
end

/-! ### what a loop or a comprehension walks -/
/-- at turn i: it yields x (the heap may grow), or it stops -/
structure It where
  go : Nat → Hp → Prop
  yld : Nat → Hp → V → Hp → Prop
  stop : Nat → Hp → Prop
/-- the iterator's own objects may turn: they are not the frame's, not pinned, younger than the entry (or a comprehension's own) -/
def FpOk (X : Cx) (pins : List (Addr × Obj)) (H : Hp) (b : Addr) : Prop :=
  H b = none ∧ b ≠ X.env.locals ∧ b ∉ X.fs ∧ (b ∈ X.ex ∨ X.s₀.heap.objs.size ≤ b) ∧ (∀ x c, X.env.cells.lookup x = some c → c ≠ b) ∧ ∀ p ∈ X.pn ++ pins, p.1 ≠ b
theorem Inv.fpOk {X : Cx} {pins : List (Addr × Obj)} {σ : St} {H H' : Hp} {s : Shared} {b : Addr} (I : Inv X pins σ H s) (hb : s.heap.objs.size ≤ b) (hn : H' b = none) : FpOk X pins H' b := by
  refine ⟨hn, Nat.ne_of_gt (Nat.lt_of_lt_of_le I.lt hb), I.nofs hb, .inr (Nat.le_trans I.sz hb), fun x c e z => ?_, fun p hp z => ?_⟩
  · obtain ⟨v, q⟩ := I.cell x c e
    exact absurd (Nat.lt_of_lt_of_le q.lt (by rw [z]; exact hb)) (Nat.lt_irrefl _)
  · exact absurd (Nat.lt_of_lt_of_le (Heap.lt_size (I.pin p hp).1) (by rw [z]; exact hb)) (Nat.lt_irrefl _)
structure Turn (P : Program) (w : World) (K : PySem.W.Frag) (tg : Expr) (J : It) (fp : List Addr) (it : Addr) (tn : Nat → Heap → Prop) : Prop where
  mem : it ∈ fp
  obj : ∀ i h, tn i h → ∀ b ∈ fp, ∃ o, h.get? b = some o ∧ ∀ v, o.data ≠ .cell v
  keep : ∀ i h h', tn i h → (∀ b ∈ fp, ∀ o, h.get? b = some o → h'.get? b = some o) → tn i h'
  item : ∀ (X : Cx), X.prog = P → X.w = w → X.K = K → X.calm = true → ∀ (i : Nat) (pins : List (Addr × Obj)) (s : Shared) (σ : St) (H : Hp) (E : Value → Shared → Prop), Inv X pins σ H s → (∀ b ∈ fp, FpOk X pins H b) → tn i s.heap → J.go i H →
    wpAny (model P w) X.A (pyNext (.ref it)) (fun r s1 => ∃ u, r = some u ∧
      wpAny (model P w) X.A (letOwnedTupleGo tg (.ref it) u) (fun _ s2 => ∃ x H', Inv X pins σ H' s2 ∧ RelV x u ∧ J.yld i H x H' ∧ tn (i + 1) s2.heap ∧ ∀ b ∈ fp, H' b = none) E s1) E s
  done : ∀ (X : Cx), X.prog = P → X.w = w → X.K = K → X.calm = true → ∀ (i : Nat) (pins : List (Addr × Obj)) (s : Shared) (σ : St) (H : Hp) (E : Value → Shared → Prop), Inv X pins σ H s → (∀ b ∈ fp, FpOk X pins H b) → tn i s.heap → J.stop i H →
    wpAny (model P w) X.A (pyNext (.ref it)) (fun r s1 => r = none ∧ Inv X pins σ H s1) E s
  self : ∀ (A : Around) (i : Nat) (s : Shared) (Q : Value → Shared → Prop) (E : Value → Shared → Prop), tn i s.heap → Q (.ref it) s → wpAny (model P w) A (pyIter (.ref it)) Q E s
abbrev TI := St → Hp → (It → Hp → Prop) → Prop
/-- an iterator has come -/
def PIE (X : Cx) (pins : List (Addr × Obj)) (σ : St) (tg : Expr) (R : It → Hp → Prop) (itv : Value) (s2 : Shared) : Prop :=
  ∃ (it : Addr) (fp : List Addr) (tn : Nat → Heap → Prop) (J : It) (H' : Hp), itv = .ref it ∧ Inv X pins σ H' s2 ∧ Turn X.prog X.w X.K tg J fp it tn ∧ tn 0 s2.heap ∧ (∀ b ∈ fp, FpOk X pins H' b) ∧ R J H'
def PI (X : Cx) (tg iter : Expr) (wi : TI) : Prop :=
  ∀ (pins : List (Addr × Obj)) (s : Shared) (σ : St) (H : Hp) (R : It → Hp → Prop), Inv X pins σ H s → wi σ H R →
    wpAny (model X.prog X.w) X.A (eval iter X.env) (fun v s1 => wpAny (model X.prog X.w) X.A (pyIter v) (PIE X pins σ tg R) X.xe s1) X.xe s

/-- the step ahead of the store is nothing for an iterator that keeps no tuple -/
theorem go_of {M : Model} {A : Around} {E : Value → Shared → Prop} {s : Shared} {tg : Expr} {it : Addr} {u : Value} {o : Obj} {n : String} {vs : Array Value} {Q : Unit → Shared → Prop} (ho : s.heap.get? it = some o) (hc : o.cls = .type n) (hd : o.data = .fields vs)
    (hn : ["enumerate", "zip", "dict_itemiterator", "dict_reverseitemiterator", "odict_iterator", "itertools.zip_longest", "itertools.pairwise"].contains n = false) (hQ : Q () s) : wpAny M A (letOwnedTupleGo tg (.ref it) u) Q E s := by
  unfold letOwnedTupleGo
  cases tg <;> first
    | exact wpAny_pure hQ
    | (cases u <;> first
        | exact wpAny_pure hQ
        | (refine wpAny_bind (wpAny_load ho ?_)
           rw [hc, hd]
           show wpAny M A (if (["enumerate", "zip", "dict_itemiterator", "dict_reverseitemiterator", "odict_iterator", "itertools.zip_longest", "itertools.pairwise"].contains n && vs[0]? == some (rawInt _)) = true then _ else _) Q E s
           rw [if_neg (by intro h; rw [hn, Bool.false_and] at h; cases h)]
           exact wpAny_pure hQ))

/-- the list at a, as it stands at each turn (a loop may append to it) -/
def Itl (K : PySem.W.Frag) (a : Addr) : It :=
  ⟨fun i H => ∃ xs x, SqL K H a xs ∧ xs[i]? = some x, fun i H x H' => H' = H ∧ ∀ xs, SqL K H a xs → xs[i]? = some x, fun i H => ∃ xs, SqL K H a xs ∧ xs.length ≤ i⟩
def Itt (K : PySem.W.Frag) (a : Addr) : It :=
  ⟨fun i H => ∃ xs x, SqT K H a xs ∧ xs[i]? = some x, fun i H x H' => H' = H ∧ ∀ xs, SqT K H a xs → xs[i]? = some x, fun i H => ∃ xs, SqT K H a xs ∧ xs.length ≤ i⟩
/-- lo, lo + 1, .. (n of them) -/
def Itr (lo : Int) (n : Nat) : It := ⟨fun i _ => i < n, fun i H x H' => H' = H ∧ x = .int (lo + i), fun i _ => n ≤ i⟩
theorem turn_list {P : Program} {w : World} {K : PySem.W.Frag} {tg : Expr} (a it : Addr) : Turn P w K tg (Itl K a) [it] it (fun i h => h.IsListIter it a i) where
  mem := by simp
  obj := fun i h st b hb => by
    have e : b = it := by simpa using hb
    subst e
    obtain ⟨o, e, c, d⟩ := st
    exact ⟨o, e, fun v z => by rw [d] at z; cases z⟩
  keep := fun i h h' st k => st.at fun o e => k it (by simp) o e
  item := by
    intro X hP hw hK hc i pins s σ H E I hf st hg
    subst hP hw hK
    obtain ⟨xs, x, hq, hx⟩ := hg
    obtain ⟨its, rv, p, hz⟩ := I.list hq
    obtain ⟨u, hu, ru⟩ := rv.get hx
    obtain ⟨f0, f1, f2, f3, f4, f5⟩ := hf it (by simp)
    refine wpAny_pyNext_list_item st p.isList (x := u) (by simpa using hu) fun h' st' sb => ?_
    have I1 : Inv X pins σ H { s with heap := h' } := I.turned (t' := s.toks) (fun b o hb e => (sb.2 b hb).trans e) f0 f1 f3 f4 f5
    obtain ⟨o, e, c, d⟩ := id st'
    exact ⟨u, rfl, go_of (s := { s with heap := h' }) e c d (by decide) ⟨x, H, I1, ru, ⟨rfl, fun ys hy => by rw [I.list_inj hy hq]; exact hx⟩, st', fun b hb => (hf b hb).1⟩⟩
  done := by
    intro X hP hw hK hc i pins s σ H E I hf st hg
    subst hP hw hK
    obtain ⟨xs, hq, hx⟩ := hg
    obtain ⟨its, rv, p, hz⟩ := I.list hq
    obtain ⟨f0, f1, f2, f3, f4, f5⟩ := hf it (by simp)
    have hl := rv.length
    exact wpAny_pyNext_list_end (I.ok.hd hc) st p.isList (by simp; omega) fun h' eb => ⟨rfl, I.turned (t' := s.toks) (fun b o hb e => eb b o hb e) f0 f1 f3 f4 f5⟩
  self := fun _ _ _ _ _ st h => wpAny_pyIter_listiter st h
theorem turn_tuple {P : Program} {w : World} {K : PySem.W.Frag} {tg : Expr} (a it : Addr) : Turn P w K tg (Itt K a) [it] it (fun i h => h.IsTupleIter it a i) where
  mem := by simp
  obj := fun i h st b hb => by
    have e : b = it := by simpa using hb
    subst e
    obtain ⟨o, e, c, d⟩ := st
    exact ⟨o, e, fun v z => by rw [d] at z; cases z⟩
  keep := fun i h h' st k => st.at fun o e => k it (by simp) o e
  item := by
    intro X hP hw hK hc i pins s σ H E I hf st hg
    subst hP hw hK
    obtain ⟨xs, x, hq, hx⟩ := hg
    obtain ⟨its, rv, p, hz⟩ := I.tuple hq
    obtain ⟨u, hu, ru⟩ := rv.get hx
    obtain ⟨f0, f1, f2, f3, f4, f5⟩ := hf it (by simp)
    refine wpAny_pyNext_tuple_item st (show s.heap.IsTuple a its.toArray from p) (x := u) (by simpa using hu) fun h' st' sb => ?_
    have I1 : Inv X pins σ H { s with heap := h' } := I.turned (t' := s.toks) (fun b o hb e => (sb.2 b hb).trans e) f0 f1 f3 f4 f5
    obtain ⟨o, e, c, d⟩ := id st'
    exact ⟨u, rfl, go_of (s := { s with heap := h' }) e c d (by decide) ⟨x, H, I1, ru, ⟨rfl, fun ys hy => by rw [I.tuple_inj hy hq]; exact hx⟩, st', fun b hb => (hf b hb).1⟩⟩
  done := by
    intro X hP hw hK hc i pins s σ H E I hf st hg
    subst hP hw hK
    obtain ⟨xs, hq, hx⟩ := hg
    obtain ⟨its, rv, p, hz⟩ := I.tuple hq
    obtain ⟨f0, f1, f2, f3, f4, f5⟩ := hf it (by simp)
    have hl := rv.length
    exact wpAny_pyNext_tuple_end (I.ok.hd hc) st (show s.heap.IsTuple a its.toArray from p) (by simp; omega) fun h' eb => ⟨rfl, I.turned (t' := s.toks) (fun b o hb e => eb b o hb e) f0 f1 f3 f4 f5⟩
  self := fun _ _ _ _ _ st h => wpAny_pyIter_tupleiter st h
theorem turn_range {P : Program} {w : World} {K : PySem.W.Frag} {tg : Expr} (it : Addr) (lo : Int) (n : Nat) : Turn P w K tg (Itr lo n) [it] it (fun i h => IsRangeIter h it (lo + (i : Nat) * 1) ((n : Int) - (i : Nat)) 1) where
  mem := by simp
  obj := fun i h st b hb => by
    have e : b = it := by simpa using hb
    subst e
    exact ⟨_, st, fun v z => by
      have z' : Data.fields _ = Data.cell v := z
      cases z'⟩
  keep := fun i h h' st k => k it (by simp) _ st
  item := by
    intro X hP hw hK hc i pins s σ H E I hf st hg
    subst hP hw hK
    obtain ⟨f0, f1, f2, f3, f4, f5⟩ := hf it (by simp)
    have W := Walks.range (prog := X.prog) (w := X.w) (I.ok.hd hc) it lo 1 n
    refine W.item i s _ _ hg st fun v h' tk hv st' kk => ?_
    obtain ⟨t, rfl⟩ := hv
    have I1 : Inv X pins σ H { s with heap := h', toks := tk } := I.turned (fun b o hb e => kk b o (by simpa using hb) e) f0 f1 f3 f4 f5
    refine ⟨_, rfl, go_of (s := { s with heap := h', toks := tk }) (n := "range_iterator") st' rfl rfl (by decide) ⟨.int (lo + i), H, I1, ⟨t, ?_⟩, ⟨rfl, rfl⟩, st', fun b hb => (hf b hb).1⟩⟩
    rw [Int.mul_one]
  done := by
    intro X hP hw hK hc i pins s σ H E I hf st hg
    subst hP hw hK
    obtain ⟨f0, f1, f2, f3, f4, f5⟩ := hf it (by simp)
    exact wpAny_pyNext_range_end (I.ok.hd hc) st (by have : n ≤ i := hg; omega) fun h' eb => ⟨rfl, I.turned (t' := s.toks) (fun b o hb e => eb b o hb e) f0 f1 f3 f4 f5⟩
  self := fun _ _ _ _ _ st h => wpAny_pyIter_rangeiter st h
end L2

namespace L2
open PySem PySem.Spec PyProof.Rows
section
variable {X : Cx} {tg : Expr}
def iList (K : PySem.W.Frag) (tl : TE) : TI := fun σ H R => tl σ H fun x H1 => ∃ a, x = .ref a ∧ (∃ xs, SqL K H1 a xs) ∧ R (Itl K a) H1
def iTup (K : PySem.W.Frag) (tl : TE) : TI := fun σ H R => tl σ H fun x H1 => ∃ a, x = .ref a ∧ (∃ xs, SqT K H1 a xs) ∧ R (Itt K a) H1
theorem pi_list {l : Expr} {tl : TE} (hl : PE X l tl) : PI X tg l (iList X.K tl) := by
  intro pins s σ H R I h
  refine thn (hl pins s σ H _ I h) fun v s1 ⟨x, H1, I1, r1, q1⟩ => ?_
  obtain ⟨a, e, ⟨xs, hq⟩, q⟩ := q1
  subst e
  cases r1
  obtain ⟨its, rv, p, hz⟩ := I1.list hq
  refine wpAny_pyIter_list p.isList ?_
  refine ⟨s1.heap.objs.size, [s1.heap.objs.size], _, _, H1, rfl, I1.kept (t' := s1.toks) fun b o e => Heap.get?_push_of_some _ e, turn_list a _, ⟨_, Heap.get?_push_size _ rfl, rfl, rfl⟩, fun b hb => ?_, q⟩
  have e : b = s1.heap.objs.size := by simpa using hb
  subst e
  exact I1.fpOk (Nat.le_refl _) (I1.hok.fresh (Nat.le_refl _))
theorem pi_tup {l : Expr} {tl : TE} (hl : PE X l tl) : PI X tg l (iTup X.K tl) := by
  intro pins s σ H R I h
  refine thn (hl pins s σ H _ I h) fun v s1 ⟨x, H1, I1, r1, q1⟩ => ?_
  obtain ⟨a, e, ⟨xs, hq⟩, q⟩ := q1
  subst e
  cases r1
  obtain ⟨its, rv, p, hz⟩ := I1.tuple hq
  refine wpAny_pyIter_tuple (show s1.heap.IsTuple a its.toArray from p) ?_
  refine ⟨s1.heap.objs.size, [s1.heap.objs.size], _, _, H1, rfl, I1.kept (t' := s1.toks) fun b o e => Heap.get?_push_of_some _ e, turn_tuple a _, ⟨_, Heap.get?_push_size _ rfl, rfl, rfl⟩, fun b hb => ?_, q⟩
  have e : b = s1.heap.objs.size := by simpa using hb
  subst e
  exact I1.fpOk (Nat.le_refl _) (I1.hok.fresh (Nat.le_refl _))
/-- a range object just made, walked -/
theorem range_it {pins : List (Addr × Obj)} {σ : St} {H : Hp} {s : Shared} {R : It → Hp → Prop} {E : Value → Shared → Prop} {lo hi : Int} {t u v : Tok} {tk : Nat} (I : Inv X pins σ H s) (h1 : -(2 ^ 62) ≤ lo) (h2 : lo < 2 ^ 62) (h3 : -(2 ^ 62) ≤ hi) (h4 : hi < 2 ^ 62)
    (q : R (Itr lo (hi - lo).toNat) H) : wpAny (model X.prog X.w) X.A (pyIter (.ref s.heap.objs.size)) (PIE X pins σ tg R) E { s with heap := s.heap.push { cls := .type "range", data := .fields #[.int lo t, .int hi u, .int 1 v] }, toks := tk } := by
  refine wpAny_pyIter_range (IsRange.new ..) (small_one h1 h2 h3 h4) ?_
  have I1 : Inv X pins σ H { s with heap := s.heap.push { cls := .type "range", data := .fields #[.int lo t, .int hi u, .int 1 v] }, toks := tk } := I.kept fun b o e => Heap.get?_push_of_some _ e
  refine ⟨(s.heap.push { cls := .type "range", data := .fields #[.int lo t, .int hi u, .int 1 v] }).objs.size, [(s.heap.push { cls := .type "range", data := .fields #[.int lo t, .int hi u, .int 1 v] }).objs.size], _, _, H, rfl,
    I1.kept (t' := tk) fun b o e => Heap.get?_push_of_some _ e, turn_range _ lo (hi - lo).toNat, ?_, fun b hb => ?_, q⟩
  · have e1 : lo + ((0 : Nat) : Int) * 1 = lo := by simp
    have e2 : (((hi - lo).toNat : Nat) : Int) - ((0 : Nat) : Int) = Builtin.Range.rangeSize lo hi 1 := by rw [rangeSize_one]; split <;> omega
    show IsRangeIter _ _ (lo + ((0 : Nat) : Int) * 1) ((((hi - lo).toNat : Nat) : Int) - ((0 : Nat) : Int)) 1
    rw [e1, e2]
    exact Heap.get?_push_size _ rfl
  · have e : b = (s.heap.push { cls := .type "range", data := .fields #[.int lo t, .int hi u, .int 1 v] }).objs.size := by simpa using hb
    subst e
    exact I1.fpOk (Nat.le_refl _) (I1.hok.fresh (Nat.le_refl _))
def iRng1 (ta : TA) : TI := fun σ H R => ta σ H fun vs H1 => ∃ j : Int, vs = [.int j] ∧ -(2 ^ 62) ≤ j ∧ j < 2 ^ 62 ∧ R (Itr 0 j.toNat) H1
theorem pi_range1 {a : Expr} {ta : TA} {p pos : Pos} (hg : Gl X "range") (hm : X.mg "range" = none) (ha : PA X [a] ta) (hs : starEach [a] X.env = [(false, eval a X.env)] := by rfl) : PI X tg (.Call (.Name "range" p) [a] [] pos) (iRng1 ta) := by
  intro pins s σ H R I h
  refine Call_ (ld_blt I hg hm boot_range (PyProof.Rows.callWith_type1 (thn (ha pos pins s σ H _ I h) fun us s1 ⟨vs, H1, I1, r1, q1⟩ => ?_) hs rfl))
  obtain ⟨j, e, q1, q2, q⟩ := q1
  subst e
  cases r1 with
  | cons r rr =>
    cases rr
    obtain ⟨t, rfl⟩ := r
    exact call_range_1 (range_it I1 (by omega) (by omega) q1 q2 (by simpa using q))
/-! ### for -/
/-- W: the invariant by the turn and a measure; N: what the body is to reach -/
def tFor (wi : TI) (g : TG) (tb : TS) : TS := fun D σ H => wi σ H fun J H1 => ∃ W : Nat → Nat → St → Hp → Prop, (∃ m, W 0 m σ H1) ∧ ∀ i m σ H, W i m σ H →
  (J.stop i H ∧ D.nx σ H) ∨ (J.go i H ∧ ∃ N : St → Hp → Prop, (∀ σ' H', N σ' H' → ∃ m', m' < m ∧ W (i + 1) m' σ' H') ∧ ∀ x H', J.yld i H x H' → g x σ H' fun σ2 H2 => tb { D with nx := N, ct := N, bk := D.nx } σ2 H2)
/-- the records at fp as they stand -/
def pinsAt (fp : List Addr) (h : Heap) : List (Addr × Obj) := fp.filterMap fun b => (h.get? b).map fun o => (b, o)
theorem mem_pinsAt {fp : List Addr} {h : Heap} {b : Addr} {o : Obj} (hb : b ∈ fp) (e : h.get? b = some o) : (b, o) ∈ pinsAt fp h := List.mem_filterMap.mpr ⟨b, hb, by rw [e]; rfl⟩
theorem of_pinsAt {fp : List Addr} {h : Heap} {p : Addr × Obj} (hp : p ∈ pinsAt fp h) : p.1 ∈ fp ∧ h.get? p.1 = some p.2 := by
  obtain ⟨b, hb, e⟩ := List.mem_filterMap.mp hp
  cases q : h.get? b with
  | none => rw [q] at e; cases e
  | some o =>
    rw [q] at e
    have e' : (b, o) = p := Option.some.inj e
    subst e'
    exact ⟨hb, q⟩
theorem Inv.pinned {pins : List (Addr × Obj)} {σ : St} {H : Hp} {s : Shared} {fp : List Addr} (I : Inv X pins σ H s) (hf : ∀ b ∈ fp, FpOk X pins H b) (ho : ∀ b ∈ fp, ∃ o, s.heap.get? b = some o ∧ ∀ v, o.data ≠ .cell v) : Inv X (pins ++ pinsAt fp s.heap) σ H s :=
  I.pins_of fun p hp => (List.mem_append.mp hp).elim (fun z => I.pin p (List.mem_append_right _ z)) fun z => by
    obtain ⟨hb, e⟩ := of_pinsAt z
    obtain ⟨f0, f1, f2, _⟩ := hf p.1 hb
    obtain ⟨o, e', d⟩ := ho p.1 hb
    rw [e] at e'; cases e'
    exact ⟨e, f0, f1, f2, d⟩
theorem Inv.unpinned {pins pl : List (Addr × Obj)} {σ : St} {H : Hp} {s : Shared} (I : Inv X (pins ++ pl) σ H s) : Inv X pins σ H s := I.pins_of fun p hp => I.pin p (List.mem_append_right _ (List.mem_append_left _ hp))
theorem ps_for {iter : Expr} {body : List Stmt} {wi : TI} {g : TG} {tb : TS} {pos : Pos} (hp : PassesOwn (model X.prog X.w) X.A X.env X.xe) (hc : X.calm = true) (hi : PI X tg iter wi) (hg : PG X tg g) (hb : PSs X body tb)
    (hs : ∀ x, foldedSetIterable iter X.env x = pure x := by intro _; rfl) : PS X (.For tg iter body [] pos) (tFor wi g tb) := by
  intro pins s σ H D I h
  refine wpAny_For (thn (hi pins s σ H _ I h) fun v s1 h1 => thn h1 fun itv s2 h2 => ?_) hs
  obtain ⟨it, fp, tn, J, H2, e, I2, T, st2, f2, W, ⟨m0, w0⟩, turn⟩ := h2
  subst e
  -- what stays true of the iterator's objects through the loop
  have stat : ∀ {H' : Hp}, (∀ b ∈ fp, H' b = none) → ∀ b ∈ fp, FpOk X pins H' b := fun hn b hb => ⟨hn b hb, (f2 b hb).2⟩
  refine codeAny_forLoop_any (fun n s' => ∃ i σ' H', Inv X pins σ' H' s' ∧ tn i s'.heap ∧ (∀ b ∈ fp, H' b = none) ∧ W i n σ' H') ?_ m0 ⟨0, σ, H2, I2, st2, fun b hb => (f2 b hb).1, w0⟩
  rintro n s3 ⟨i, σ3, H3, I3, st3, fr3, w3⟩
  rcases turn i n σ3 H3 w3 with ⟨stop, qn⟩ | ⟨go, N, hN, step⟩
  · refine wpAny_passesOwn hp (thn (T.done X rfl rfl rfl hc i pins s3 σ3 H3 X.xe I3 (stat fr3) st3 stop) fun r s4 ⟨hr, I4⟩ => ?_)
    subst hr
    exact wpAny_execs_nil ⟨σ3, H3, I4, qn⟩
  · refine wpAny_passesOwn hp (thn (T.item X rfl rfl rfl hc i pins s3 σ3 H3 X.xe I3 (stat fr3) st3 go) fun r s4 ⟨u, hr, h4⟩ => ?_)
    subst hr
    refine wpAny_passesOwn hp (thn h4 fun _ s5 ⟨x, H5, I5, r5, y5, st5, fr5⟩ => ?_)
    have I5' := I5.pinned (stat fr5) (T.obj _ _ st5)
    refine wpAny_passesOwn hp (thn (hg _ s5 σ3 H5 x u _ I5' r5 (step x H5 y5)) fun _ s6 ⟨σ6, H6, I6, q6⟩ => ?_)
    refine wpAny_passesOwn hp (thn (hb _ s6 σ6 H6 _ I6 q6) fun f s7 q7 => ?_)
    have again : ∀ {σ7 : St} {H7 : Hp}, Inv X (pins ++ pinsAt fp s5.heap) σ7 H7 s7 → N σ7 H7 → ∃ m, m < n ∧ ∃ i σ' H', Inv X pins σ' H' s7 ∧ tn i s7.heap ∧ (∀ b ∈ fp, H' b = none) ∧ W i m σ' H' := fun {σ7 H7} I7 n7 => by
      obtain ⟨m', hm, w7⟩ := hN σ7 H7 n7
      refine ⟨m', hm, i + 1, σ7, H7, I7.unpinned, T.keep _ _ _ st5 fun b hb o e => (I7.pin (b, o) (List.mem_append_right _ (List.mem_append_right _ (mem_pinsAt hb e)))).1, fun b hb => ?_, w7⟩
      obtain ⟨o, e, d⟩ := T.obj _ _ st5 b hb
      exact (I7.pin (b, o) (List.mem_append_right _ (List.mem_append_right _ (mem_pinsAt hb e)))).2.1
    cases f with
    | next => obtain ⟨σ7, H7, I7, n7⟩ := q7; exact again I7 n7
    | cont => obtain ⟨σ7, H7, I7, n7⟩ := q7; exact again I7 n7
    | brk => obtain ⟨σ7, H7, I7, q7⟩ := q7; exact ⟨σ7, H7, I7.unpinned, q7⟩
    | ret v => obtain ⟨x7, σ7, H7, I7, r7, q7⟩ := q7; exact ⟨x7, σ7, H7, I7.unpinned, r7, q7⟩
end

/-! ### the forms one uses -/
/-- over a list that the body leaves as it is -/
theorem for_list {K : PySem.W.Frag} {a : Addr} {xs : List V} {g : TG} {tb : TS} {D : Ends} {σ : St} {H : Hp} (Pv : Nat → St → Hp → Prop) (h0 : Pv 0 σ H) (hl : ∀ i σ H, i ≤ xs.length → Pv i σ H → SqL K H a xs)
    (hs : ∀ i x σ H, xs[i]? = some x → Pv i σ H → g x σ H fun σ2 H2 => tb { D with nx := Pv (i + 1), ct := Pv (i + 1), bk := D.nx } σ2 H2) (hd : ∀ σ H, Pv xs.length σ H → D.nx σ H) :
    ∃ W : Nat → Nat → St → Hp → Prop, (∃ m, W 0 m σ H) ∧ ∀ i m σ H, W i m σ H →
      ((Itl K a).stop i H ∧ D.nx σ H) ∨ ((Itl K a).go i H ∧ ∃ N : St → Hp → Prop, (∀ σ' H', N σ' H' → ∃ m', m' < m ∧ W (i + 1) m' σ' H') ∧ ∀ x H', (Itl K a).yld i H x H' → g x σ H' fun σ2 H2 => tb { D with nx := N, ct := N, bk := D.nx } σ2 H2) := by
  refine ⟨fun i m σ H => m = xs.length - i ∧ i ≤ xs.length ∧ Pv i σ H, ⟨xs.length, by simp, Nat.zero_le _, h0⟩, ?_⟩
  rintro i m σ H ⟨rfl, hi, p⟩
  have q := hl i σ H hi p
  by_cases hlt : i < xs.length
  · refine .inr ⟨⟨xs, xs[i], q, by simp [hlt]⟩, Pv (i + 1), fun σ' H' p' => ⟨xs.length - (i + 1), by omega, rfl, hlt, p'⟩, fun x H' y => ?_⟩
    obtain ⟨e, y⟩ := y
    subst e
    exact hs i x σ _ (y xs q) p
  · have e : i = xs.length := by omega
    subst e
    exact .inl ⟨⟨xs, q, Nat.le_refl _⟩, hd σ H p⟩
theorem for_tup {K : PySem.W.Frag} {a : Addr} {xs : List V} {g : TG} {tb : TS} {D : Ends} {σ : St} {H : Hp} (Pv : Nat → St → Hp → Prop) (h0 : Pv 0 σ H) (hl : ∀ i σ H, i ≤ xs.length → Pv i σ H → SqT K H a xs)
    (hs : ∀ i x σ H, xs[i]? = some x → Pv i σ H → g x σ H fun σ2 H2 => tb { D with nx := Pv (i + 1), ct := Pv (i + 1), bk := D.nx } σ2 H2) (hd : ∀ σ H, Pv xs.length σ H → D.nx σ H) :
    ∃ W : Nat → Nat → St → Hp → Prop, (∃ m, W 0 m σ H) ∧ ∀ i m σ H, W i m σ H →
      ((Itt K a).stop i H ∧ D.nx σ H) ∨ ((Itt K a).go i H ∧ ∃ N : St → Hp → Prop, (∀ σ' H', N σ' H' → ∃ m', m' < m ∧ W (i + 1) m' σ' H') ∧ ∀ x H', (Itt K a).yld i H x H' → g x σ H' fun σ2 H2 => tb { D with nx := N, ct := N, bk := D.nx } σ2 H2) := by
  refine ⟨fun i m σ H => m = xs.length - i ∧ i ≤ xs.length ∧ Pv i σ H, ⟨xs.length, by simp, Nat.zero_le _, h0⟩, ?_⟩
  rintro i m σ H ⟨rfl, hi, p⟩
  have q := hl i σ H hi p
  by_cases hlt : i < xs.length
  · refine .inr ⟨⟨xs, xs[i], q, by simp [hlt]⟩, Pv (i + 1), fun σ' H' p' => ⟨xs.length - (i + 1), by omega, rfl, hlt, p'⟩, fun x H' y => ?_⟩
    obtain ⟨e, y⟩ := y
    subst e
    exact hs i x σ _ (y xs q) p
  · have e : i = xs.length := by omega
    subst e
    exact .inl ⟨⟨xs, q, Nat.le_refl _⟩, hd σ H p⟩
theorem for_range {lo : Int} {n : Nat} {g : TG} {tb : TS} {D : Ends} {σ : St} {H : Hp} (Pv : Nat → St → Hp → Prop) (h0 : Pv 0 σ H)
    (hs : ∀ i σ H, i < n → Pv i σ H → g (.int (lo + i)) σ H fun σ2 H2 => tb { D with nx := Pv (i + 1), ct := Pv (i + 1), bk := D.nx } σ2 H2) (hd : ∀ σ H, Pv n σ H → D.nx σ H) :
    ∃ W : Nat → Nat → St → Hp → Prop, (∃ m, W 0 m σ H) ∧ ∀ i m σ H, W i m σ H →
      ((Itr lo n).stop i H ∧ D.nx σ H) ∨ ((Itr lo n).go i H ∧ ∃ N : St → Hp → Prop, (∀ σ' H', N σ' H' → ∃ m', m' < m ∧ W (i + 1) m' σ' H') ∧ ∀ x H', (Itr lo n).yld i H x H' → g x σ H' fun σ2 H2 => tb { D with nx := N, ct := N, bk := D.nx } σ2 H2) := by
  refine ⟨fun i m σ H => m = n - i ∧ i ≤ n ∧ Pv i σ H, ⟨n, by simp, Nat.zero_le _, h0⟩, ?_⟩
  rintro i m σ H ⟨rfl, hi, p⟩
  by_cases hlt : i < n
  · refine .inr ⟨hlt, Pv (i + 1), fun σ' H' p' => ⟨n - (i + 1), by omega, rfl, hlt, p'⟩, fun x H' y => ?_⟩
    obtain ⟨e, y⟩ := y
    subst e y
    exact hs i σ _ hlt p
  · have e : i = n := by omega
    subst e
    exact .inl ⟨Nat.le_refl _, hd σ H p⟩
end L2

namespace L2
open PySem PySem.Spec PyProof.Rows

abbrev R2 := V → V → Hp → VK → Prop
/-- a two-place operation on values: f is binaryOp op, inplaceOp op or compareOp op -/
def OpR (X : Cx) (f : Value → Value → Sem Value) (r : R2) : Prop :=
  ∀ (pins : List (Addr × Obj)) (s : Shared) (σ : St) (H : Hp) (x y : V) (v u : Value) (Q : VK), Inv X pins σ H s → RelV x v → RelV y u → r x y H Q →
    wpAny (model X.prog X.w) X.A (f v u) (EP X pins σ Q) X.xe s
/-- a one-place operation -/
def UnR (X : Cx) (f : Value → Sem Value) (r : V → Hp → VK → Prop) : Prop :=
  ∀ (pins : List (Addr × Obj)) (s : Shared) (σ : St) (H : Hp) (x : V) (v : Value) (Q : VK), Inv X pins σ H s → RelV x v → r x H Q →
    wpAny (model X.prog X.w) X.A (f v) (EP X pins σ Q) X.xe s
/-- a call of a value that is known (a builtin, a type) with values -/
def CallR (X : Cx) (f : Value) (r : List V → Hp → VK → Prop) : Prop :=
  ∀ (pins : List (Addr × Obj)) (s : Shared) (σ : St) (H : Hp) (xs : List V) (us : List Value) (Q : VK), Inv X pins σ H s → Vals xs us → r xs H Q →
    wpAny (model X.prog X.w) X.A (call f us) (EP X pins σ Q) X.xe s
def tOp (r : R2) (ta tb : TE) : TE := fun σ H Q => ta σ H fun x H1 => tb σ H1 fun y H2 => r x y H2 Q
def tUn (r : V → Hp → VK → Prop) (ta : TE) : TE := fun σ H Q => ta σ H fun x H1 => r x H1 Q
/-- ints in, under C, and a value out -/
def rI (C : Int → Int → Prop) (g : Int → Int → V) : R2 := fun x y H Q => ∃ i j, x = .int i ∧ y = .int j ∧ C i j ∧ Q (g i j) H
def rI0 (g : Int → Int → V) : R2 := fun x y H Q => ∃ i j, x = .int i ∧ y = .int j ∧ Q (g i j) H
def rU (g : Int → V) : V → Hp → VK → Prop := fun x H Q => ∃ i, x = .int i ∧ Q (g i) H

section
variable {X : Cx} {a b c : Expr} {ta tb tc : TE} {pos : Pos}

theorem binT (ha : PE X a ta) (hb : PE X b tb) {pins : List (Addr × Obj)} {s : Shared} {σ : St} {H : Hp} {R : V → V → Hp → Prop} (I : Inv X pins σ H s)
    (h : ta σ H fun x H1 => tb σ H1 fun y H2 => R x y H2) {Q : Value → Shared → Prop} {f : Value → Value → Sem Value}
    (hf : ∀ v u s2 x y H2, Inv X pins σ H2 s2 → RelV x v → RelV y u → R x y H2 → wpAny (model X.prog X.w) X.A (f v u) Q X.xe s2) :
    wpAny (model X.prog X.w) X.A (eval a X.env) (fun v s₁ => wpAny (model X.prog X.w) X.A (eval b X.env) (fun u s₂ => wpAny (model X.prog X.w) X.A (f v u) Q X.xe s₂) X.xe s₁) X.xe s := by
  refine thn (ha pins s σ H _ I h) fun v s1 ⟨x, H1, I1, r1, q1⟩ => ?_
  refine thn (hb pins s1 σ H1 _ I1 q1) fun u s2 ⟨y, H2, I2, r2, q2⟩ => ?_
  exact hf v u s2 x y H2 I2 r1 r2 q2

theorem pe_op {op : Operator} {r : R2} (ho : OpR X (binaryOp op) r) (ha : PE X a ta) (hb : PE X b tb) : PE X (.BinOp a op b pos) (tOp r ta tb) := by
  intro pins s σ H Q I h
  exact wpAny_BinOp (binT ha hb I h fun v u s2 x y H2 I2 rx ry q => ho pins s2 σ H2 x y v u Q I2 rx ry q)
theorem pe_un {op : UnaryOp} {r : V → Hp → VK → Prop} (ho : UnR X (unaryOp op) r) (ha : PE X a ta) : PE X (.UnaryOp op a pos) (tUn r ta) := by
  intro pins s σ H Q I h
  exact UnaryOp_ (thn (ha pins s σ H _ I h) fun v s1 ⟨x, H1, I1, r1, q1⟩ => ho pins s1 σ H1 x v Q I1 r1 q1)
/-! ### ints -/
theorem opI {f : Value → Value → Sem Value} {C : Int → Int → Prop} {g : Int → Int → Int}
    (rule : ∀ (i j : Int) (t u : Tok) (s : Shared) (Q : Value → Shared → Prop) (E : Value → Shared → Prop), C i j → Q (.int (g i j) s.toks) { s with toks := s.toks + 1 } → wpAny (model X.prog X.w) X.A (f (.int i t) (.int j u)) Q E s) :
    OpR X f (rI C fun i j => .int (g i j)) := by
  intro pins s σ H x y v u Q I rx ry h
  obtain ⟨i, j, rfl, rfl, hc, q⟩ := h
  obtain ⟨t, rfl⟩ := rx
  obtain ⟨t', rfl⟩ := ry
  exact rule i j t t' s _ _ hc ⟨.int (g i j), H, I.tok _, ⟨_, rfl⟩, q⟩
theorem opI0 {f : Value → Value → Sem Value} {g : Int → Int → Int}
    (rule : ∀ (i j : Int) (t u : Tok) (s : Shared) (Q : Value → Shared → Prop) (E : Value → Shared → Prop), Q (.int (g i j) s.toks) { s with toks := s.toks + 1 } → wpAny (model X.prog X.w) X.A (f (.int i t) (.int j u)) Q E s) :
    OpR X f (rI0 fun i j => .int (g i j)) := by
  intro pins s σ H x y v u Q I rx ry h
  obtain ⟨i, j, rfl, rfl, q⟩ := h
  obtain ⟨t, rfl⟩ := rx
  obtain ⟨t', rfl⟩ := ry
  exact rule i j t t' s _ _ ⟨.int (g i j), H, I.tok _, ⟨_, rfl⟩, q⟩
theorem opB0 {f : Value → Value → Sem Value} {g : Int → Int → Bool}
    (rule : ∀ (i j : Int) (t u : Tok) (s : Shared) (Q : Value → Shared → Prop) (E : Value → Shared → Prop), Q (.bool (g i j)) s → wpAny (model X.prog X.w) X.A (f (.int i t) (.int j u)) Q E s) :
    OpR X f (rI0 fun i j => .bl (g i j)) := by
  intro pins s σ H x y v u Q I rx ry h
  obtain ⟨i, j, rfl, rfl, q⟩ := h
  obtain ⟨t, rfl⟩ := rx
  obtain ⟨t', rfl⟩ := ry
  exact rule i j t t' s _ _ ⟨.bl (g i j), H, I, rfl, q⟩

def CDiv (i j : Int) : Prop := 0 < j ∧ j < 1073741824
def CPow (i j : Int) : Prop := 0 ≤ j ∧ j ≤ 1000000 ∧ i.natAbs < 2 ^ 64
def CMul (i j : Int) : Prop := (-(2 ^ 64) < i ∧ i < 2 ^ 64) ∨ (-(2 ^ 64) < j ∧ j < 2 ^ 64)
theorem CMul.ok {i j : Int} (h : CMul i j) : IntMulOk i j := by
  rcases h with ⟨h1, h2⟩ | ⟨h1, h2⟩
  · exact .of_left (intBits_le_64 h1 h2)
  · exact .of_right (intBits_le_64 h1 h2)
theorem op_add : OpR X (binaryOp .Add) (rI0 fun i j => .int (i + j)) := opI0 fun _ _ _ _ _ _ _ q => add_int q
theorem op_sub : OpR X (binaryOp .Sub) (rI0 fun i j => .int (i - j)) := opI0 fun _ _ _ _ _ _ _ q => sub_int q
theorem op_mul : OpR X (binaryOp .Mult) (rI CMul fun i j => .int (i * j)) := opI fun _ _ _ _ _ _ _ hc q => mul_int q hc.ok
/-- // by a positive divisor -/
theorem op_fdiv : OpR X (binaryOp .FloorDiv) (rI CDiv fun i j => .int (i / j)) := opI fun i j _ _ _ _ _ hc q => by
  have h1 : (0 : Int) < j := hc.1
  have h2 : j < 1073741824 := hc.2
  exact floordiv_int (by omega) (by rw [Int.fdiv_eq_ediv_of_nonneg i (by omega)]; exact q) (.inl (PyProof.noPylong_small (by omega)))
/-- % by a positive divisor of any size -/
theorem op_mod : OpR X (binaryOp .Mod) (rI (fun _ j => 0 < j) fun i j => .int (i % j)) := opI fun i j _ _ _ _ _ hc q => by
  have h1 : (0 : Int) < j := hc
  exact mod_int' (by omega) (by rw [Int.fmod_eq_emod_of_nonneg i (by omega)]; exact q)
theorem op_pow : OpR X (binaryOp .Pow) (rI CPow fun i j => .int (i ^ j.toNat)) := opI fun _ _ _ _ _ _ _ hc q => pow_int_small hc.1 hc.2.1 hc.2.2 q
theorem unI {f : Value → Sem Value} {g : Int → Int}
    (rule : ∀ (i : Int) (t : Tok) (s : Shared) (Q : Value → Shared → Prop) (E : Value → Shared → Prop), Q (.int (g i) s.toks) { s with toks := s.toks + 1 } → wpAny (model X.prog X.w) X.A (f (.int i t)) Q E s) :
    UnR X f (rU fun i => .int (g i)) := by
  intro pins s σ H x v Q I rx h
  obtain ⟨i, rfl, q⟩ := h
  obtain ⟨t, rfl⟩ := rx
  exact rule i t s _ _ ⟨.int (g i), H, I.tok _, ⟨_, rfl⟩, q⟩
theorem un_neg : UnR X (unaryOp .USub) (rU fun i => .int (-i)) := unI fun _ _ _ _ _ q => neg_int q
/-! ### bools among ints: n += (a < b) -/
end

/-! ### comparisons -/
/-- the scalars that == tells apart as data does -/
def scal : V → V → Bool
  | .non, .non => true | .non, .int _ => true | .int _, .non => true | .non, .bl _ => true | .bl _, .non => true | .non, .str _ => true | .str _, .non => true
  | .int _, .int _ => true | .bl _, .bl _ => true | .str _, .str _ => true | .byt _, .byt _ => true
  | .int _, .str _ => true | .str _, .int _ => true | .bl _, .str _ => true | .str _, .bl _ => true
  | _, _ => false
def rEq : R2 := fun x y H Q => scal x y = true ∧ Q (.bl (decide (x = y))) H
def rNe : R2 := fun x y H Q => scal x y = true ∧ Q (.bl (!decide (x = y))) H

theorem dec_int {i j : Int} : decide (V.int i = V.int j) = (i == j) := by
  rw [Bool.eq_iff_iff]
  simp
theorem dec_bl {i j : Bool} : decide (V.bl i = V.bl j) = (i == j) := by
  rw [Bool.eq_iff_iff]
  simp
theorem dec_str {i j : Str} : decide (V.str i = V.str j) = (i == j) := by
  rw [Bool.eq_iff_iff]
  simp
theorem dec_byt {i j : Array UInt8} : decide (V.byt i = V.byt j) = (i.toList == j.toList) := by
  rw [Bool.eq_iff_iff]
  cases i
  cases j
  simp

section
variable {X : Cx} {a b c : Expr} {ta tb tc : TE} {pos : Pos}
theorem fin_bl {pins : List (Addr × Obj)} {σ : St} {H : Hp} {s : Shared} {Q : VK} {k k' : Bool} (I : Inv X pins σ H s) (q : Q (.bl k) H) (e : k = k') : EP X pins σ Q (.bool k') s := by
  subst e
  exact ⟨.bl k, H, I, rfl, q⟩
theorem op_eq : OpR X (compareOp .Eq) rEq := by
  intro pins s σ H x y v u Q I rx ry h
  obtain ⟨hs, q⟩ := h
  cases x with
  | non =>
    cases rx
    cases y with
    | non => cases ry; exact PySem.EqNone.eq_none_none (fin_bl I q (by simp))
    | bl j => cases ry; exact PySem.EqNone.eq_none_bool (fin_bl I q (by simp))
    | int j => obtain ⟨t', rfl⟩ := ry; exact PySem.EqNone.eq_none_int (fin_bl I q (by simp))
    | str j => obtain ⟨t', rfl⟩ := ry; exact PySem.EqNone.eq_none_str (fin_bl I q (by simp))
    | _ => exact absurd (show false = true from hs) Bool.false_ne_true
  | bl i =>
    cases rx
    cases y with
    | non => cases ry; exact PySem.EqNone.eq_bool_none (fin_bl I q (by simp))
    | bl j => cases ry; exact eq_bool (fin_bl I q dec_bl)
    | str j => obtain ⟨t', rfl⟩ := ry; exact PySem.EqMixed.eq_bool_str (fin_bl I q (by simp))
    | _ => exact absurd (show false = true from hs) Bool.false_ne_true
  | int i =>
    obtain ⟨t, rfl⟩ := rx
    cases y with
    | non => cases ry; exact PySem.EqNone.eq_int_none (fin_bl I q (by simp))
    | int j => obtain ⟨t', rfl⟩ := ry; exact eq_int (fin_bl I q dec_int)
    | str j => obtain ⟨t', rfl⟩ := ry; exact PySem.EqMixed.eq_int_str (fin_bl I q (by simp))
    | _ => exact absurd (show false = true from hs) Bool.false_ne_true
  | str i =>
    obtain ⟨t, rfl⟩ := rx
    cases y with
    | non => cases ry; exact PySem.EqNone.eq_str_none (fin_bl I q (by simp))
    | bl j => cases ry; exact PySem.EqMixed.eq_str_bool (fin_bl I q (by simp))
    | int j => obtain ⟨t', rfl⟩ := ry; exact PySem.EqMixed.eq_str_int (fin_bl I q (by simp))
    | str j => obtain ⟨t', rfl⟩ := ry; exact eq_str (fin_bl I q dec_str)
    | _ => exact absurd (show false = true from hs) Bool.false_ne_true
  | byt i =>
    obtain ⟨t, rfl⟩ := rx
    cases y with
    | byt j => obtain ⟨t', rfl⟩ := ry; exact PySem.W.eq_bytes (fin_bl I q dec_byt)
    | _ => exact absurd (show false = true from hs) Bool.false_ne_true
  | _ => cases y <;> exact absurd (show false = true from hs) Bool.false_ne_true
theorem op_ne : OpR X (compareOp .NotEq) rNe := by
  intro pins s σ H x y v u Q I rx ry h
  obtain ⟨hs, q⟩ := h
  cases x with
  | non =>
    cases rx
    cases y with
    | non => cases ry; exact PySem.EqNone.ne_none_none (fin_bl I q (by simp))
    | bl j => cases ry; exact PySem.EqNone.ne_none_bool (fin_bl I q (by simp))
    | int j => obtain ⟨t', rfl⟩ := ry; exact PySem.EqNone.ne_none_int (fin_bl I q (by simp))
    | str j => obtain ⟨t', rfl⟩ := ry; exact PySem.EqNone.ne_none_str (fin_bl I q (by simp))
    | _ => exact absurd (show false = true from hs) Bool.false_ne_true
  | bl i =>
    cases rx
    cases y with
    | non => cases ry; exact PySem.EqNone.ne_bool_none (fin_bl I q (by simp))
    | bl j => cases ry; exact ne_bool (fin_bl I q (congrArg not dec_bl))
    | str j => obtain ⟨t', rfl⟩ := ry; exact PySem.EqMixed.ne_bool_str (fin_bl I q (by simp))
    | _ => exact absurd (show false = true from hs) Bool.false_ne_true
  | int i =>
    obtain ⟨t, rfl⟩ := rx
    cases y with
    | non => cases ry; exact PySem.EqNone.ne_int_none (fin_bl I q (by simp))
    | int j => obtain ⟨t', rfl⟩ := ry; exact ne_int (fin_bl I q (congrArg not dec_int))
    | str j => obtain ⟨t', rfl⟩ := ry; exact PySem.EqMixed.ne_int_str (fin_bl I q (by simp))
    | _ => exact absurd (show false = true from hs) Bool.false_ne_true
  | str i =>
    obtain ⟨t, rfl⟩ := rx
    cases y with
    | non => cases ry; exact PySem.EqNone.ne_str_none (fin_bl I q (by simp))
    | bl j => cases ry; exact PySem.EqMixed.ne_str_bool (fin_bl I q (by simp))
    | int j => obtain ⟨t', rfl⟩ := ry; exact PySem.EqMixed.ne_str_int (fin_bl I q (by simp))
    | str j => obtain ⟨t', rfl⟩ := ry; exact ne_str (fin_bl I q (congrArg not dec_str))
    | _ => exact absurd (show false = true from hs) Bool.false_ne_true
  | byt i =>
    obtain ⟨t, rfl⟩ := rx
    cases y with
    | byt j => obtain ⟨t', rfl⟩ := ry; exact PySem.W.ne_bytes (fin_bl I q (congrArg not dec_byt))
    | _ => exact absurd (show false = true from hs) Bool.false_ne_true
  | _ => cases y <;> exact absurd (show false = true from hs) Bool.false_ne_true

theorem op_lt : OpR X (compareOp .Lt) (rI0 fun i j => .bl (decide (i < j))) := opB0 fun _ _ _ _ _ _ _ q => lt_int q
theorem op_le : OpR X (compareOp .LtE) (rI0 fun i j => .bl (decide (i ≤ j))) := opB0 fun _ _ _ _ _ _ _ q => le_int q
theorem op_gt : OpR X (compareOp .Gt) (rI0 fun i j => .bl (decide (j < i))) := opB0 fun _ _ _ _ _ _ _ q => gt_int q
theorem op_ge : OpR X (compareOp .GtE) (rI0 fun i j => .bl (decide (j ≤ i))) := opB0 fun _ _ _ _ _ _ _ q => ge_int q
/-- two rules for one operation: by cases -/
theorem OpR.or {f : Value → Value → Sem Value} {r r' : R2} (h : OpR X f r) (h' : OpR X f r') : OpR X f (fun x y H Q => r x y H Q ∨ r' x y H Q) := by
  intro pins s σ H x y v u Q I rx ry q
  rcases q with q | q
  · exact h pins s σ H x y v u Q I rx ry q
  · exact h' pins s σ H x y v u Q I rx ry q

theorem nomark (b : Expr) {op : CmpOp} (h : op ≠ .In := by decide) (h2 : op ≠ .NotIn := by decide) : behindInMarks op b = false := by
  have e1 : (op == CmpOp.In) = false := by cases op <;> first | rfl | exact absurd rfl h
  have e2 : (op == CmpOp.NotIn) = false := by cases op <;> first | rfl | exact absurd rfl h2
  cases b <;> simp [behindInMarks, e1, e2]
/-- a comparison as a value; hm: nomark b, or (for in, not in) by with_unfolding_all rfl -/
theorem pe_cmpR {op : CmpOp} {r : R2} (ho : OpR X (compareOp op) r) (ha : PE X a ta) (hb : PE X b tb) (hm : behindInMarks op b = false) : PE X (.Compare a [op] [b] pos) (tOp r ta tb) := by
  intro pins s σ H Q I h
  exact wpAny_Compare1 (binT ha hb I h fun v u s2 x y H2 I2 rx ry q => ho pins s2 σ H2 x y v u Q I2 rx ry q) hm
/-- a reading of a value as a test -/
def tTest (t : TE) : TT := fun σ H Q => t σ H fun x H' => ∃ k, x = .bl k ∧ Q k H'
theorem pt_cmpR {op : CmpOp} {r : R2} (ho : OpR X (compareOp op) r) (ha : PE X a ta) (hb : PE X b tb) (hm : behindInMarks op b = false) : PT X (.Compare a [op] [b] pos) (tTest (tOp r ta tb)) := by
  intro pins s σ H Q I h
  refine wpAny_isTrue_Compare1 (thn (ha pins s σ H _ I h) fun v s1 ⟨x, H1, I1, r1, q1⟩ => thn (hb pins s1 σ H1 _ I1 q1) fun u s2 ⟨y, H2, I2, r2, q2⟩ =>
    thn (ho pins s2 σ H2 x y v u _ I2 r1 r2 q2) fun c s3 ⟨z, H3, I3, r3, k, e, q3⟩ => ?_) hm
  subst e
  cases r3
  exact wpAny_truthy_bool ⟨H3, I3, q3⟩
/-- a op1 b op2 c -/
def tChain (r r' : R2) (ta tb tc : TE) : TE := fun σ H Q => ta σ H fun x H1 => tb σ H1 fun y H2 => r x y H2 fun z H3 => ∃ k, z = .bl k ∧
  (if k = true then tc σ H3 fun w' H4 => r' y w' H4 Q else Q (.bl false) H3)
theorem pe_chain {op op' : CmpOp} {r r' : R2} (ho : OpR X (compareOp op) r) (ho' : OpR X (compareOp op') r') (ha : PE X a ta) (hb : PE X b tb) (hc : PE X c tc)
    (hm : lastMarks [op, op'] [b, c] = false := by with_unfolding_all rfl) : PE X (.Compare a [op, op'] [b, c] pos) (tChain r r' ta tb tc) := by
  intro pins s σ H Q I h
  refine Compare_chain (thn (ha pins s σ H _ I h) fun v s1 ⟨x, H1, I1, r1, q1⟩ => chain_link (thn (hb pins s1 σ H1 _ I1 q1) fun u s2 ⟨y, H2, I2, r2, q2⟩ =>
    thn (ho pins s2 σ H2 x y v u _ I2 r1 r2 q2) fun d s3 ⟨z, H3, I3, r3, k, e, q3⟩ => ?_)) hm
  subst e
  cases r3
  refine wpAny_truthy_bool ?_
  cases k with
  | false => exact ite_ff ⟨.bl false, H3, I3, rfl, q3⟩
  | true => exact ite_tt (chain_last (thn (hc pins s3 σ H3 _ I3 q3) fun w' s4 ⟨z', H4, I4, r4, q4⟩ => ho' pins s4 σ H4 y z' u w' Q I4 r2 r4 q4))
/-! ### truth -/
theorem line63 : (sizeLine : Nat) < 2 ^ 63 := by rw [sizeLine_eq]; decide
/-! ### strs and bytes -/
/-! ### scalar builtins, by CallR -/
theorem vals1 {x : V} {us : List Value} (r : Vals [x] us) : ∃ u, us = [u] ∧ RelV x u := by
  cases r with
  | cons r1 r2 => cases r2; exact ⟨_, rfl, r1⟩
theorem vals2 {x y : V} {us : List Value} (r : Vals [x, y] us) : ∃ u w', us = [u, w'] ∧ RelV x u ∧ RelV y w' := by
  cases r with
  | cons r1 r2 =>
    cases r2 with
    | cons r3 r4 => cases r4; exact ⟨_, _, rfl, r1, r3⟩
theorem call_int1 : CallR X (.type "int") (fun xs H Q => (∃ i, xs = [.int i] ∧ Q (.int i) H) ∨ ∃ k, xs = [.bl k] ∧ Q (.int (if k then 1 else 0)) H) := by
  intro pins s σ H xs us Q I r h
  rcases h with ⟨i, rfl, q⟩ | ⟨k, rfl, q⟩
  · obtain ⟨u, rfl, t, rfl⟩ := vals1 r
    exact call_int_int ⟨.int i, H, I, ⟨_, rfl⟩, q⟩
  · obtain ⟨u, rfl, r1⟩ := vals1 r
    cases r1
    exact call_int_bool ⟨.int (if k then 1 else 0), H, I.tok _, ⟨_, rfl⟩, q⟩
theorem call_str_int : CallR X (.type "str") (fun xs H Q => ∃ i, xs = [.int i] ∧ i.natAbs.log2 < 1920 ∧ Q (.str (toString i)) H) := by
  intro pins s σ H xs us Q I r h
  obtain ⟨i, rfl, hz, q⟩ := h
  obtain ⟨u, rfl, t, rfl⟩ := vals1 r
  exact PySem.P.str_of_int hz ⟨.str _, H, I.tok _, ⟨_, rfl⟩, q⟩
end
end L2

namespace L2
open PySem PySem.Spec PyProof.Rows

/-! ### an instance, its attributes a map -/
structure ObjM (h : Heap) (x dx C : Addr) (mA : Str → Option Value) : Prop where
  obj : h.get? x = some (PySem.W.instObj C dx)
  ns : h.Ns1 dx mA
  ne : dx ≠ x

theorem lookIn_ns {h : Heap} {dx : Addr} {mA : Str → Option Value} (n : h.Ns1 dx mA) : ∃ od, h.get? dx = some od ∧ ∀ name, PySem.W.lookIn name od = some (mA name) := by
  obtain ⟨o, es, ep, ho, hd, hk, _, hm⟩ := n
  refine ⟨o, ho, fun name => ?_⟩
  have e := hm name
  unfold nsFind findBy at e
  rw [← Array.find?_toList] at e
  unfold PySem.W.lookIn
  rw [hd]
  dsimp only
  split
  · rename_i y q
    rw [q] at e
    exact congrArg some e
  · rename_i q
    rw [q] at e
    have a : es.toList.any (·.refKey) = false := by
      rw [List.any_eq_false]
      intro y hy
      obtain ⟨z, t, hkey⟩ := hk y (Array.mem_toList_iff.mp hy)
      simp [DictEntry.refKey, hkey]
    have a' : ¬ es.toList.any (·.refKey) = true := by rw [a]; exact Bool.false_ne_true
    rw [if_neg a']
    exact congrArg some e

theorem ObjM.look {h : Heap} {x dx C : Addr} {mA : Str → Option Value} (I : ObjM h x dx C mA) : ∃ od, PySem.W.InstAt h x (PySem.W.instObj C dx) C (some od) ∧ ∀ name, PySem.W.lookIn name od = some (mA name) :=
  let ⟨od, ho, hl⟩ := lookIn_ns I.ns
  ⟨od, ⟨I.obj, rfl, rfl, ho⟩, hl⟩

section
variable {prog : Program} {w : World} {A : Around} {E : Value → Shared → Prop} {s : Shared} {K : PySem.W.Frag} {x dx C f : Addr} {mA : Str → Option Value} {name : Str} {v : Value}

end

/-! ### the attributes as a list of pairs -/
def putF (f : Str) (v : V) : List (Str × V) → List (Str × V)
  | [] => [(f, v)]
  | (g, x) :: r => if g = f then (g, v) :: r else (g, x) :: putF f v r
theorem lookup_putF (f g : Str) (v : V) : ∀ fs : List (Str × V), (putF f v fs).lookup g = if g = f then some v else fs.lookup g
  | [] => by
    show List.lookup g [(f, v)] = _
    by_cases h : g = f
    · have hb : (g == f) = true := beq_iff_eq.mpr h
      simp only [List.lookup, hb, if_pos h]
    · have hb : (g == f) = false := beq_eq_false_iff_ne.mpr h
      simp only [List.lookup, hb, if_neg h]
  | (k, x) :: r => by
    have ih := lookup_putF f g v r
    rw [show putF f v ((k, x) :: r) = (if k = f then (k, v) :: r else (k, x) :: putF f v r) from rfl]
    by_cases hk : k = f
    · rw [if_pos hk]
      by_cases h : g = k
      · have hb : (g == k) = true := beq_iff_eq.mpr h
        simp only [List.lookup, hb, if_pos (h.trans hk)]
      · have hb : (g == k) = false := beq_eq_false_iff_ne.mpr h
        simp only [List.lookup, hb, if_neg (fun e : g = f => h (e.trans hk.symm))]
    · rw [if_neg hk]
      by_cases h : g = k
      · have hb : (g == k) = true := beq_iff_eq.mpr h
        simp only [List.lookup, hb, if_neg (fun e : g = f => hk (h.symm.trans e))]
      · have hb : (g == k) = false := beq_eq_false_iff_ne.mpr h
        simp only [List.lookup, hb]
        exact ih
theorem RelO.some_of {v : V} {o : Option Value} (r : RelO (some v) o) : ∃ u, o = some u ∧ RelV v u := by
  cases o with
  | none => exact (show False from r).elim
  | some u => exact ⟨u, rfl, r⟩
theorem handed_of {v : V} {u : Value} (r : RelV v u) : PySem.W.handedIn u = true := by
  cases v with
  | non => cases (show u = Value.none from r); rfl
  | bl b => cases (show u = Value.bool b from r); rfl
  | int i => obtain ⟨t, e⟩ := (show ∃ t, u = Value.int i t from r); cases e; rfl
  | str x => obtain ⟨t, e⟩ := (show ∃ t, u = Value.str x t from r); cases e; rfl
  | byt b => obtain ⟨t, e⟩ := (show ∃ t, u = Value.bytes b t from r); cases e; rfl
  | flt b => obtain ⟨t, e⟩ := (show ∃ t, u = Value.float b t from r); cases e; rfl
  | ref a => cases (show u = Value.ref a from r); rfl
  | ty n => cases (show u = Value.type n from r); rfl

section
variable {P : Program} {w : World} {H H' : Hp} {h h' : Heap} {a C dx : Addr} {fs fs' : List (Str × V)}
theorem ins_get (hok : HOk P w H h) (e : H a = some (.ins C dx fs)) : ∃ mA, ObjM h a dx C mA ∧ (∀ f, RelO (fs.lookup f) (mA f)) ∧ PySem.Within mA (fs.map (·.1)) ∧ fs.length ≤ 1000 ∧ H dx = some (.own a) := by
  obtain ⟨d, z, ne, ob, mA, n, r, q⟩ := (show ObjOk P w H h a (.ins C dx fs) from hok a _ e)
  exact ⟨mA, ⟨ob, n, ne⟩, r, q, z, d⟩
end

/-! ### what of the text a class must have -/
structure Cls (K : PySem.W.Frag) (C : Addr) : Prop where
  pg : PySem.W.plainGet K C Str.empty = true
  hd : PySem.W.hasDictIn K C = true
  po : PySem.W.plainOver K C = true
  sa : PySem.W.findIn K (.ref C) "__setattr__" = some (some (.builtin "object.__setattr__"))
theorem Cls.get {K : PySem.W.Frag} {C : Addr} (c : Cls K C) (f : Str) : PySem.W.plainGet K C f = true := c.pg
/-- a constant of the class -/
structure Con (K : PySem.W.Frag) (C : Addr) (f : Str) (v : V) (u : Value) : Prop where
  at_ : PySem.W.findIn K (.ref C) f = some (some u)
  rel : RelV v u
  get : PySem.W.specialIn K u "__get__" = some none
  cp : PySem.W.copiedNames.contains f = false
/-- a method: a plain def of the class or of one above it -/
structure Meth (K : PySem.W.Frag) (C : Addr) (m : Str) (f : Addr) : Prop where
  at_ : PySem.W.findIn K (.ref C) m = some (some (.ref f))
  fn : PySem.W.isFn K (.ref f) = true
  kp : PySem.W.keepIn K (.ref f) = true

section
variable {X : Cx} {pins : List (Addr × Obj)} {σ : St} {H : Hp} {s : Shared} {a C dx : Addr} {fs : List (Str × V)} {f : Str} {v : V} {A : Around} {E : Value → Shared → Prop}

/-- a new instance, tracked, without attributes -/
theorem Inv.made (I : Inv X pins σ H s) : Inv X pins σ (upd (upd H s.heap.objs.size (.own (s.heap.objs.size + 1))) (s.heap.objs.size + 1) (.ins C s.heap.objs.size []))
    { s with heap := (s.heap.push PySem.W.emptyDict).push (PySem.W.instObj C s.heap.objs.size) } := by
  have e1 : (s.heap.push PySem.W.emptyDict).get? s.heap.objs.size = some PySem.W.emptyDict := Heap.get?_push_size s.heap rfl
  have e2 : ((s.heap.push PySem.W.emptyDict).push (PySem.W.instObj C s.heap.objs.size)).get? (s.heap.objs.size + 1) = some (PySem.W.instObj C s.heap.objs.size) := by
    have := Heap.get?_push_size (s.heap.push PySem.W.emptyDict) (o := PySem.W.instObj C s.heap.objs.size) rfl
    rwa [Heap.size_push] at this
  have e3 : (s.heap.push PySem.W.emptyDict).Ns s.heap.objs.size (fun _ => none) := ⟨PySem.W.emptyDict, #[], _, e1, rfl, (fun e he => absurd he (by simp)), fun _ => rfl⟩
  have I1 := I.laid (a := s.heap.objs.size) (o := .own (s.heap.objs.size + 1)) (h' := s.heap.push PySem.W.emptyDict) (t' := s.toks) (fun b u q => Heap.get?_push_of_some _ q) (Nat.le_refl _) ⟨_, e1⟩
  refine I1.laid (a := s.heap.objs.size + 1) (o := .ins C s.heap.objs.size []) (t' := s.toks) (fun b u q => Heap.get?_push_of_some _ q) (Nat.le_of_eq (Heap.size_push _ _)) ?_
  have ne : s.heap.objs.size ≠ s.heap.objs.size + 1 := Nat.ne_of_lt (Nat.lt_succ_self _)
  refine ⟨by rw [upd_ne ne, upd_same], Nat.zero_le _, ne, e2, fun _ => none, (Heap.Ns1.of_empty e3).at fun o q => Heap.get?_push_of_some _ q, fun _ => True.intro, fun y hy => absurd rfl hy⟩

/-- e.f where nothing but the object is asked: through attributeBase (super) and the last hold -/
theorem attr_of {prog : Program} {w : World} {env : Env} {e : Expr} {f : Str} {pos : Pos} {s : Shared} {Q : Value → Shared → Prop} (hb : attributeBase e f env (eval e env) = eval e env)
    (h : wpAny (model prog w) A (eval e env) (fun o s₁ => wpAny (model prog w) A (getAttr o f true) Q E s₁) E s) : wpAny (model prog w) A (eval (.Attribute e f pos) env) Q E s :=
  Attribute_any_ h (by rw [arm_eval_Attribute, hb])
end

/-! ### readings and rules -/
section
variable {X : Cx} {o e value : Expr} {f : Str} {pos pos' tpos : Pos} {ta tv : TE}
end

/-! ### isinstance -/
section
variable {X : Cx} {pins : List (Addr × Obj)} {σ : St} {H : Hp} {s : Shared} {A : Around} {E : Value → Shared → Prop} {Q : Value → Shared → Prop} {c : Value} {b : Bool}
/-- the type of a value, as the fragment's deciders take it; for an instance its class -/
inductive TyOf (K : PySem.W.Frag) (H : Hp) : V → Value → Prop where
  | non : TyOf K H .non (.type "NoneType")
  | bl (x : Bool) : TyOf K H (.bl x) (.type "bool")
  | int (i : Int) : TyOf K H (.int i) (.type "int")
  | str (x : Str) : TyOf K H (.str x) (.type "str")
  | flt (x : UInt64) : TyOf K H (.flt x) (.type "float")
  | lst {a : Addr} {xs : List V} (e : H a = some (.lst xs)) : TyOf K H (.ref a) (.type "list")
  | frz {a : Addr} {o : Obj} {xs : List V} (e : H a = some (.frz o (.lst xs))) : TyOf K H (.ref a) (.type "list")
  | tup {a : Addr} {xs : List V} (e : H a = some (.tup xs)) : TyOf K H (.ref a) (.type "tuple")
  | dK {a : Addr} {kvs : List (Key × V)} (e : H a = some (.dK kvs)) : TyOf K H (.ref a) (.type "dict")
  | dT {a : Addr} {kvs : List (List Key × V)} (e : H a = some (.dT kvs)) : TyOf K H (.ref a) (.type "dict")
  | ins {a C dx : Addr} {fs : List (Str × V)} (e : H a = some (.ins C dx fs)) (cl : Cls K C) (ha : PySem.W.findIn K (.ref C) "__class__" = some (some (.builtin "object.__class__")))
      (hn : PySem.W.specialIn K (.builtin "object.__class__") "__get__" = some (some (.builtin "getset_descriptor.__get__"))) (htk : PySem.W.takesIn K (.builtin "object.__class__") = some true)
      (hm : PySem.W.mroIn K C (.type "object") = some true) : TyOf K H (.ref a) (.ref C)
/-- isinstance(x, c) for one class c, a built-in or an own one: kitOne's answer -/
theorem isinst_ok {x : V} {u t : Value} (I : Inv X pins σ H s) (rx : RelV x u) (ty : TyOf X.K H x t) (e : PySem.W.kitOne X.K t c = some b) (h : ∀ tk, Q (.bool b) { s with toks := tk }) :
    wpAny (model X.prog X.w) A (call (.builtin "isinstance") [u, c]) Q E s := by
  cases ty with
  | non => cases (show u = Value.none from rx); exact PySem.W.kia_one PySem.W.kitx_none I.kIn True.intro e (fun z => nomatch z) h
  | bl y => cases (show u = Value.bool y from rx); exact PySem.W.kia_one PySem.W.kitx_bool I.kIn True.intro e (fun z => nomatch z) h
  | int i => obtain ⟨t, q⟩ := (show ∃ t, u = Value.int i t from rx); cases q; exact PySem.W.kia_one PySem.W.kitx_int I.kIn True.intro e (fun z => nomatch z) h
  | str y => obtain ⟨t, q⟩ := (show ∃ t, u = Value.str y t from rx); cases q; exact PySem.W.kia_one PySem.W.kitx_str I.kIn True.intro e (fun z => nomatch z) h
  | flt y => obtain ⟨t, q⟩ := (show ∃ t, u = Value.float y t from rx); cases q; exact PySem.W.kia_one PySem.W.kitx_float I.kIn True.intro e (fun z => nomatch z) h
  | @lst a xs ea =>
    cases (show u = Value.ref a from rx)
    obtain ⟨_, _, n, _, h1⟩ := (show ObjOk X.prog X.w H s.heap a (.lst xs) from I.hok a _ ea)
    exact PySem.W.kia_one PySem.W.kitx_list I.kIn ⟨_, h1, rfl⟩ e (fun z => nomatch z) h
  | @frz a ob xs ea =>
    cases (show u = Value.ref a from rx)
    obtain ⟨_, _, _, n, _, h1⟩ := (show ObjOk X.prog X.w H s.heap a (.frz ob (.lst xs)) from I.hok a _ ea)
    exact PySem.W.kia_one PySem.W.kitx_list I.kIn ⟨_, h1, rfl⟩ e (fun z => nomatch z) h
  | @tup a xs ea =>
    cases (show u = Value.ref a from rx)
    obtain ⟨_, _, _, p⟩ := (show ObjOk X.prog X.w H s.heap a (.tup xs) from I.hok a _ ea)
    obtain ⟨o, h1, h2, _⟩ := p
    exact PySem.W.kia_one PySem.W.kitx_tuple I.kIn ⟨o, h1, h2⟩ e (fun z => nomatch z) h
  | @dK a kvs ea =>
    cases (show u = Value.ref a from rx)
    obtain ⟨_, _, vs, _, p⟩ := (show ObjOk X.prog X.w H s.heap a (.dK kvs) from I.hok a _ ea)
    obtain ⟨o, es, ep, h1, h2, _⟩ := p
    exact PySem.W.kia_one PySem.W.kitx_dict I.kIn ⟨o, h1, h2.1⟩ e (fun z => nomatch z) h
  | @dT a kvs ea =>
    cases (show u = Value.ref a from rx)
    obtain ⟨_, _, xs, _, o, es, ep, h1, h2, _⟩ := (show ObjOk X.prog X.w H s.heap a (.dT kvs) from I.hok a _ ea)
    exact PySem.W.kia_one PySem.W.kitx_dict I.kIn ⟨o, h1, h2.1⟩ e (fun z => nomatch z) h
  | @ins a C dx fs ea cl ha hn htk hm =>
    cases (show u = Value.ref a from rx)
    obtain ⟨mA, O, _⟩ := ins_get I.hok ea
    obtain ⟨od, J, _⟩ := O.look
    exact PySem.W.kia_one (PySem.W.kitx_own (cl.get _) cl.hd ha hn htk hm) I.kIn J e (fun z => nomatch z) h
end
end L2

namespace L2
open PySem PySem.Spec PyProof.Rows

/-! ### room -/
structure Room (k : Nat) (A : Around) : Prop where
  hd : A.handled = none
  dp : A.depth + 3 * k + 5 < recursionLimit
  un : A.units + 16 * k + 200 < cLine
  gd : A.guards = some []
theorem Room.mono {j k : Nat} {A : Around} (r : Room k A) (h : j ≤ k) : Room j A := ⟨r.hd, by have := r.dp; omega, by have := r.un; omega, r.gd⟩
theorem Room.deeper {k : Nat} {A : Around} (r : Room (k + 1) A) (env : Env) : Room k (A.deeper env) :=
  ⟨r.hd, by have := r.dp; show A.depth + 1 + 3 * k + 5 < _; omega, by have := r.un; show A.units + 3 + 16 * k + 200 < _; omega, r.gd⟩
theorem Room.in1 {k : Nat} {A : Around} (r : Room (k + 1) A) : Room k A.in1 :=
  ⟨r.hd, by have := r.dp; show A.depth + 3 * k + 5 < _; omega, by have := r.un; show A.units + 1 + 16 * k + 200 < _; omega, r.gd⟩
theorem make_depth {A : Around} {C : Addr} {us : List Value} {kw : List (Str × Value)} : (A.under (.builtin "type.__call__" ⟨.ref C :: us, kw⟩)).depth = A.depth + 1 := by
  first | rfl | simp [Around.under, Code.weight, Code.isCreation, Code.isGuard, Code.isCaller, Code.frames, Code.isFrame, guardIds]
theorem make_units {A : Around} {C : Addr} {us : List Value} {kw : List (Str × Value)} : (A.under (.builtin "type.__call__" ⟨.ref C :: us, kw⟩)).units = A.units + 1 := by
  first | rfl | simp [Around.under, Code.cUnits, Code.frames, Code.isFrame]
theorem Room.make {k : Nat} {A : Around} (r : Room (k + 1) A) (C : Addr) (us : List Value) (kw : List (Str × Value)) : Room k (A.under (.builtin "type.__call__" ⟨.ref C :: us, kw⟩)) :=
  ⟨r.hd, by have := r.dp; rw [make_depth]; omega, by have := r.un; rw [make_units]; omega, by first | exact r.gd | (have := r.gd; simpa [Around.under, Code.isGuard, guardIds] using this)⟩
theorem Room.depth {k : Nat} {A : Around} (r : Room k A) : A.depth < recursionLimit := by have := r.dp; omega
theorem Room.units {k : Nat} {A : Around} (r : Room k A) : A.units + 64 < cLine := by have := r.un; omega
/-! ### argument lists and displays -/
def tNil : TA := fun _ H Q => Q [] H
def tCons (ta : TE) (tr : TA) : TA := fun σ H Q => ta σ H fun x H1 => tr σ H1 fun xs H2 => Q (x :: xs) H2
section
variable {X : Cx} {e : Expr} {es : List Expr} {te : TE} {t : TA} {pos : Pos}
theorem pa_nil : PA X [] tNil := fun _ _ _ _ H Q I h => Calls.spliced_nil ⟨[], H, I, .nil, h⟩
theorem pa_cons (ha : PE X e te) (hr : PA X es t) (hs : starEach (e :: es) X.env = (false, eval e X.env) :: starEach es X.env := by rfl) : PA X (e :: es) (tCons te t) := by
  intro pos pins s σ H Q I h
  rw [hs]
  show wpAny _ _ (spliced ((false, eval e X.env) :: backTo pos (starEach es X.env))) _ _ s
  refine Calls.spliced_cons (thn (ha pins s σ H _ I h) fun u s1 ⟨x, H1, I1, r1, q1⟩ => ?_)
  exact thn (hr pos pins s1 σ H1 _ I1 q1) fun us s2 ⟨xs, H2, I2, r2, q2⟩ => ⟨x :: xs, H2, I2, .cons r1 r2, q2⟩

/-- a tuple, a list of written items -/
def tTup (t : TA) : TE := fun σ H Q => t σ H fun xs H1 => xs.length ≤ sizeLine ∧ ∀ p, H1 p = none → Q (.ref p) (upd H1 p (.tup xs))
def tLst (t : TA) : TE := fun σ H Q => t σ H fun xs H1 => xs.length ≤ sizeLine ∧ ∀ p, H1 p = none → Q (.ref p) (upd H1 p (.lst xs))
theorem pe_tup {x1} (h : PA X es t) : PE X (.Tuple es x1 pos) (tTup t) := by
  intro pins s σ H Q I hq
  refine wpAny_Tuple_spliced (thn (h pos pins s σ H _ I hq) fun us s1 ⟨xs, H1, I1, r, z, q⟩ => ⟨by rw [← r.length]; exact z, ?_⟩)
  have hf : H1 s1.heap.objs.size = none := I1.hok.fresh (Nat.le_refl _)
  refine ⟨.ref s1.heap.objs.size, upd H1 s1.heap.objs.size (.tup xs), I1.laid (t' := s1.toks) (fun b u e => Heap.get?_push_of_some _ e) (Nat.le_refl _) ?_, rfl, q _ hf⟩
  exact ⟨z, us, r, ⟨_, Heap.get?_push_size _ rfl, rfl, _, rfl, rfl⟩⟩
theorem pe_lst (h : PA X es t) : PE X (.List es pos) (tLst t) := by
  intro pins s σ H Q I hq
  refine wpAny_List_spliced (thn (h pos pins s σ H _ I hq) fun us s1 ⟨xs, H1, I1, r, z, q⟩ => ⟨by rw [← r.length]; exact z, ?_⟩)
  have hf : H1 s1.heap.objs.size = none := I1.hok.fresh (Nat.le_refl _)
  refine ⟨.ref s1.heap.objs.size, upd H1 s1.heap.objs.size (.lst xs), I1.laid (t' := s1.toks) (fun b u e => Heap.get?_push_of_some _ e) (Nat.le_refl _) ?_, rfl, q _ hf⟩
  exact ⟨z, us, 0, r, Heap.get?_push_size _ rfl⟩
end

/-! ### what a def promises -/
/-- a def's promise: the bound arguments in the parameters' order, the heap, the wanted end, the wanted exception -/
abbrev Sp := List V → Hp → VK → XK → Prop
/-- how an exception lies behind a call (file 08 gives it): the callers' frames, abstract heap and state ahead of the call, the wish, the exception, the state -/
abbrev CXT := List Env → Hp → Shared → XK → Value → Shared → Prop

/-- the state at a call -/
structure Env0 (P : Program) (w : World) (K : PySem.W.Frag) (mg : Str → Option Value) (base : Heap) (A : Around) (outer : List Env) (s : Shared) (H : Hp) : Prop where
  frames : A.frames = some outer
  mod : Mod K mg base
  bs : ∀ b o, base.get? b = some o → s.heap.get? b = some o ∧ H b = none
  bsz : base.objs.size ≤ s.heap.objs.size
  funs : s.heap.FunFrames base outer
  frf : ∀ b ∈ frs outer, H b = none
  hok : HOk P w H s.heap
  bare : AllBare s.gens
/-- a call's end -/
def CE (outer : List Env) (P : Program) (w : World) (H : Hp) (s : Shared) (Q : VK) (u : Value) (s' : Shared) : Prop :=
  ∃ v H', s'.os = s.os ∧ AllBare s'.gens ∧ Un (frs outer) [] H H' s.heap s'.heap ∧ HOk P w H' s'.heap ∧ RelV v u ∧ Q v H'
def CR (CX : CXT) (outer : List Env) (P : Program) (w : World) (H : Hp) (s : Shared) (Q : VK) (E : XK) (r : Result) (s' : Shared) : Prop :=
  match r with
  | .ok (.ret u) => CE outer P w H s Q u s'
  | .ok _ => False
  | .error e => CX outer H s E e s'
structure FnOk (P : Program) (w : World) (K : PySem.W.Frag) (mg : Str → Option Value) (base : Heap) (CX : CXT) (k : Nat) (f : Addr) (fd : FuncData) (ps : List Str) (sp : Sp) : Prop where
  len : ∀ vs H Q E, sp vs H Q E → vs.length = ps.length
  run : ∀ (A : Around) (outer : List Env) (s : Shared) (H : Hp) (args : Args) (us : List Value) (vs : List V) (Q : VK) (E : XK), Room k A → Env0 P w K mg base A outer s H → BindsTo s fd args (ps.zip us) → Vals vs us → sp vs H Q E →
    codeAny (model P w) A (.call (.ref f) args) (CR CX outer P w H s Q E) s
theorem FnOk.mono {P : Program} {w : World} {K : PySem.W.Frag} {mg : Str → Option Value} {base : Heap} {CX : CXT} {j k : Nat} {f : Addr} {fd : FuncData} {ps : List Str} {sp : Sp} (F : FnOk P w K mg base CX j f fd ps sp) (h : j ≤ k) :
    FnOk P w K mg base CX k f fd ps sp := ⟨F.len, fun A outer s H args us vs Q E hr => F.run A outer s H args us vs Q E (hr.mono h)⟩
/-- a weaker promise -/
theorem FnOk.imp {P : Program} {w : World} {K : PySem.W.Frag} {mg : Str → Option Value} {base : Heap} {CX : CXT} {k : Nat} {f : Addr} {fd : FuncData} {ps : List Str} {sp sp' : Sp} (F : FnOk P w K mg base CX k f fd ps sp)
    (h : ∀ vs H Q E, sp' vs H Q E → sp vs H Q E) : FnOk P w K mg base CX k f fd ps sp' :=
  ⟨fun vs H Q E q => F.len vs H Q E (h _ _ _ _ q), fun A outer s H args us vs Q E hr he hb hv hs => F.run A outer s H args us vs Q E hr he hb hv (h _ _ _ _ hs)⟩

theorem Env0.make {P : Program} {w : World} {K : PySem.W.Frag} {mg : Str → Option Value} {base : Heap} {A : Around} {outer : List Env} {s : Shared} {H : Hp} (e : Env0 P w K mg base A outer s H) (C : Addr) (us : List Value) (kw : List (Str × Value)) :
    Env0 P w K mg base (A.under (.builtin "type.__call__" ⟨.ref C :: us, kw⟩)) outer s H := ⟨by first | exact e.frames | (simpa [Around.under, Code.envs, Code.isFrame, pushEnvs] using e.frames), e.mod, e.bs, e.bsz, e.funs, e.frf, e.hok, e.bare⟩
theorem Env0.in1 {P : Program} {w : World} {K : PySem.W.Frag} {mg : Str → Option Value} {base : Heap} {A : Around} {outer : List Env} {s : Shared} {H : Hp} (e : Env0 P w K mg base A outer s H) :
    Env0 P w K mg base A.in1 outer s H := ⟨e.frames, e.mod, e.bs, e.bsz, e.funs, e.frf, e.hok, e.bare⟩

section
variable {X : Cx} {pins : List (Addr × Obj)} {σ : St} {H : Hp} {s s' : Shared}
/-- from a body: what a callee wants -/
theorem Inv.env0 (I : Inv X pins σ H s) : Env0 X.prog X.w X.K X.mg X.base X.A X.stack s H :=
  ⟨I.ok.frames, I.ok.mod, I.bs, Nat.le_trans I.ok.bsz I.sz, I.stack, I.stkFree, I.hok, I.bare⟩
/-- behind a call -/
theorem Inv.after {Q : VK} {u : Value} (I : Inv X pins σ H s) (h : CE X.stack X.prog X.w H s Q u s') : EP X pins σ Q u s' := by
  obtain ⟨v, H', os, bare, un, hok, r, q⟩ := h
  obtain ⟨hh, g, d, t, os'⟩ := s'
  obtain rfl : os' = s.os := os
  exact ⟨v, H', I.call (h' := hh) (g' := g) (d' := d) (t' := t) (ch := []) un hok bare (fun b z => absurd z (by simp)), r, q⟩
end

/-! ### calls -/
/-- f(..): the written arguments, then the defaults dvs; E: what is wanted of an exception -/
def tCall (sp : Sp) (dvs : List V) (E : XK) (t : TA) : TE := fun σ H Q => t σ H fun vs H1 => sp (vs ++ dvs) H1 Q E
/-- how the parameters are bound: us the positional arguments, kw the keywords' values by name, ds the defaults that fill up -/
def Binds (K : PySem.W.Frag) (fd : FuncData) (ps : List Str) (ds : List Value) : Prop :=
  ∀ (s : Shared) (us : List Value), K.In s.heap → (us ++ ds).length = ps.length → BindsTo s fd ⟨us, []⟩ (ps.zip (us ++ ds))
/-- every parameter is given -/
theorem Binds.all {K : PySem.W.Frag} {fd : FuncData} {ps : List Str} (h : ∀ us : List Value, us.length = ps.length → bindArgs fd ⟨us, []⟩ = pure (ps.zip us)) : Binds K fd ps [] := fun s us _ hl => by
  rw [List.append_nil] at hl ⊢
  exact .of_eq (h us hl)

/-- an exception of a callee reaches what this body wants of exceptions -/
def Passes (CX : CXT) (X : Cx) (E : XK) : Prop := ∀ (pins : List (Addr × Obj)) (σ : St) (H : Hp) (s : Shared) (e : Value) (s' : Shared), Inv X pins σ H s → CX X.stack H s E e s' → X.xe e s'

section
variable {X : Cx} {CX : CXT} {k : Nat} {f C : Addr} {fd : FuncData} {ps : List Str} {sp : Sp} {dvs : List V} {ds : List Value} {E : XK} {x m : Str} {p pos apos : Pos} {e o : Expr} {es : List Expr} {ta : TE} {t : TA}

/-- the callee runs -/
theorem run_fn {pins : List (Addr × Obj)} {σ : St} {H : Hp} {s : Shared} {Q : VK} {us : List Value} {vs : List V} (F : FnOk X.prog X.w X.K X.mg X.base CX k f fd ps sp) (hr : Room k X.A) (hb : Binds X.K fd ps ds) (hd : Vals dvs ds) (hx : Passes CX X E)
    (I : Inv X pins σ H s) (r : Vals vs us) (h : sp (vs ++ dvs) H Q E) : wpAny (model X.prog X.w) X.A (call (.ref f) us) (EP X pins σ Q) X.xe s := by
  have r2 : Vals (vs ++ dvs) (us ++ ds) := r.append hd
  have hl : (us ++ ds).length = ps.length := by rw [← r2.length]; exact F.len _ _ _ _ h
  refine wpAny_call (codeAny_mono (F.run X.A X.stack s H ⟨us, []⟩ (us ++ ds) (vs ++ dvs) Q E hr I.env0 (hb s us I.kIn hl) r2 h) fun r s' hq => ?_)
  cases r with
  | error e => exact hx pins σ H s e s' I hq
  | ok fl =>
    cases fl with
    | ret u => exact I.after hq
    | next => exact False.elim hq
    | brk => exact False.elim hq
    | cont => exact False.elim hq

theorem pe_call (F : FnOk X.prog X.w X.K X.mg X.base CX k f fd ps sp) (hr : Room k X.A) (hg : Gl X x) (hm : X.mg x = some (.ref f)) (hk : PySem.W.keepIn X.K (.ref f) = true) (hb : Binds X.K fd ps ds) (hd : Vals dvs ds) (hx : Passes CX X E)
    (ha : PA X (e :: es) t) (hdb : (x == ("__debug__" : Str)) = false := by decide) (he : starEach (e :: es) X.env = (false, eval e X.env) :: starEach es X.env := by rfl) (hpl : (backTo pos (starEach es X.env)).any (·.1) = false := by rfl) :
    PE X (.Call (.Name x p) (e :: es) [] pos) (tCall sp dvs E t) := by
  intro pins s σ H Q I h
  refine wpAny_Call_Name_kw (ld_glob I hg hm ?_ hdb)
  refine PySem.W.callWith_K (h₀ := X.base) I.ok.mod.kin hk (thn (ha pos pins s σ H _ I h) fun us s1 ⟨vs, H1, I1, r, q⟩ => ⟨I1.kIn, ?_⟩) he hpl
  exact run_fn F hr hb hd hx I1 r q
/-- what a class must have to be made -/
structure Mk (K : PySem.W.Frag) (C f : Addr) : Prop where
  makes : PySem.W.makesIn K C = true
  init : PySem.W.findIn K (.ref C) "__init__" = some (some (.ref f))
  fn : PySem.W.isFn K (.ref f) = true
  kp : PySem.W.keepIn K (.ref C) = true

end

/-! ### keywords -/
section
variable {X : Cx} {CX : CXT} {k : Nat} {f C : Addr} {fd : FuncData} {ps ks : List Str} {sp : Sp} {E : XK} {x m : Str} {p pos apos kpos : Pos} {e o : Expr} {es : List Expr} {kws : List Keyword} {te ta : TE} {t tk : TA} {nm : Option Str}
/-- how a call with keywords binds: g puts the positional values us and the keywords' values ws (names ks) in the parameters' order, defaults among them -/
structure KBinds (K : PySem.W.Frag) (fd : FuncData) (ps ks : List Str) (g : List Value → List Value → List Value) (gV : List V → List V → List V) : Prop where
  to : ∀ (s : Shared) (us ws : List Value), K.In s.heap → (g us ws).length = ps.length → BindsTo s fd ⟨us, ks.zip ws⟩ (ps.zip (g us ws))
  rel : ∀ {vs : List V} {us : List Value} {zs : List V} {ws : List Value}, Vals vs us → Vals zs ws → Vals (gV vs zs) (g us ws)
variable {g : List Value → List Value → List Value} {gV : List V → List V → List V}
end

/-! ### a def's body keeps its promise -/
/-- names: the parameters first -/
structure FnScope (N P : List Str) (sc : Scope) : Prop where
  kind : sc.kind = .function
  co : sc.isCoroutine = false
  gen : sc.isGenerator = false
  nd : N.Nodup
  pre : N.take P.length = P
  par : ∀ x ∈ P, sc.names.lookup x = some .local ∨ sc.names.lookup x = some .cell
  nofree : ∀ y ∈ sc.names, y.2 ≠ .free

theorem bindL_out {kindOf : Str → Option NameKind} {x : Str} : ∀ {binds : List (Str × Value)} {m : Str → Option Value}, (∀ v, (x, v) ∉ binds) → bindL kindOf binds m x = m x
  | [], _, _ => rfl
  | (n, v) :: r, m, h => by
    unfold bindL
    rw [bindL_out fun w hw => h w (List.mem_cons_of_mem _ hw)]
    split
    · have : x ≠ n := by rintro rfl; exact h v List.mem_cons_self
      simp [this]
    · rfl
theorem bindC_out {kindOf : Str → Option NameKind} {x : Str} : ∀ {binds : List (Str × Value)} {m : Str → Option Value}, (∀ v, (x, v) ∉ binds) → bindC kindOf binds m x = m x
  | [], _, _ => rfl
  | (n, v) :: r, m, h => by
    unfold bindC
    rw [bindC_out fun w hw => h w (List.mem_cons_of_mem _ hw)]
    split
    · rfl
    · have : x ≠ n := by rintro rfl; exact h v List.mem_cons_self
      simp [this]
theorem bindL_get {kindOf : Str → Option NameKind} {x : Str} {v : Value} : ∀ {P : List Str} {vs : List Value} {i : Nat} {m : Str → Option Value}, P.Nodup → P[i]? = some x → vs[i]? = some v → kindOf x = some .local →
    bindL kindOf (P.zip vs) m x = some v
  | [], _, _, _, _, h, _, _ => by simp at h
  | _ :: _, [], _, _, _, _, h, _ => by simp at h
  | p :: P, w :: vs, 0, m, nd, h1, h2, hk => by
    simp at h1 h2; subst h1; subst h2
    show bindL kindOf ((p, w) :: P.zip vs) m p = _
    unfold bindL
    rw [bindL_out fun v hv => (List.nodup_cons.mp nd).1 (List.of_mem_zip hv).1, if_pos hk]
    simp
  | p :: P, w :: vs, i + 1, m, nd, h1, h2, hk => by
    show bindL kindOf ((p, w) :: P.zip vs) m x = _
    unfold bindL
    exact bindL_get (i := i) (List.nodup_cons.mp nd).2 (by simpa using h1) (by simpa using h2) hk
theorem bindC_get {kindOf : Str → Option NameKind} {x : Str} {v : Value} : ∀ {P : List Str} {vs : List Value} {i : Nat} {m : Str → Option Value}, P.Nodup → P[i]? = some x → vs[i]? = some v → kindOf x ≠ some .local →
    bindC kindOf (P.zip vs) m x = some v
  | [], _, _, _, _, h, _, _ => by simp at h
  | _ :: _, [], _, _, _, _, h, _ => by simp at h
  | p :: P, w :: vs, 0, m, nd, h1, h2, hk => by
    simp at h1 h2; subst h1; subst h2
    show bindC kindOf ((p, w) :: P.zip vs) m p = _
    unfold bindC
    rw [bindC_out fun v hv => (List.nodup_cons.mp nd).1 (List.of_mem_zip hv).1, if_neg hk]
    simp
  | p :: P, w :: vs, i + 1, m, nd, h1, h2, hk => by
    show bindC kindOf ((p, w) :: P.zip vs) m x = _
    unfold bindC
    exact bindC_get (i := i) (List.nodup_cons.mp nd).2 (by simpa using h1) (by simpa using h2) hk

/-- the names' values at the entry -/
def start (N : List Str) (vs : List V) : St := vs.map some ++ List.replicate (N.length - vs.length) none

/-- the context of a def's body, at its entry; an exception leaves the frame, then lies as CX says -/
def cxOf (CX : CXT) (P : Program) (w : World) (K : PySem.W.Frag) (mg : Str → Option Value) (base : Heap) (N : List Str) (qual : Str) (scope : Scope) (f : Addr) (cd : Value) (A : Around) (outer : List Env) (s : Shared) (H : Hp) (E : XK) : Cx where
  prog := P
  w := w
  K := K
  mg := mg
  base := base
  A := A.deeper (envOfC qual scope s.heap.objs.size f cd)
  N := N
  s₀ := s
  H₀ := H
  env := envOfC qual scope s.heap.objs.size f cd
  outer := outer
  stack := envOfC qual scope s.heap.objs.size f cd :: outer
  ex := []
  calm := true
  fn := fun _ => true
  pn := []
  xe := fun e s' => wpAny (model P w) (A.deeper (envOfC qual scope s.heap.objs.size f cd)) (leaving (envOfC qual scope s.heap.objs.size f cd) e) (fun _ s'' => CX outer H s E e s'') (fun e' s'' => CX outer H s E e' s'') s'

theorem cell_has {sc : Scope} {n : Nat} {x : Str} (h : sc.names.lookup x = some .cell) : ∃ c, (cellsFrom n sc.names []).lookup x = some c := by
  have q := PySem.W.cellsFrom_some sc.names n [] (.inl h)
  exact Option.isSome_iff_exists.mp q

theorem inv_start {CX : CXT} {P : Program} {w : World} {K : PySem.W.Frag} {mg : Str → Option Value} {base : Heap} {N ps : List Str} {qual : Str} {scope : Scope} {f : Addr} {cd : Value} {A : Around} {outer : List Env} {s s1 : Shared} {H : Hp} {E : XK} {us : List Value} {vs : List V}
    (S : FnScope N ps scope) (hd : A.handled = none) (e0 : Env0 P w K mg base A outer s H) (hl : vs.length = ps.length) (r : Vals vs us)
    (x : InCallC s s.heap.objs.size (bindL (envOfC qual scope s.heap.objs.size f cd).kindOf (ps.zip us) fun _ => none) (cellsFrom (s.heap.objs.size + 1) scope.names []) (bindC (envOfC qual scope s.heap.objs.size f cd).kindOf (ps.zip us) fun _ => none) s1) :
    Inv (cxOf CX P w K mg base N qual scope f cd A outer s H E) [] (start N vs) H s1 := by
  have hpl : ps.length ≤ N.length := by have := congrArg List.length S.pre; rw [List.length_take] at this; omega
  obtain ⟨h1, tk, rfl, hk⟩ := x.done
  have noA : ∀ b : Addr, b ∉ (cxOf CX P w K mg base N qual scope f cd A outer s H E).ex := fun b z => absurd (show b ∈ ([] : List Addr) from z) (by simp)
  refine ⟨⟨e0.mod, S.kind, rfl, rfl, Nat.le_refl _, fun y z c h1 h2 => ?_, fun y hy => ?_, fun y c _ h => ?_, fun _ => hd, Around.frames_deeper e0.frames, .inr ⟨rfl, rfl⟩, fun b z => absurd z (noA b), e0.bs, e0.bsz, fun b _ _ => noA b, fun b z => absurd z (noA b), e0.funs, e0.frf⟩,
    rfl, e0.bare, Un.kept hk, ⟨_, x.toInCall.ns, fun i y v h1 h2 h3 => ?_⟩, fun y c h => ⟨_, x.cell y c h⟩, e0.hok.fresh (Nat.le_refl _), fun y c h => ?_, fun p hp => absurd (show p ∈ ([] : List (Addr × Obj)) from hp) (by simp), e0.hok.kept hk, ?_⟩
  · exact name_of_addr x.apart (PySem.mem_of_lookup h1) (PySem.mem_of_lookup h2)
  · have hy : scope.names.lookup y = some .cell ∨ scope.names.lookup y = some .free := hy
    rcases hy with hy | hy
    · exact cell_has hy
    · exact absurd rfl (S.nofree _ (PySem.mem_of_lookup hy))
  · exact Nat.le_of_lt (x.above y c (PySem.mem_of_lookup h))
  · have hi : i < vs.length := by
      unfold start at h2
      by_cases hi : i < vs.length
      · exact hi
      · rw [List.getElem?_append_right (by simpa using hi)] at h2
        rw [List.getElem?_replicate] at h2
        split at h2 <;> cases h2
    have ha : vs[i]? = some v := by
      unfold start at h2
      rw [List.getElem?_append_left (by simpa using hi), List.getElem?_map] at h2
      cases e : vs[i]? with
      | none => rw [e] at h2; cases h2
      | some a => rw [e] at h2; cases h2; rfl
    obtain ⟨u, hu, rv⟩ := r.get ha
    have hp : ps[i]? = some y := by
      rw [← S.pre, List.getElem?_take_of_lt (by omega)]; exact h1
    have ndP : ps.Nodup := by rw [← S.pre]; exact S.nd.sublist (List.take_sublist _ _)
    refine ⟨u, rv, ?_⟩
    rcases S.par y (List.mem_of_getElem? hp) with k | k
    · exact .inl ⟨k, bindL_get ndP hp hu k⟩
    · obtain ⟨c, e⟩ := cell_has (n := s.heap.objs.size + 1) k
      refine .inr ⟨.inl k, c, e, ?_⟩
      have q := x.cell y c e
      rw [bindC_get ndP hp hu (by show scope.names.lookup y ≠ _; rw [k]; decide)] at q
      exact q
  · exact e0.hok.fresh (Nat.le_of_lt (x.above y c (PySem.mem_of_lookup h)))
  · unfold start
    show _ = N.length
    rw [List.length_append, List.length_map, List.length_replicate]
    omega

/-- THE RULE: a def (or a method) of the text, by its body. The body's reading t is chosen for each entry; it is run at the parameters' values -/
theorem fn_of {CX : CXT} {P : Program} {w : World} {K : PySem.W.Frag} {mg : Str → Option Value} {base : Heap} {k : Nat} {f : Addr} {name qual : Str} {params : Arguments} {body : List Stmt} {scope : Scope} {dV kV doc pm cdv ct oc : Value} {an od : Option Addr}
    {osl : Array (Option Value)} {N ps : List Str} {sp : Sp} (lk : K.lookup f = some ⟨oc, od, .func (PySem.W.fnOf name qual params body scope dV kV doc pm an cdv ct), osl⟩) (hcd : PySem.W.codeIn K cdv qual = true) (S : FnScope N ps scope)
    (len : ∀ vs H Q E, sp vs H Q E → vs.length = ps.length)
    (hbody : ∀ (A : Around) (outer : List Env) (s : Shared) (H : Hp) (vs : List V) (Q : VK) (E : XK), Room k (A.deeper (envOfC qual scope s.heap.objs.size f cdv)) → sp vs H Q E →
      ∃ t, PSs (cxOf CX P w K mg base N qual scope f cdv A outer s H E) body t ∧ t { nx := fun _ H' => Q .non H', rt := Q } (start N vs) H) :
    FnOk P w K mg base CX (k + 1) f (PySem.W.fnOf name qual params body scope dV kV doc pm an cdv ct) ps sp := by
  refine ⟨len, fun A outer s H args us vs Q E hr e0 hb r hsp => ?_⟩
  have hl := len _ _ _ _ hsp
  have KX : K.In s.heap := e0.mod.kin.keeps fun b o e => (e0.bs b o e).1
  have lim : s.heap.NoLimit := e0.mod.nolimit.keeps fun b o e => (e0.bs b o e).1
  have hkind : ∀ y ∈ ps.zip us, scope.names.lookup y.1 = some .local ∨ (scope.names.lookup y.1 = some .cell ∧ ((cellsFrom (s.heap.objs.size + 1) scope.names []).lookup y.1).isSome = true) := fun ⟨n, v⟩ hy => by
    rcases S.par n (List.of_mem_zip hy).1 with q | q
    · exact .inl q
    · exact .inr ⟨q, PySem.W.cellsFrom_some _ _ _ (.inl q)⟩
  refine codeAny_call_function hr.depth (KX _ _ lk) rfl S.co S.gen rfl (PySem.W.codeRec_of KX hcd) (hb _ _ _ _ ?_)
  refine wpAny_newFunctionEnv_cells S.kind hkind fun env he s1 x => ?_
  subst he
  refine ⟨lim.keeps x.toInCall.keep, codeAny_func ?_⟩
  obtain ⟨t, ht, hq⟩ := hbody A outer s H vs Q E (hr.deeper _) hsp
  have I : Inv (cxOf CX P w K mg base N qual scope f cdv A outer s H E) [] (start N vs) H s1 := inv_start S hr.hd e0 hl r x
  refine wpAny_mono (ht [] s1 (start N vs) H _ I hq) (fun fl s' hs => ?_) fun e s' hs => hs
  have fin : ∀ {σ' : St} {H' : Hp} {v : V} {u : Value}, Inv (cxOf CX P w K mg base N qual scope f cdv A outer s H E) [] σ' H' s' → RelV v u → Q v H' → CE outer P w H s Q u s' :=
    fun {σ' H' v u} J rv q => ⟨v, H', J.os, J.bare, J.base, J.hok, rv, q⟩
  cases fl with
  | ret u =>
    obtain ⟨v, σ', H', J, rv, q⟩ := hs
    exact fin J rv q
  | next =>
    obtain ⟨σ', H', J, q⟩ := hs
    exact fin (v := V.non) (u := Value.none) J rfl q
  | brk =>
    obtain ⟨_, _, _, q⟩ := hs
    exact False.elim q
  | cont =>
    obtain ⟨_, _, _, q⟩ := hs
    exact False.elim q
end L2

namespace L2
open PySem PySem.Spec PyProof.Rows
section
variable {X : Cx} {x : Str} {p pos : Pos} {e : Expr} {es : List Expr} {t : TA} {id T : String} {r : List V → Hp → VK → Prop}

def tCB (r : List V → Hp → VK → Prop) (t : TA) : TE := fun σ H Q => t σ H fun vs H1 => r vs H1 Q
/-- f(e, ..), f a built-in function -/
theorem pe_callB (hc : CallR X (.builtin id) r) (hg : Gl X x) (hm : X.mg x = none) (hv : bootBuiltins x = some (.builtin id)) (ha : PA X (e :: es) t) (hn : x ≠ "__name__" := by decide) (hdb : (x == ("__debug__" : Str)) = false := by decide)
    (he : starEach (e :: es) X.env = (false, eval e X.env) :: starEach es X.env := by rfl) (hpl : (backTo pos (starEach es X.env)).any (·.1) = false := by rfl) : PE X (.Call (.Name x p) (e :: es) [] pos) (tCB r t) := by
  intro pins s σ H Q I h
  refine wpAny_Call_Name_kw (ld_blt I hg hm hv ?_ hn hdb)
  exact PyProof.Rows.callWith_builtin1 (thn (ha pos pins s σ H _ I h) fun us s1 ⟨vs, H1, I1, r1, q1⟩ => hc pins s1 σ H1 vs us Q I1 r1 q1) he hpl
/-- T(e, ..), T a built-in type -/
theorem pe_callTy (hc : CallR X (.type T) r) (hg : Gl X x) (hm : X.mg x = none) (hv : bootBuiltins x = some (.type T)) (ha : PA X (e :: es) t) (hn : x ≠ "__name__" := by decide) (hdb : (x == ("__debug__" : Str)) = false := by decide)
    (he : starEach (e :: es) X.env = (false, eval e X.env) :: starEach es X.env := by rfl) (hpl : (backTo pos (starEach es X.env)).any (·.1) = false := by rfl) : PE X (.Call (.Name x p) (e :: es) [] pos) (tCB r t) := by
  intro pins s σ H Q I h
  refine wpAny_Call_Name_kw (ld_blt I hg hm hv ?_ hn hdb)
  exact PyProof.Rows.callWith_type1 (thn (ha pos pins s σ H _ I h) fun us s1 ⟨vs, H1, I1, r1, q1⟩ => hc pins s1 σ H1 vs us Q I1 r1 q1) he hpl
end
end L2

namespace HT
open PySem PyProof.Rows

section
open PySem.SeqAt
open PySem.AutoSeq1 (wpAny_loadPart')
open PySem.MeetsSeq PySem.MeetsSeq2 PySem.MeetsSeq3

end

section
variable {prog : Program} {w : World} {A : Around} {E : Value → Shared → Prop} {s : Shared}

/-- t + u, t not empty -/
theorem cat_tup {t b : Addr} {vs ws : List Value} {Q : Value → Shared → Prop} (ht : IsTup s.heap t vs.toArray) (hb : IsTup s.heap b ws.toArray) (hv : vs ≠ [])
    (h1 : ws = [] → Q (.ref t) s) (h2 : ws ≠ [] → Q (.ref s.heap.objs.size) { s with heap := s.heap.push { cls := .type "tuple", data := .seq (vs ++ ws).toArray } })
    (hsz : vs.length + ws.length ≤ sizeLine) : wpAny (model prog w) A (binaryOp .Add (.ref t) (.ref b)) Q E s := by
  obtain ⟨⟨cls, dd, data, sl⟩, ho, hc, n, hd⟩ := id ht
  obtain ⟨⟨cls2, dd2, data2, sl2⟩, ho2, hc2, n2, hd2⟩ := id hb
  simp only at hc hd hc2 hd2
  subst hc hd hc2 hd2
  have e : vs.toArray ++ ws.toArray = (vs ++ ws).toArray := by simp
  by_cases hw : ws = []
  · exact concat_meets ⟨_, ho, rfl⟩ ⟨_, ho2, rfl⟩ noFill_tuple_add seq_tuple_add PySem.F.slot_tuple_add PySem.F.entry_tuple_add (PySem.F.args_tuple_add_2 _ _)
      (tuple_addW1 t b vs.toArray ws.toArray n n2 dd dd2 sl sl2 (by simpa using hv) (by simp [hw])) ⟨ho, ho2, h1 hw⟩
  · refine concat_meets ⟨_, ho, rfl⟩ ⟨_, ho2, rfl⟩ noFill_tuple_add seq_tuple_add PySem.F.slot_tuple_add PySem.F.entry_tuple_add (PySem.F.args_tuple_add_2 _ _)
      (tuple_addW2 t b vs.toArray ws.toArray n n2 dd dd2 sl sl2 (by simpa using hv) (by simpa using hw) (by rw [List.size_toArray, List.size_toArray]; exact hsz)) ⟨ho, ho2, ?_⟩
    rw [e]
    exact h2 hw

/-! ### t[a:b], not the whole -/
/-- a slice's bound as a place among n (d where it is left out) -/
def sIx (n d : Nat) : Option Int → Nat
  | none => d
  | some v => if v < 0 then (v + (n : Int)).toNat else min v.toNat n
theorem sIx_none (n d : Nat) : sIx n d none = d := rfl
theorem sIx_nat (n d k : Nat) : sIx n d (some (k : Int)) = min k n := by
  show (if (k : Int) < 0 then ((k : Int) + (n : Int)).toNat else min (k : Int).toNat n) = min k n
  rw [if_neg (by omega), Int.toNat_natCast]
theorem sIx_le (n d : Nat) (hd : d ≤ n) (o : Option Int) : sIx n d o ≤ n := by
  cases o with
  | none => exact hd
  | some v =>
    show (if v < 0 then (v + (n : Int)).toNat else min v.toNat n) ≤ n
    by_cases hv : v < 0
    · rw [if_pos hv]; omega
    · rw [if_neg hv]; exact Nat.min_le_right _ _
theorem clip_eq (v : Int) (n d : Nat) : (if v < 0 then max (v + (n : Int)) 0 else min v (n : Int)) = ((sIx n d (some v) : Nat) : Int) := by
  show (if v < 0 then max (v + (n : Int)) 0 else min v (n : Int)) = (((if v < 0 then (v + (n : Int)).toNat else min v.toNat n) : Nat) : Int)
  by_cases hv : v < 0
  · simp only [if_pos hv]; omega
  · simp only [if_neg hv]; omega
theorem adjust_gen (lo hi : Option Int) (n : Nat) : Builtin.Slice.sliceAdjust lo hi 1 (n : Int) = (((sIx n 0 lo : Nat) : Int), ((sIx n n hi : Nat) : Int)) := by
  have h1 : ¬ ((1 : Int) < 0) := by omega
  unfold Builtin.Slice.sliceAdjust
  simp only [h1, if_false]
  refine Prod.ext ?_ ?_
  · cases lo with
    | none => rfl
    | some v => exact clip_eq v n 0
  · cases hi with
    | none => rfl
    | some v => exact clip_eq v n n
theorem places_gen (i j : Nat) : Builtin.Slice.slicePlaces (i : Int) (j : Int) 1 = j - i := by
  unfold Builtin.Slice.slicePlaces
  have h1 : (1 : Int) > 0 := by omega
  simp only [h1, if_true, Int.ediv_one]
  split <;> omega
theorem slicePart_ {v : Value} {o : Option Int} {Q : Option Int → Shared → Prop} (p : IsPart v o) (h : Q o s) : wpAny (model prog w) A (Builtin.Slice.slicePartIndex v) Q E s := by
  cases p with
  | none => exact slicePart_none h
  | int i t => exact slicePart_int h
theorem sliceApplied_gen {sl : Addr} {vl vu : Value} {lo hi : Option Int} {n : Nat} {Q : Int × Int × Nat → Shared → Prop} (hs : s.heap.IsSliceOf sl vl vu .none) (pl : IsPart vl lo) (pu : IsPart vu hi)
    (h : Q (((sIx n 0 lo : Nat) : Int), 1, sIx n n hi - sIx n 0 lo) s) : wpAny (model prog w) A (Builtin.Slice.sliceApplied (.ref sl) (pure (n : Int))) Q E s := by
  obtain ⟨os, hos, hcs, hds⟩ := id hs
  unfold Builtin.Slice.sliceApplied Builtin.Slice.sliceFields
  refine wpAny_bind (wpAny_bind (wpAny_field hos hds (x := vl) rfl (wpAny_bind (wpAny_field hos hds (x := vu) rfl (wpAny_bind (wpAny_field hos hds (x := .none) rfl (wpAny_pure ?_)))))))
  refine wpAny_bind (slicePart_none ?_)
  show wpAny _ _ (if ((1 : Int) == 0) = true then _ else _) _ _ s
  rw [if_neg (by decide)]
  refine wpAny_bind (slicePart_ pl (wpAny_bind (slicePart_ pu (wpAny_bind (wpAny_pure ?_)))))
  show wpAny _ _ (match Builtin.Slice.sliceAdjust lo hi 1 (n : Int) with | (lo, hi) => pure (lo, (1 : Int), Builtin.Slice.slicePlaces lo hi 1)) _ _ s
  rw [adjust_gen lo hi n]
  show wpAny _ _ (pure (((sIx n 0 lo : Nat) : Int), (1 : Int), Builtin.Slice.slicePlaces ((sIx n 0 lo : Nat) : Int) ((sIx n n hi : Nat) : Int) 1)) _ _ s
  rw [places_gen]
  exact wpAny_pure h
theorem pick_gen (xs : Array Value) (i k : Nat) : ((List.range k).filterMap fun (m : Nat) => xs[((i : Int) + (m : Int) * 1).toNat]?).toArray = ((xs.toList.drop i).take k).toArray := by
  have e : (fun (m : Nat) => xs[((i : Int) + (m : Int) * 1).toNat]?) = fun m => xs[i + m]? := by
    funext m
    have : ((i : Int) + (m : Int) * 1).toNat = i + m := by omega
    rw [this]
  rw [e]
  have := pick_run xs i k
  rw [List.filterMap_map] at this
  have e2 : ((fun x => xs[x]?) ∘ fun x => i + x) = fun m => xs[i + m]? := rfl
  rw [e2] at this
  rw [this]

theorem getItem_tuple_cut {t sl : Addr} {items : Array Value} {vl vu : Value} {lo hi : Option Int} {Q : Value → Shared → Prop} (ht : IsTup s.heap t items) (hs : s.heap.IsSliceOf sl vl vu .none) (pl : IsPart vl lo) (pu : IsPart vu hi)
    (hw : ¬ (sIx items.size 0 lo = 0 ∧ sIx items.size items.size hi = items.size))
    (h : Q (.ref s.heap.objs.size) { s with heap := s.heap.push { cls := .type "tuple", data := .seq ((items.toList.drop (sIx items.size 0 lo)).take (sIx items.size items.size hi - sIx items.size 0 lo)).toArray } })
    (hsz : items.size ≤ sizeLine) : wpAny (model prog w) A (getItem (.ref t) (.ref sl)) Q E s := by
  have htake : sizeOk (.seq ((items.toList.drop (sIx items.size 0 lo)).take (sIx items.size items.size hi - sIx items.size 0 lo)).toArray) := by
    show ((items.toList.drop (sIx items.size 0 lo)).take (sIx items.size items.size hi - sIx items.size 0 lo)).toArray.size ≤ sizeLine
    rw [List.size_toArray, List.length_take, List.length_drop, Array.length_toList]
    omega
  have hj : sIx items.size items.size hi ≤ items.size := sIx_le _ _ (Nat.le_refl _) hi
  obtain ⟨os, hos, hcs, hds⟩ := id hs
  have hTs : s.TypeIs (.ref sl) "slice" := ⟨os, hos, hcs⟩
  unfold getItem
  try with_reducible refine wpAny_holding ?_
  first | refine wpAny_bind (wpAny_pure ?_) | skip
  refine wpAny_bind (wpAny_sequenceKey ht.typeIs (by decide) ?_)
  refine wpAny_bind (wpAny_callSpecial?_slot (name := Str.ofString "__getitem__") ht.typeIs PyProof.Rows.slot_tuple_getitem
    (wpAny_call_entry PyProof.Rows.slot_tuple_getitem ht.typeIs entry_tuple_getitem ?_ (args_tuple_getitem _ _)))
  show wpAny _ _ (Builtin.Tuple.tupleItemsOf (.ref t) >>= _) _ _ s
  refine wpAny_bind (tupleItemsOf_ ht ?_)
  refine wpAny_bind (wpAny_typeOf hTs ?_)
  rw [if_pos (by decide)]
  refine wpAny_bind (sliceApplied_gen hs pl pu ?_)
  have hno : ¬ ((((sIx items.size 0 lo : Nat) : Int) == 0 && (1 : Int) == 1 && (sIx items.size items.size hi - sIx items.size 0 lo) == items.size) = true) := by
    intro q
    rw [Bool.and_eq_true, Bool.and_eq_true] at q
    have q1 : ((sIx items.size 0 lo : Nat) : Int) = 0 := eq_of_beq q.1.1
    have q2 : sIx items.size items.size hi - sIx items.size 0 lo = items.size := eq_of_beq q.2
    exact hw ⟨by omega, by omega⟩
  show wpAny _ _ (if (((sIx items.size 0 lo : Nat) : Int) == 0 && (1 : Int) == 1 && (sIx items.size items.size hi - sIx items.size 0 lo) == items.size) = true then _ else _) _ _ s
  rw [if_neg hno, pick_gen]
  first
    | exact wpAny_bind (m := Builtin.Tuple.tupleExact _) (wpAny_newObj_type (wpAny_pure ⟨_, rfl, wpAny_pure h⟩) htake)
    | exact wpAny_bind (m := Builtin.Tuple.tupleExact _) (wpAny_newObj_type (wpAny_bind (wpAny_pure (wpAny_pure ⟨_, rfl, wpAny_pure h⟩))) htake)
    | exact wpAny_bind (wpAny_bind (m := Builtin.Tuple.tupleExact _) (wpAny_newObj_type (wpAny_pure (wpAny_pure ⟨_, rfl, wpAny_pure h⟩)) htake))
    | exact wpAny_bind (wpAny_bind (m := Builtin.Tuple.tupleExact _) (wpAny_newObj_type (wpAny_pure ⟨_, rfl, wpAny_pure h⟩) htake))
end
end HT

namespace L2
open PySem PySem.Spec PyProof.Rows

/-! ### the parts of a slice -/
abbrev TO := St → Hp → (Option Int → Hp → Prop) → Prop
/-- a slice's part (left out, or an int) -/
def PO (X : Cx) (e : Option Expr) (t : TO) : Prop :=
  ∀ (pins : List (Addr × Obj)) (s : Shared) (σ : St) (H : Hp) (Q : Option Int → Hp → Prop), Inv X pins σ H s → t σ H Q →
    wpAny (model X.prog X.w) X.A (evalPart e X.env) (fun u s' => ∃ o H', Inv X pins σ H' s' ∧ IsPart u o ∧ Q o H') X.xe s
def tNoPart : TO := fun _ H Q => Q none H
def tPart (t : TE) : TO := fun σ H Q => t σ H fun x H1 => ∃ i, x = .int i ∧ Q (some i) H1

section
variable {X : Cx} {e : Expr} {te : TE} {lo hi : Option Expr} {tl th : TO} {pos p2 : Pos}

theorem po_none : PO X none tNoPart := by
  intro pins s σ H Q I h
  rw [evalPart_none]
  exact wpAny_pure ⟨none, H, I, .none, h⟩
theorem po_some (h : PE X e te) : PO X (some e) (tPart te) := by
  intro pins s σ H Q I hw
  rw [evalPart_some]
  refine thn (h pins s σ H _ I hw) fun u s1 ⟨x, H1, I1, r1, q1⟩ => ?_
  obtain ⟨i, rfl, q⟩ := q1
  obtain ⟨t, rfl⟩ := r1
  exact ⟨some i, H1, I1, .int i t, q⟩

/-- what a slice of a value is, by values: the slice object stands at sl -/
def SlR (X : Cx) (r : V → Option Int → Option Int → Hp → VK → Prop) : Prop :=
  ∀ (pins : List (Addr × Obj)) (s : Shared) (σ : St) (H : Hp) (x : V) (v vl vu : Value) (lo hi : Option Int) (sl : Addr) (Q : VK), Inv X pins σ H s → RelV x v → s.heap.IsSliceOf sl vl vu .none → IsPart vl lo → IsPart vu hi → r x lo hi H Q →
    ∃ T id, typeLookup (.type T) "__getitem__" = pure (some (.builtin id)) ∧ s.TypeIs v T ∧ wpAny (model X.prog X.w) X.A (getItem v (.ref sl)) (EP X pins σ Q) X.xe s
theorem SlR.or {r r' : V → Option Int → Option Int → Hp → VK → Prop} (h : SlR X r) (h' : SlR X r') : SlR X (fun x lo hi H Q => r x lo hi H Q ∨ r' x lo hi H Q) := by
  intro pins s σ H x v vl vu lo hi sl Q I rx hs pl pu q
  rcases q with q | q
  · exact h pins s σ H x v vl vu lo hi sl Q I rx hs pl pu q
  · exact h' pins s σ H x v vl vu lo hi sl Q I rx hs pl pu q
def tSl (r : V → Option Int → Option Int → Hp → VK → Prop) (te : TE) (tl th : TO) : TE := fun σ H Q => te σ H fun x H1 => tl σ H1 fun l H2 => th σ H2 fun u H3 => r x l u H3 Q
/-- a[lo:hi], any a -/
theorem pe_slice {r : V → Option Int → Option Int → Hp → VK → Prop} (hr : SlR X r) (he : PE X e te) (hl : PO X lo tl) (hu : PO X hi th) : PE X (.Subscript e (.Slice lo hi none p2) pos) (tSl r te tl th) := by
  intro pins s σ H Q I h
  refine Subscript_ (thn (he pins s σ H _ I h) fun v s1 ⟨x, H1, I1, r1, q1⟩ => ?_)
  refine wpAny_Slice (thn (hl pins s1 σ H1 _ I1 q1) fun vl s2 ⟨l, H2, I2, pl, q2⟩ => thn (hu pins s2 σ H2 _ I2 q2) fun vu s3 ⟨u, H3, I3, pu, q3⟩ => ?_)
  rw [evalPart_none]
  refine wpAny_pure ?_
  have I4 : Inv X pins σ H3 { s3 with heap := s3.heap.push { cls := .type "slice", data := .fields #[vl, vu, .none] } } := I3.kept (t' := s3.toks) fun b ob q => Heap.get?_push_of_some _ q
  obtain ⟨T, id, hT, ht, hg⟩ := hr pins { s3 with heap := s3.heap.push { cls := .type "slice", data := .fields #[vl, vu, .none] } } σ H3 x v vl vu l u s3.heap.objs.size Q I4 r1 (Heap.IsSliceOf.new ..) pl pu q3
  show wpAny (model X.prog X.w) X.A (subscriptTail e (.Slice lo hi none p2) v (.ref s3.heap.objs.size)) (EP X pins σ Q) X.xe { s3 with heap := s3.heap.push { cls := .type "slice", data := .fields #[vl, vu, .none] } }
  exact tail_any (ops := [.ref s3.heap.objs.size, v]) ht hT hg (by with_unfolding_all rfl)

/-- the items of xs[lo:hi] -/
def cutV (xs : List V) (lo hi : Option Int) : List V := (xs.drop (HT.sIx xs.length 0 lo)).take (HT.sIx xs.length xs.length hi - HT.sIx xs.length 0 lo)
theorem cutV_length (xs : List V) (lo hi : Option Int) : (cutV xs lo hi).length ≤ xs.length := by
  unfold cutV
  rw [List.length_take, List.length_drop]
  omega
/-- t[lo:hi], not the whole of it (the whole would be t itself) -/
def rSlT (K : PySem.W.Frag) : V → Option Int → Option Int → Hp → VK → Prop := fun x lo hi H Q => ∃ a xs, x = .ref a ∧ SqT K H a xs ∧
  ¬ (HT.sIx xs.length 0 lo = 0 ∧ HT.sIx xs.length xs.length hi = xs.length) ∧ ∀ p, H p = none → Q (.ref p) (upd H p (.tup (cutV xs lo hi)))
theorem sl_tup : SlR X (rSlT X.K) := by
  intro pins s σ H x v vl vu lo hi sl Q I rx hs pl pu h
  obtain ⟨a, xs, rfl, hx, hw, q⟩ := h
  cases rx
  obtain ⟨its, r, ht, hz⟩ := I.tuple hx
  have hlen : its.toArray.size = xs.length := by rw [List.size_toArray]; exact r.length.symm
  refine ⟨"tuple", _, PyProof.Rows.slot_tuple_getitem.lookup, ht.typeIs, ?_⟩
  refine HT.getItem_tuple_cut ht hs pl pu (by rw [hlen]; exact hw) ?_ (by rw [hlen]; exact hz)
  rw [hlen]
  refine ⟨.ref s.heap.objs.size, _, I.laid (t' := s.toks) (o := .tup (cutV xs lo hi)) (fun b ob q => Heap.get?_push_of_some _ q) (Nat.le_refl _) ?_, rfl, q _ (I.hok.fresh (Nat.le_refl _))⟩
  exact ⟨Nat.le_trans (cutV_length xs lo hi) hz, _, (r.drop (HT.sIx xs.length 0 lo)).take (HT.sIx xs.length xs.length hi - HT.sIx xs.length 0 lo), TupN.new _ _⟩

/-! ### t < u, t + u -/
/-- t + u, t not empty: u empty gives t itself -/
def rCatT (K : PySem.W.Frag) : R2 := fun x y H Q => ∃ a b xs ys, x = .ref a ∧ y = .ref b ∧ SqT K H a xs ∧ SqT K H b ys ∧ xs ≠ [] ∧ xs.length + ys.length ≤ sizeLine ∧
  (ys = [] → Q (.ref a) H) ∧ (ys ≠ [] → ∀ p, H p = none → Q (.ref p) (upd H p (.tup (xs ++ ys))))
theorem Vals.nil_iff {xs : List V} {us : List Value} (r : Vals xs us) : us = [] ↔ xs = [] := by
  cases r with
  | nil => simp
  | cons _ _ => simp
theorem op_catT : OpR X (binaryOp .Add) (rCatT X.K) := by
  intro pins s σ H x y v u Q I rx ry h
  obtain ⟨a, b, xs, ys, rfl, rfl, ha, hb, hx, hz, q1, q2⟩ := h
  cases rx
  cases ry
  obtain ⟨its, r1, p1, _⟩ := I.tuple ha
  obtain ⟨its2, r2, p2, _⟩ := I.tuple hb
  refine HT.cat_tup p1 p2 (fun z => hx (r1.nil_iff.mp z)) (fun z => ⟨.ref a, H, I, rfl, q1 (r2.nil_iff.mp z)⟩) (fun z => ?_) (by rw [← r1.length, ← r2.length]; exact hz)
  refine ⟨.ref s.heap.objs.size, _, I.laid (t' := s.toks) (o := .tup (xs ++ ys)) (fun b ob q => Heap.get?_push_of_some _ q) (Nat.le_refl _) ?_, rfl, q2 (fun w => z (r2.nil_iff.mpr w)) _ (I.hok.fresh (Nat.le_refl _))⟩
  exact ⟨by rw [List.length_append]; exact hz, _, r1.append r2, TupN.new _ _⟩
end
end L2

namespace L2
open PySem PySem.Spec PyProof.Rows

/-! ### places -/
/-- the place that an index of any sign means -/
def ixN (n : Nat) (i : Int) : Option Nat := if 0 ≤ i then (if i < n then some i.toNat else none) else if -(n : Int) ≤ i then some (i + n).toNat else none
def atI {α : Type} (xs : List α) (i : Int) : Option α := (ixN xs.length i).bind fun j => xs[j]?
theorem ixN_seq {n : Nat} {i : Int} {j : Nat} (h : ixN n i = some j) : seqIndex? i n = some j ∧ j < n ∧ -(n : Int) ≤ i ∧ i < n := by
  unfold ixN at h
  by_cases h0 : 0 ≤ i
  · rw [if_pos h0] at h
    by_cases h1 : i < n
    · rw [if_pos h1] at h
      have e : i.toNat = j := Option.some.inj h
      exact ⟨by rw [seqIndex_of h0 h1, e], by omega, by omega, h1⟩
    · rw [if_neg h1] at h; cases h
  · rw [if_neg h0] at h
    by_cases h1 : -(n : Int) ≤ i
    · rw [if_pos h1] at h
      have e : (i + n).toNat = j := Option.some.inj h
      exact ⟨by rw [seqIndex_neg (by omega) h1, e], by omega, h1, by omega⟩
    · rw [if_neg h1] at h; cases h
theorem atI_get {α : Type} {xs : List α} {i : Int} {v : α} (h : atI xs i = some v) : ∃ j, seqIndex? i xs.length = some j ∧ xs[j]? = some v ∧ j < xs.length ∧ -(xs.length : Int) ≤ i ∧ i < xs.length := by
  unfold atI at h
  cases e : ixN xs.length i with
  | none => rw [e] at h; cases h
  | some j =>
    rw [e] at h
    obtain ⟨h1, h2, h3, h4⟩ := ixN_seq e
    exact ⟨j, h1, h, h2, h3, h4⟩
theorem atI_last {α : Type} (xs : List α) (v : α) : atI (xs ++ [v]) (-1) = some v := by
  have hl : (xs ++ [v]).length = xs.length + 1 := by simp
  have e : ixN (xs ++ [v]).length (-1) = some xs.length := by
    unfold ixN
    rw [hl, if_neg (by decide), if_pos (by omega)]
    congr 1
    omega
  unfold atI
  rw [e]
  show (xs ++ [v])[xs.length]? = some v
  simp

/-! ### what may be subscripted -/
/-- what stands as an index of a plain subscript -/
def PlainIx (b : Expr) : Prop := ∀ o i, subscripted b false o i = operate [o, i] (getItem o i)
/-- a subscript by values -/
def IxR (X : Cx) (r : R2) : Prop :=
  ∀ (value slice : Expr) (pins : List (Addr × Obj)) (s : Shared) (σ : St) (H : Hp) (x y : V) (v u : Value) (Q : VK), Inv X pins σ H s → RelV x v → RelV y u → r x y H Q →
    subscripted slice false v u = operate [v, u] (getItem v u) → wpAny (model X.prog X.w) X.A (subscriptTail value slice v u) (EP X pins σ Q) X.xe s
/-- a call of a builtin's method by values: the receiver, the arguments -/
def MtR (X : Cx) (id : String) (r : V → List V → Hp → VK → Prop) : Prop :=
  ∀ (pins : List (Addr × Obj)) (s : Shared) (σ : St) (H : Hp) (x : V) (xs : List V) (v : Value) (us : List Value) (Q : VK), Inv X pins σ H s → RelV x v → Vals xs us → r x xs H Q →
    wpAny (model X.prog X.w) X.A (call (.builtin id) (v :: us)) (EP X pins σ Q) X.xe s
section
variable {X : Cx} {a b : Expr} {ta tb : TE} {pos : Pos}
theorem IxR.or {r r' : R2} (h : IxR X r) (h' : IxR X r') : IxR X (fun x y H Q => r x y H Q ∨ r' x y H Q) := by
  intro value slice pins s σ H x y v u Q I rx ry q hs
  rcases q with q | q
  · exact h value slice pins s σ H x y v u Q I rx ry q hs
  · exact h' value slice pins s σ H x y v u Q I rx ry q hs
theorem MtR.or {id : String} {r r' : V → List V → Hp → VK → Prop} (h : MtR X id r) (h' : MtR X id r') : MtR X id (fun x xs H Q => r x xs H Q ∨ r' x xs H Q) := by
  intro pins s σ H x xs v us Q I rx rs q
  rcases q with q | q
  · exact h pins s σ H x xs v us Q I rx rs q
  · exact h' pins s σ H x xs v us Q I rx rs q
/-- a[b] -/
theorem pe_ix {r : R2} (hr : IxR X r) (ha : PE X a ta) (hb : PE X b tb) (hs : PlainIx b) : PE X (.Subscript a b pos) (tOp r ta tb) := by
  intro pins s σ H Q I h
  exact Subscript_ (binT ha hb I h fun v u s2 x y H2 I2 rx ry q => hr a b pins s2 σ H2 x y v u Q I2 rx ry q (hs _ _))

def rIxL (K : PySem.W.Frag) : R2 := fun x y H Q => ∃ p xs i v, x = .ref p ∧ y = .int i ∧ SqL K H p xs ∧ atI xs i = some v ∧ Q v H
def rIxT (K : PySem.W.Frag) : R2 := fun x y H Q => ∃ p xs i v, x = .ref p ∧ y = .int i ∧ SqT K H p xs ∧ atI xs i = some v ∧ Q v H
theorem ix_list : IxR X (rIxL X.K) := by
  intro value slice pins s σ H x y v u Q I rx ry h hs
  obtain ⟨p, xs, i, z, rfl, rfl, hq, he, q⟩ := h
  cases rx
  obtain ⟨t, rfl⟩ := ry
  obtain ⟨its, r, pl, hz⟩ := I.list hq
  obtain ⟨j, h1, h2, h3, h4, h5⟩ := atI_get he
  obtain ⟨w, ew, rw'⟩ := r.get h2
  have hl := r.length
  have hn := line63
  have fin : EP X pins σ Q w s := ⟨z, H, I, rw', q⟩
  by_cases h0 : 0 ≤ i
  · have hj : i.toNat = j := by
      rw [seqIndex_of h0 h5] at h1
      exact Option.some.inj h1
    exact item_listR pl.isList h0 (by omega) (by rw [hj]; simpa using ew) fin hs
  · have hj : (i + (its.toArray.size : Int)).toNat = j := by
      rw [seqIndex_neg (by omega) h4] at h1
      rw [List.size_toArray, ← hl]
      exact Option.some.inj h1
    exact subscriptTail_builtinR (x := w) pl.isList.typeIs slot_list_getitem.lookup
      (wpAny_getItem_list_neg (Q := fun r s' => r = w ∧ EP X pins σ Q r s') pl.isList (by omega) (by rw [List.size_toArray] <;> omega) (by omega) (by rw [hj]; simpa using ew) ⟨rfl, fin⟩) hs
theorem ix_tup : IxR X (rIxT X.K) := by
  intro value slice pins s σ H x y v u Q I rx ry h hs
  obtain ⟨p, xs, i, z, rfl, rfl, hq, he, q⟩ := h
  cases rx
  obtain ⟨t, rfl⟩ := ry
  obtain ⟨its, r, pl, hz⟩ := I.tuple hq
  obtain ⟨j, h1, h2, h3, h4, h5⟩ := atI_get he
  obtain ⟨w, ew, rw'⟩ := r.get h2
  have hl := r.length
  have hn := line63
  have fin : EP X pins σ Q w s := ⟨z, H, I, rw', q⟩
  exact subscriptTail_builtinR (x := w) pl.typeIs slot_tuple_getitem.lookup
    (getItem_tuple (j := j) (Q := fun r s' => r = w ∧ EP X pins σ Q r s') pl (by omega) (by omega) (by rw [List.size_toArray, ← hl]; exact h1) (by simpa using ew) ⟨rfl, fin⟩) hs
/-! ### xs[i] = v, any sign -/
/-- the list's object behind a store -/
theorem mapSeq_set (its : List Value) (n j : Nat) (u : Value) : Obj.mapSeq (·.setIfInBounds j u) { cls := .type "list", data := .seq its.toArray n } = { cls := .type "list", data := .seq (its.set j u).toArray n } := by
  simp [Obj.mapSeq]
theorem Inv.lst {pins : List (Addr × Obj)} {σ : St} {H : Hp} {s : Shared} {p : Addr} {xs : List V} (I : Inv X pins σ H s) (h : H p = some (.lst xs)) :
    ∃ (its : List Value) (n : Nat), Vals xs its ∧ s.heap.get? p = some { cls := .type "list", data := .seq its.toArray n } ∧ xs.length ≤ sizeLine := by
  obtain ⟨z, its, n, r, e⟩ := I.hok p _ h
  exact ⟨its, n, r, e, z⟩
/-- the list at p is written by an update of its object -/
theorem Inv.lstUpd {pins : List (Addr × Obj)} {σ : St} {H : Hp} {s : Shared} {p : Addr} {xs ys : List V} {its its' : List Value} {n n' : Nat} {f : Obj → Obj} (I : Inv X pins σ H s) (h : H p = some (.lst xs))
    (ho : s.heap.get? p = some { cls := .type "list", data := .seq its.toArray n }) (hf : f { cls := .type "list", data := .seq its.toArray n } = { cls := .type "list", data := .seq its'.toArray n' }) (r : Vals ys its') (hz : ys.length ≤ sizeLine) (t : Nat) :
    Inv X pins σ (upd H p (.lst ys)) { s with heap := s.heap.update p f, toks := t } := by
  have e : (s.heap.update p f).get? p = some { cls := .type "list", data := .seq its'.toArray n' } := by
    rw [Heap.get?_update_self f ho (by rw [hf] <;> rfl), hf]
  refine I.write (x := p) (e := p) (by rw [h]; trivial) (.inl rfl) (fun b u hb q => (Heap.get?_update_other _ _ (Ne.symm hb)).trans q) ⟨_, e⟩ ?_
  exact ⟨hz, its', n', r, e⟩
def rSetL : V → V → V → Hp → (Hp → Prop) → Prop := fun o i v H Q => ∃ p xs k j, o = .ref p ∧ i = .int k ∧ H p = some (.lst xs) ∧ ixN xs.length k = some j ∧ Q (upd H p (.lst (xs.set j v)))
theorem set_list : PSet X rSetL := by
  intro pins s σ H o i v ov iv u Q I ro ri rv h
  obtain ⟨p, xs, k, j, rfl, rfl, hp, hj, q⟩ := h
  cases ro
  obtain ⟨t, rfl⟩ := ri
  obtain ⟨its, n, r, ho, hz⟩ := I.lst hp
  obtain ⟨h1, h2, h3, h4⟩ := ixN_seq hj
  have hl := r.length
  have hn := line63
  have I' : Inv X pins σ (upd H p (.lst (xs.set j v))) { s with heap := s.heap.update p (Obj.mapSeq (·.setIfInBounds j u)) } :=
    I.lstUpd hp ho (mapSeq_set its n j u) (r.set rv j) (by rw [List.length_set]; exact hz) s.toks
  by_cases h0 : 0 ≤ k
  · have hk : k.toNat = j := by
      rw [seqIndex_of h0 h4] at h1
      exact Option.some.inj h1
    exact PySem.W.ki_setAt ho h0 (by omega) (by rw [List.size_toArray, ← hl]; exact h4) (by rw [hk]; exact ⟨_, I', q⟩)
  · have hk : (k + (its.toArray.size : Int)).toNat = j := by
      rw [seqIndex_neg (by omega) h3] at h1
      rw [List.size_toArray, ← hl]
      exact Option.some.inj h1
    exact PySem.W.ki_setBack ho (by omega) (by rw [List.size_toArray, ← hl]; exact h3) (by omega) (by rw [hk]; exact ⟨_, I', q⟩)

/-! ### slices -/
theorem slice_bounds (lo hi : Option Int) (n : Nat) : (sliceBounds lo hi none n).1 = ((HT.sIx n 0 lo : Nat) : Int) ∧ (sliceBounds lo hi none n).2.1 = ((HT.sIx n n hi : Nat) : Int) ∧ (sliceBounds lo hi none n).2.2 = 1 := by
  refine ⟨?_, ?_, rfl⟩
  · cases lo with
    | none => simp [sliceBounds, HT.sIx]
    | some i =>
      simp only [sliceBounds, HT.sIx, Option.getD_none, show (1 : Int) > 0 by decide, if_true]
      by_cases h : i < 0
      · simp only [h, if_true] <;> omega
      · simp only [h, if_false] <;> omega
  · cases hi with
    | none => simp [sliceBounds, HT.sIx]
    | some i =>
      simp only [sliceBounds, HT.sIx, Option.getD_none, show (1 : Int) > 0 by decide, if_true]
      by_cases h : i < 0
      · simp only [h, if_true] <;> omega
      · simp only [h, if_false] <;> omega
theorem slicePick_cut (its : List Value) (lo hi : Option Int) : slicePick its.toArray lo hi none = ((its.drop (HT.sIx its.length 0 lo)).take (HT.sIx its.length its.length hi - HT.sIx its.length 0 lo)).toArray := by
  obtain ⟨h1, h2, h3⟩ := slice_bounds lo hi its.toArray.size
  unfold slicePick
  rw [h1, h2, h3]
  simp only [sliceRange_one, pick_run, List.size_toArray] <;> rfl
/-- xs[lo:hi] of a list: a new list -/
def rSlL (K : PySem.W.Frag) : V → Option Int → Option Int → Hp → VK → Prop := fun x lo hi H Q => ∃ a xs, x = .ref a ∧ SqL K H a xs ∧ ∀ p, H p = none → Q (.ref p) (upd H p (.lst (cutV xs lo hi)))
theorem sl_list : SlR X (rSlL X.K) := by
  intro pins s σ H x v vl vu lo hi sl Q I rx hs pl pu h
  obtain ⟨a, xs, rfl, hx, q⟩ := h
  cases rx
  obtain ⟨its, r, ht, hz⟩ := I.list hx
  have hlen := r.length
  refine ⟨"list", _, slot_list_getitem.lookup, ht.isList.typeIs, ?_⟩
  refine wpAny_getItem_list_slice ht.isList hs pl pu .none (by simp) ?_ (by rw [List.size_toArray] <;> omega)
  rw [slicePick_cut, ← hlen]
  refine ⟨.ref s.heap.objs.size, _, I.laid (t' := s.toks) (o := .lst (cutV xs lo hi)) (fun b ob q => Heap.get?_push_of_some _ q) (Nat.le_refl _) ?_, rfl, q _ (I.hok.fresh (Nat.le_refl _))⟩
  exact ⟨Nat.le_trans (cutV_length xs lo hi) hz, _, 0, (r.drop (HT.sIx xs.length 0 lo)).take (HT.sIx xs.length xs.length hi - HT.sIx xs.length 0 lo), Heap.get?_push_size _ rfl⟩

/-! ### in, not in: flat items -/
def flatV : V → Bool
  | .non => true
  | .bl _ => true
  | .int _ => true
  | .str _ => true
  | _ => false
/-- == of flat values -/
def eqV : V → V → Bool
  | .non, .non => true
  | .bl a, .bl b => a == b
  | .bl a, .int b => (if a then 1 else 0) == b
  | .int a, .bl b => a == (if b then 1 else 0)
  | .int a, .int b => a == b
  | .str a, .str b => a == b
  | _, _ => false
theorem eqAt_V {A : Around} {s : Shared} {y x : V} {u v : Value} (ry : RelV y u) (rx : RelV x v) (fy : flatV y = true) (fx : flatV x = true) : SeqAt.EqAt A s u v (eqV y x) := by
  cases y with
  | non =>
    cases ry
    cases x with
    | non => cases rx; exact SeqAt.EqAt.same _
    | bl b => cases rx; exact SeqAt.EqAt.none_bool b
    | int b => obtain ⟨t, rfl⟩ := rx; exact SeqAt.EqAt.none_int b t
    | str b => obtain ⟨t, rfl⟩ := rx; exact SeqAt.EqAt.none_str b t
    | _ => exact absurd (show false = true from fx) Bool.false_ne_true
  | bl a =>
    cases ry
    cases x with
    | non => cases rx; exact SeqAt.EqAt.bool_none a
    | bl b => cases rx; exact SeqAt.EqAt.bool_bool a b
    | int b => obtain ⟨t, rfl⟩ := rx; exact SeqAt.EqAt.bool_int a b t
    | str b => obtain ⟨t, rfl⟩ := rx; exact SeqAt.EqAt.bool_str a b t
    | _ => exact absurd (show false = true from fx) Bool.false_ne_true
  | int a =>
    obtain ⟨t', rfl⟩ := ry
    cases x with
    | non => cases rx; exact SeqAt.EqAt.int_none a t'
    | bl b => cases rx; exact SeqAt.EqAt.int_bool a t' b
    | int b => obtain ⟨t, rfl⟩ := rx; exact SeqAt.EqAt.int_int a t' b t
    | str b => obtain ⟨t, rfl⟩ := rx; exact SeqAt.EqAt.int_str a t' b t
    | _ => exact absurd (show false = true from fx) Bool.false_ne_true
  | str a =>
    obtain ⟨t', rfl⟩ := ry
    cases x with
    | non => cases rx; exact SeqAt.EqAt.str_none a t'
    | bl b => cases rx; exact SeqAt.EqAt.str_bool a t' b
    | int b => obtain ⟨t, rfl⟩ := rx; exact SeqAt.EqAt.str_int a t' b t
    | str b => obtain ⟨t, rfl⟩ := rx; exact SeqAt.EqAt.str_str a t' b t
    | _ => exact absurd (show false = true from fx) Bool.false_ne_true
  | _ => exact absurd (show false = true from fy) Bool.false_ne_true
/-- the items' answers, read off the values (a value's own answer does not lean on its token) -/
def eqU (x : V) (u : Value) : Bool := match u with
  | .none => eqV .non x
  | .bool b => eqV (.bl b) x
  | .int i _ => eqV (.int i) x
  | .str z _ => eqV (.str z) x
  | _ => false
theorem eqU_of {x y : V} {u : Value} (r : RelV y u) (f : flatV y = true) : eqU x u = eqV y x := by
  cases y with
  | non => cases r; rfl
  | bl b => cases r; rfl
  | int i => obtain ⟨t, rfl⟩ := r; rfl
  | str z => obtain ⟨t, rfl⟩ := r; rfl
  | _ => exact absurd (show false = true from f) Bool.false_ne_true
theorem any_eqU {x : V} : ∀ {xs : List V} {us : List Value}, Vals xs us → xs.all flatV = true → us.any (eqU x) = xs.any fun y => eqV y x
  | _, _, .nil, _ => rfl
  | y :: xs, u :: us, .cons r t, f => by
    rw [List.all_cons, Bool.and_eq_true] at f
    rw [List.any_cons, List.any_cons, eqU_of r f.1, any_eqU t f.2]
theorem mem_eqAt {A : Around} {s : Shared} {x : V} {v : Value} (rx : RelV x v) (fx : flatV x = true) : ∀ {xs : List V} {us : List Value}, Vals xs us → xs.all flatV = true → ∀ u ∈ us, SeqAt.EqAt A s u v (eqU x u)
  | _, _, .nil, _ => fun u hu => by cases hu
  | y :: xs, u :: us, .cons r t, f => fun u' hu => by
    rw [List.all_cons, Bool.and_eq_true] at f
    rcases List.mem_cons.mp hu with rfl | hu
    · rw [eqU_of r f.1]; exact eqAt_V r rx f.1 fx
    · exact mem_eqAt rx fx t f.2 u' hu
def inV (x : V) (xs : List V) : Bool := xs.any fun y => eqV y x
/-- x in a list or tuple of flat items -/
def rIn (K : PySem.W.Frag) (neg : Bool) : R2 := fun x y H Q => ∃ p xs, y = .ref p ∧ (SqL K H p xs ∨ SqT K H p xs) ∧ flatV x = true ∧ xs.all flatV = true ∧ Q (.bl (if neg then !inV x xs else inV x xs)) H
theorem op_in_seq : OpR X (compareOp .In) (rIn X.K false) := by
  intro pins s σ H x y v u Q I rx ry h
  obtain ⟨p, xs, rfl, hq, fx, fs, q⟩ := h
  cases ry
  rcases hq with hq | hq
  · obtain ⟨its, r, pl, hz⟩ := I.list hq
    refine SeqAt.in_listAt (eqU x) pl.isList (fun w hw => mem_eqAt rx fx r fs w (by simpa using hw)) ⟨.bl _, H, I, rfl, ?_⟩
    rw [show its.toArray.any (eqU x) = its.any (eqU x) by simp, any_eqU r fs]
    exact q
  · obtain ⟨its, r, pl, hz⟩ := I.tuple hq
    refine SeqAt.in_tupleAt (eqU x) pl (fun w hw => mem_eqAt rx fx r fs w (by simpa using hw)) ⟨.bl _, H, I, rfl, ?_⟩
    rw [show its.toArray.any (eqU x) = its.any (eqU x) by simp, any_eqU r fs]
    exact q
theorem op_notIn_seq : OpR X (compareOp .NotIn) (rIn X.K true) := by
  intro pins s σ H x y v u Q I rx ry h
  obtain ⟨p, xs, rfl, hq, fx, fs, q⟩ := h
  cases ry
  rcases hq with hq | hq
  · obtain ⟨its, r, pl, hz⟩ := I.list hq
    refine SeqAt.notIn_listAt (eqU x) pl.isList (fun w hw => mem_eqAt rx fx r fs w (by simpa using hw)) ⟨.bl _, H, I, rfl, ?_⟩
    rw [show its.toArray.any (eqU x) = its.any (eqU x) by simp, any_eqU r fs]
    exact q
  · obtain ⟨its, r, pl, hz⟩ := I.tuple hq
    refine SeqAt.notIn_tupleAt (eqU x) pl (fun w hw => mem_eqAt rx fx r fs w (by simpa using hw)) ⟨.bl _, H, I, rfl, ?_⟩
    rw [show its.toArray.any (eqU x) = its.any (eqU x) by simp, any_eqU r fs]
    exact q
/-! ### len, list(x), tuple(x) of any list or tuple that is read -/
theorem call_len_seq : CallR X (.builtin "len") (fun xs H Q => ∃ p ys, xs = [.ref p] ∧ (SqL X.K H p ys ∨ SqT X.K H p ys) ∧ Q (.int ys.length) H) := by
  intro pins s σ H xs us Q I r h
  obtain ⟨p, ys, rfl, hq, q⟩ := h
  obtain ⟨u, rfl, rx⟩ := vals1 r
  cases rx
  have hn := line63
  rcases hq with hq | hq
  · obtain ⟨its, r', pl, hz⟩ := I.list hq
    have hlen := r'.length
    exact Calls.call_len_list pl.isList (by simp only [List.size_toArray] <;> omega) ⟨.int ys.length, H, I.tok _, ⟨s.toks + 1, by rw [List.size_toArray, hlen]⟩, q⟩
  · obtain ⟨its, r', pl, hz⟩ := I.tuple hq
    have hlen := r'.length
    exact len_tuple pl (by simp only [List.size_toArray] <;> omega) ⟨.int ys.length, H, I.tok _, ⟨s.toks + 1, by rw [List.size_toArray, hlen]⟩, q⟩
theorem CallR.or {f : Value} {r r' : List V → Hp → VK → Prop} (h : CallR X f r) (h' : CallR X f r') : CallR X f (fun xs H Q => r xs H Q ∨ r' xs H Q) := by
  intro pins s σ H xs us Q I rs q
  rcases q with q | q
  · exact h pins s σ H xs us Q I rs q
  · exact h' pins s σ H xs us Q I rs q
theorem call_list_of : CallR X (.type "list") (fun xs H Q => ∃ p ys, xs = [.ref p] ∧ (SqL X.K H p ys ∨ SqT X.K H p ys) ∧ ∀ l, H l = none → Q (.ref l) (upd H l (.lst ys))) := by
  intro pins s σ H xs us Q I r h
  obtain ⟨p, ys, rfl, hq, q⟩ := h
  obtain ⟨u, rfl, rx⟩ := vals1 r
  cases rx
  have fin : ∀ (its : List Value), Vals ys its → ys.length ≤ sizeLine → ∀ (h' : Heap) (c' : Nat), (∀ b o', s.heap.get? b = some o' → h'.get? b = some o') →
      h'.get? s.heap.objs.size = some { cls := .type "list", dict := none, data := .seq its.toArray c', slots := #[] } → EP X pins σ Q (.ref s.heap.objs.size) { s with heap := h' } := fun its r' hz h' c' kp e =>
    ⟨.ref s.heap.objs.size, _, I.laid (t' := s.toks) kp (Nat.le_refl _) (show ObjOk X.prog X.w _ h' _ (.lst ys) from ⟨hz, its, c', r', e⟩), rfl, q _ (I.hok.fresh (Nat.le_refl _))⟩
  rcases hq with hq | hq
  · obtain ⟨its, r', pl, hz⟩ := I.list hq
    have hlen := r'.length
    obtain ⟨o, ho, hc, n, hd⟩ := pl.isList
    exact call_list_seq p (.inl rfl) ho hc hd (fun h' c' kp e => fin its r' hz h' c' kp e) (by simp only [List.size_toArray] <;> omega)
  · obtain ⟨its, r', pl, hz⟩ := I.tuple hq
    have hlen := r'.length
    obtain ⟨o, ho, hc, n, hd⟩ := pl
    exact call_list_seq p (.inr rfl) ho hc hd (fun h' c' kp e => fin its r' hz h' c' kp e) (by simp only [List.size_toArray] <;> omega)
theorem call_tuple_of : CallR X (.type "tuple") (fun xs H Q => ∃ p ys, xs = [.ref p] ∧ ((SqL X.K H p ys ∧ ∀ l, H l = none → Q (.ref l) (upd H l (.tup ys))) ∨ (SqT X.K H p ys ∧ Q (.ref p) H))) := by
  intro pins s σ H xs us Q I r h
  obtain ⟨p, ys, rfl, h⟩ := h
  obtain ⟨u, rfl, rx⟩ := vals1 r
  cases rx
  rcases h with ⟨hq, q⟩ | ⟨hq, q⟩
  · obtain ⟨its, r', pl, hz⟩ := I.list hq
    have hlen := r'.length
    refine call_tuple_list pl.isList (fun h' kp => ?_) (by simp only [List.size_toArray] <;> omega)
    have I1 : Inv X pins σ H { s with heap := h' } := I.kept (t' := s.toks) kp
    have I2 : Inv X pins σ (upd H h'.objs.size (.tup ys)) { s with heap := h'.push { cls := .type "tuple", data := .seq its.toArray } } :=
      I1.laid (t' := s.toks) (fun b o e => Heap.get?_push_of_some _ e) (Nat.le_refl _) (show ObjOk X.prog X.w _ _ _ (.tup ys) from ⟨hz, its, r', TupN.new _ _⟩)
    exact ⟨.ref h'.objs.size, _, I2, rfl, q _ (I1.hok.fresh (Nat.le_refl _))⟩
  · obtain ⟨its, r', pl, hz⟩ := I.tuple hq
    exact call_tuple_same pl ⟨.ref p, H, I, rfl, q⟩

/-! ### the call of a builtin's method: o.m(..) -/
/-- the value is of that builtin type -/
def tyV (K : PySem.W.Frag) (T : String) (x : V) (H : Hp) : Prop := match x with
  | .str _ => T = "str"
  | .int _ => T = "int"
  | .ref p => (T = "list" ∧ ∃ xs, SqL K H p xs) ∨ (T = "tuple" ∧ ∃ o, K.lookup p = some o ∧ o.cls = .type "tuple" ∧ o.dict = none) ∨
      (T = "dict" ∧ ((∃ kvs, H p = some (.dK kvs)) ∨ ∃ kvs, H p = some (.dT kvs))) ∨ (T = "set" ∧ ∃ S n, H p = some (.set S n))
  | _ => False
theorem tyV_is {pins : List (Addr × Obj)} {σ : St} {H : Hp} {s : Shared} {T : String} {x : V} {v : Value} (I : Inv X pins σ H s) (r : RelV x v) (ty : tyV X.K T x H) :
    s.TypeIs v T ∧ ∀ a, v = .ref a → ∃ ob, s.heap.get? a = some ob ∧ ob.dict = none := by
  cases x with
  | str z =>
    obtain ⟨t, rfl⟩ := r
    cases (show T = "str" from ty)
    exact ⟨typeIs_str s z t, fun _ e => nomatch e⟩
  | int i =>
    obtain ⟨t, rfl⟩ := r
    cases (show T = "int" from ty)
    exact ⟨typeIs_int s i t, fun _ e => nomatch e⟩
  | ref p =>
    cases r
    rcases ty with ⟨rfl, xs, hq⟩ | ⟨rfl, o, hk, hc, hd⟩ | ⟨rfl, hk⟩ | ⟨rfl, S, n, hk⟩
    · obtain ⟨its, _, pl, _⟩ := I.list hq
      refine ⟨pl.isList.typeIs, fun a e => ?_⟩
      cases e
      obtain ⟨o, n, e, c, hd, _⟩ := pl
      exact ⟨o, e, hd⟩
    · refine ⟨⟨o, I.kIn p o hk, hc⟩, fun a e => ?_⟩
      cases e
      exact ⟨o, I.kIn _ o hk, hd⟩
    · have z : ∃ o, s.heap.get? p = some o ∧ o.ExactDict := by
        rcases hk with ⟨kvs, hk⟩ | ⟨kvs, hk⟩
        · obtain ⟨_, _, _, _, o, _, _, e, ex, _⟩ := I.hok p _ hk
          exact ⟨o, e, ex⟩
        · obtain ⟨_, _, _, _, o, _, _, e, ex, _⟩ := I.hok p _ hk
          exact ⟨o, e, ex⟩
      obtain ⟨o, e, ex⟩ := z
      refine ⟨⟨o, e, ex.1⟩, fun a e2 => ?_⟩
      cases e2
      exact ⟨o, e, ex.2.1⟩
    · obtain ⟨o, _, _, _, e, ex, _⟩ := I.hok p _ hk
      refine ⟨⟨o, e, ex.1⟩, fun a e2 => ?_⟩
      cases e2
      exact ⟨o, e, ex.2.1⟩
  | _ => exact False.elim ty
def tBM (K : PySem.W.Frag) (T : String) (r : V → List V → Hp → VK → Prop) (to : TE) (t : TA) : TE := fun σ H Q => to σ H fun x H1 => tyV K T x H1 ∧ t σ H1 fun xs H2 => r x xs H2 Q
variable {o e : Expr} {es : List Expr} {to : TE} {t : TA} {name : Str} {apos cpos : Pos} {T id : String} {r : V → List V → Hp → VK → Prop}
theorem pe_bm (pa : PlainAttrs T) (slot : Slot T name id) (hty : typeOf (.builtin id) = pure (.type "method_descriptor")) (hm : MtR X id r) (ho : PE X o to) (ha : PA X (e :: es) t)
    (hbase : attributeBase o name X.env (eval o X.env) = eval o X.env := by rfl)
    (hfew : ((backTo cpos (starEach (e :: es) X.env)).all (fun x => !x.1) && (backToKw cpos (keywordEach [] X.env)).all (fun x => x.1.isSome)
      && decide ((e :: es).length + ([] : List Keyword).length + (if ([] : List Keyword).isEmpty then 0 else 1) < 30)) = true := by rfl)
    (hline : (apos.endLine == cpos.line) = true := by rfl) (hs : starEach (e :: es) X.env = (false, eval e X.env) :: starEach es X.env := by rfl) (hplain : (backTo cpos (starEach es X.env)).any (·.1) = false := by rfl) :
    PE X (.Call (.Attribute o name apos) (e :: es) [] cpos) (tBM X.K T r to t) := by
  intro pins s σ H Q I h
  refine wpAny_Call_method_late hbase hfew hline rfl (thn (ho pins s σ H _ I h) fun v s1 ⟨x, H1, I1, r1, ty, q1⟩ => ?_)
  obtain ⟨h1, h2⟩ := tyV_is I1 r1 ty
  refine ⟨T, id, pa, slot, hty, h1, h2, ?_⟩
  have hA := ha cpos pins s1 σ H1 _ I1 q1
  rw [hs] at hA ⊢
  refine Calls.callWith_builtin (by show (false || (backTo cpos (starEach es X.env)).any (·.1)) = false; rw [hplain] <;> rfl) (Calls.evalArgs_plain ?_)
  exact thn hA fun us s2 ⟨vs, H2, I2, r2, q2⟩ => hm pins s2 σ H2 x vs v us Q I2 r1 r2 q2
/- xs.append(e), list.index on a module's tuple .. are MtR facts of 06m -/
end
end L2

namespace L2
open PySem PySem.Spec PyProof.Rows

def MtM (X : Cx) (id : String) (r : V → List V → Hp → VK → Prop) : Prop :=
  ∀ (pins : List (Addr × Obj)) (s : Shared) (σ : St) (H : Hp) (x : V) (xs : List V) (v : Value) (us : List Value) (Q : VK), Inv X pins σ H s → RelV x v → Vals xs us → r x xs H Q →
    wpAny (model X.prog X.w) X.A (call (.builtin id) (v :: us)) (EP X pins σ Q) X.xe s

/-! ### lists of values -/
theorem Vals.one {x : V} {us : List Value} (h : Vals [x] us) : ∃ u, us = [u] ∧ RelV x u := by
  cases h with
  | cons r t =>
    cases t
    exact ⟨_, rfl, r⟩
theorem Vals.two {x y : V} {us : List Value} (h : Vals [x, y] us) : ∃ u v, us = [u, v] ∧ RelV x u ∧ RelV y v := by
  cases h with
  | cons r t =>
    obtain ⟨v, rfl, q⟩ := Vals.one t
    exact ⟨_, v, rfl, r, q⟩
theorem Vals.zero : ∀ {us : List Value}, Vals [] us → us = []
  | _, .nil => rfl
theorem Vals.reverse {xs : List V} {us : List Value} (h : Vals xs us) : Vals xs.reverse us.reverse := by
  induction h with
  | nil => exact .nil
  | cons r t ih => rw [List.reverse_cons, List.reverse_cons]; exact Vals.append ih (.cons r .nil)
section
variable {X : Cx} {pins : List (Addr × Obj)} {σ : St} {H : Hp} {s : Shared} {l b : Addr} {xs ys zs : List V}

/-! ### the two steps: a tracked list is rewritten, a new list is laid -/
theorem Inv.lset {its its' : List Value} {n : Nat} {f : Array Value → Array Value} {t' : Nat} (I : Inv X pins σ H s) (hH : H l = some (.lst xs))
    (e : s.heap.get? l = some { cls := .type "list", data := .seq its.toArray n }) (hf : f its.toArray = its'.toArray) (hv : Vals ys its') (hz : ys.length ≤ sizeLine) :
    Inv X pins σ (upd H l (.lst ys)) { s with heap := s.heap.update l (Obj.mapSeq f), toks := t' } := by
  have q := PySem.IsL.update e f
  rw [hf] at q
  refine I.write (x := l) (e := l) (by rw [hH]; exact trivial) (.inl rfl) (fun b' u hb hu => (Heap.get?_update_other s.heap (Obj.mapSeq f) (Ne.symm hb)).trans hu) ⟨_, q⟩ ?_
  exact ⟨hz, its', _, hv, q⟩
theorem Inv.lnew {its : List Value} {t' : Nat} (I : Inv X pins σ H s) (hv : Vals ys its) (hz : ys.length ≤ sizeLine) :
    Inv X pins σ (upd H s.heap.objs.size (.lst ys)) { s with heap := s.heap.push { cls := .type "list", data := .seq its.toArray }, toks := t' } :=
  I.laid (fun _ _ q => Heap.get?_push_of_some _ q) (Nat.le_refl _) ⟨hz, its, 0, hv, Heap.get?_push_size _ rfl⟩
theorem Inv.fresh (I : Inv X pins σ H s) : H s.heap.objs.size = none := I.hok.fresh (Nat.le_refl _)
theorem Inv.lstM (I : Inv X pins σ H s) (hH : H l = some (.lst xs)) : xs.length ≤ sizeLine ∧ ∃ (its : List Value) (n : Nat), Vals xs its ∧ xs.length = its.length ∧ s.heap.get? l = some { cls := .type "list", data := .seq its.toArray n } := by
  obtain ⟨z, its, n, r, e⟩ := I.hok l _ hH
  exact ⟨z, its, n, r, r.length, e⟩

end

section
variable {X : Cx}

/-! ### methods -/
def rAppend : V → List V → Hp → VK → Prop := fun x vs H Q => ∃ l xs y, x = .ref l ∧ vs = [y] ∧ H l = some (.lst xs) ∧ xs.length < sizeLine ∧ Q .non (upd H l (.lst (xs ++ [y])))
theorem mt_append : MtM X "list.append" rAppend := by
  intro pins s σ H x vs v us Q I rx rv h
  obtain ⟨l, xs, y, rfl, rfl, hH, hz, q⟩ := h
  cases rx
  obtain ⟨u, rfl, ru⟩ := rv.one
  obtain ⟨z, its, n, r, hl, e⟩ := I.lstM hH
  refine call_meets F.slot_list_append ⟨_, e, rfl⟩ F.entry_list_append (F.args_list_append_2 _ _) (PySem.list_append l its.toArray n u (by rw [List.size_toArray]; omega)) ⟨e, ?_⟩
  refine ⟨.non, _, I.lset (its' := its ++ [u]) hH e (by simp) (r.append (.cons ru .nil)) ?_, rfl, q⟩
  rw [List.length_append, List.length_singleton]
  omega

/-! ### list + list, list += list, list * int -/
def rCat : R2 := fun x y H Q => ∃ l b xs zs, x = .ref l ∧ y = .ref b ∧ H l = some (.lst xs) ∧ H b = some (.lst zs) ∧ xs.length + zs.length ≤ sizeLine ∧ ∀ p, H p = none → Q (.ref p) (upd H p (.lst (xs ++ zs)))
theorem op_cat : OpR X (binaryOp .Add) rCat := by
  intro pins s σ H x y v u Q I rx ry h
  obtain ⟨l, b, xs, zs, rfl, rfl, hH, hB, hz, q⟩ := h
  cases rx
  cases ry
  obtain ⟨z, its, n, r, hl, e⟩ := I.lstM hH
  obtain ⟨z2, its2, n2, r2, hl2, e2⟩ := I.lstM hB
  refine PySem.P.add_list e e2 ?_ (by rw [List.size_toArray, List.size_toArray]; omega)
  have ea : its.toArray ++ its2.toArray = (its ++ its2).toArray := by simp
  rw [ea]
  exact ⟨.ref _, _, I.lnew (t' := s.toks) (r.append r2) (by rw [List.length_append]; omega), rfl, q _ I.fresh⟩
/-! ### del xs[i] -/
end

/-! ### xs[a:b] = ys -/
section
variable {prog : Program} {w : World} {A : Around} {E : Value → Shared → Prop} {s : Shared}
end

section
variable {X : Cx}
end
end L2

namespace Att
open PySem PySem.W PySem.Calls PyProof.Rows

/-! ### the script -/
theorem ints_of_wellAll {P : Params} {h : Heap} : ∀ (ns : List Int) (vs : List Value), WellAll P h vs (ns.map WData.int) → IntsAre vs ns := by
  intro ns
  induction ns with
  | nil =>
    intro vs w
    rw [List.map_nil] at w
    cases w
    exact .nil
  | cons n ns ih =>
    intro vs w
    rw [List.map_cons] at w
    cases w with
    | cons a b =>
      cases a
      exact .cons _ _ (ih _ b)

theorem script_of {l : OpenLaw} {n : Nat} (hn : l.most = some n) {P : Params} {h : Heap} {args : List WData} {vals : List Value}
    (hpre : l.row.toRowW.claim.pre args = true) (hwl : WellAll P h vals args) :
    ∃ a vs ns, vals = [Value.ref a] ∧ args = [WData.list (ns.map WData.int)] ∧ h.get? a = some { cls := .type "list", data := .seq vs.toArray } ∧ IntsAre vs ns ∧ ns.length ≤ n := by
  have hsh : WShape.hasAll [] args [.list .int] = true := (pre_splitW hpre).1
  have hc : l.pre.holds [] { args := args } = true := (pre_splitW hpre).2
  obtain ⟨d, r, rfl, h1, h2⟩ := hasAllW_cons hsh
  obtain rfl := hasAllW_nil h2
  obtain ⟨xs, rfl, h3⟩ := hasW_list h1
  obtain ⟨ns, rfl⟩ := items_int h3
  have hlen : ns.length ≤ n := by
    unfold OpenLaw.pre at hc
    have h4 : (WTm.not (.lt (.lit (.int (n : Int))) (.len (.arg 0)))).holds [] { args := [.list (ns.map .int)] } = true := by
      have h4 := (holds_andW hc).1
      rw [hn] at h4
      exact h4
    have h5 := condW_of h4 (w_not (w_lt w_lit (w_len_list (w_arg rfl))))
    rw [List.length_map] at h5
    refine Nat.le_of_not_lt fun q => ?_
    have q' : (n : Int) < ((ns.length : Nat) : Int) := by omega
    first
      | (rw [decide_eq_true q'] at h5; exact absurd h5 (by decide))
      | (simp at h5; omega)
  cases hwl with
  | cons w1 w2 =>
    cases w2
    cases w1 with
    | list ho hall => exact ⟨_, _, ns, rfl, rfl, ho, ints_of_wellAll ns _ hall, hlen⟩

theorem post_true (l : OpenLaw) (args : List WData) : l.row.toRowW.claim.post args (.bool true) args = true :=
  postW_of (r := l.row.toRowW) (X := (true == true))
    (show WShape.has [] (.bool true) .bool = true by first | rfl | decide | simp [WShape.has, WShape.arms, WShape.armsAll])
    (show (WTm.eq .res (.lit (.bool true))).value [] { args := args, res := some (.bool true), after := args } = some (.bool (true == true)) from w_eq_bool (w_res rfl) w_lit) rfl

/-! ### the attachment: holds_open's last premise (the goal 'hc' behind k_head) from a wpAny of the law's body -/
/-- the same from a codeAny of the CALL (for a layer whose function contracts speak of calls) -/
theorem attach_call {l : OpenLaw} {n : Nat} {q : Program} {loose : List Str} {XP : (Str → Option Value) → Heap → Prop} {YP : World → Heap → Prop} {d : DefRec}
    (hn : l.most = some n) (hdf : d.params.defaults = [])
    (call : ∀ (w : World) (s₀ s₁ : Shared) (mg mb : Str → Option Value) (fa : Addr) (o : Obj) (pm cd doc : Value) (a : Addr) (vs : List Value) (ns : List Int),
      Ground q loose [] XP w s₀ mg mb s₁.heap → YP w s₁.heap →
      s₁.heap.get? fa = some o → o.data = .func (docDef d.name d.params d.body d.scope pm cd doc) → s₁.heap.CodeRec cd d.name → mg d.name = some (.ref fa) →
      s₁.heap.get? a = some { cls := .type "list", data := .seq vs.toArray } → IntsAre vs ns → ns.length ≤ n → s₁.gens = #[] →
      codeAny (model l.prog w) callerA (.call (.ref fa) ⟨[.ref a], []⟩) (fun r s' => r = .ok (.ret (.bool true)) ∧ OldK s₁.heap s'.heap ∧ s'.os = s₁.os ∧ AllBare s'.gens) s₁) :
    WalkO q loose XP YP l.row.toRowW d [] (fun f vs => PySem.call f vs) := by
  intro w s₀ s₁ mg mb G Y fa o pm cd doc dV kV ho hd hcd hD hmg hg args vals as hpre hlay hrd hwl hlo
  obtain rfl : dV = .none := Dflts.none hD hdf
  obtain rfl : kV = .none := Dflts.noKw hD
  obtain ⟨a, vs, ns, rfl, rfl, hobj, hints, hlen⟩ := script_of hn hpre hwl
  refine enter_call (codeAny_mono (call w s₀ s₁ mg mb fa o pm cd doc a vs ns G Y ho (fd_plain hd) hcd hmg hobj hints hlen hg) fun r s' hq => ?_)
  obtain ⟨rfl, h2, h3, h4⟩ := hq
  exact ⟨.inl ⟨.bool true, .bool true, [], rfl, fun _ => rfl, .bool true, post_true l _, fun _ => ⟨List.Pairwise.nil, fun _ hm => (nomatch hm)⟩⟩, h2, h3, h4⟩

/-! ### rules over ANY heap (no ledger) from facts about the written part K: the library's own take a ledger (News) for what they write -/
section
variable {prog : Program} {w : World} {A : Around} {E : Value → Shared → Prop} {s : Shared} {K : Frag}

/-! the whole heap as the ledger: makes every rule that writes through a ledger a rule over any heap -/
def ledger (h : Heap) (L d : Addr) : List (Addr × Obj) := (List.range h.objs.size).filterMap fun a => if a = L ∨ a = d then none else (h.get? a).map fun o => (a, o)
end
end Att

namespace L2
open PySem PySem.Spec PyProof.Rows

theorem vals_ints : ∀ {vs : List Value} {ns : List Int}, IntsAre vs ns → Vals (ns.map V.int) vs
  | _, _, .nil => .nil
  | _, _, .cons n t h => .cons ⟨t, rfl⟩ (vals_ints h)

/-- nothing is tracked but the script, known to the object (or it is an object of the module) -/
def Only (H : Hp) : Prop := ∀ b, H b = none ∨ ∃ o xs, H b = some (.frz o (.lst xs))

/-- THE HEAD: the law's promise, at the heap behind the top. F, the promise of the law's def, may use that base is part of the heap (so K.In base, base.Ns mainGlobals mg stand in Mod) -/
theorem law_call {P : Program} {w : World} {K : PySem.W.Frag} {mg mb : Str → Option Value} {CX : CXT} {k : Nat} {fa a : Addr} {fd : FuncData} {x : Str} {sp : Sp} {s₁ : Shared} {vs : List Value} {ns : List Int}
    (KX : K.In s₁.heap) (hns : s₁.heap.Ns mainGlobals mg) (hb : s₁.heap.Ns builtinsNs mb) (hbb : ∀ x : Str, x ≠ "__name__" → mb x = bootBuiltins x) (hlim : s₁.heap.NoLimit) (hg : s₁.gens = #[])
    (ha : s₁.heap.get? a = some { cls := .type "list", data := .seq vs.toArray }) (hi : IntsAre vs ns) (hl : ns.length ≤ sizeLine) (hr : Room k callerA)
    (F : ∀ base : Heap, K.In base → base.Ns mainGlobals mg → FnOk P w K mg base CX k fa fd [x] sp) (hbind : ∀ (s : Shared) (u : Value), BindsTo s fd ⟨[u], []⟩ [(x, u)])
    (hsp : ∀ H : Hp, Only H → SqL K H a (ns.map V.int) → sp [.ref a] H (fun v _ => v = .bl true) fun _ _ _ => False)
    (hCX : ∀ H e s', CX [] H s₁ (fun _ _ _ => False) e s' → False) :
    codeAny (model P w) callerA (.call (.ref fa) ⟨[.ref a], []⟩) (fun r s' => r = .ok (.ret (.bool true)) ∧ OldK s₁.heap s'.heap ∧ s'.os = s₁.os ∧ AllBare s'.gens) s₁ := by
  have rv := vals_ints hi
  have lenV := hi.length
  -- from an abstract heap in which nothing but the script may be tracked
  have core : ∀ H : Hp, Only H → SqL K H a (ns.map V.int) → HOk P w H s₁.heap → (∀ b, H b ≠ none → b = a) → (H a ≠ none → K.lookup a = none) →
      codeAny (model P w) callerA (.call (.ref fa) ⟨[.ref a], []⟩) (fun r s' => r = .ok (.ret (.bool true)) ∧ OldK s₁.heap s'.heap ∧ s'.os = s₁.os ∧ AllBare s'.gens) s₁ := by
    intro H hO hS hok hA hK
    have base_of : ∀ {b : Addr} {o : Obj}, s₁.heap.get? b = some o → H b = none → (hidT s₁.heap H).get? b = some o := fun e n => hidT_get e n
    have noA : ∀ {b : Addr} {o : Obj} {es : Array DictEntry} {ep : Nat}, s₁.heap.get? b = some o → o.data = .dict es ep → H b = none := fun {b o es ep} e d => by
      cases q : H b with
      | none => rfl
      | some u =>
        have e' : b = a := hA b (by rw [q]; simp)
        subst e'
        rw [ha] at e; cases e
        have d' : Data.seq vs.toArray _ = Data.dict es ep := d
        cases d'
    have nsK : ∀ {b : Addr} {m : Str → Option Value}, s₁.heap.Ns b m → (hidT s₁.heap H).Ns b m := fun {b m} ⟨o, es, ep, e, d, r⟩ => ⟨o, es, ep, base_of e (noA e d), d, r⟩
    have hKb : K.In (hidT s₁.heap H) := fun b o e => base_of (KX b o e) (by
      cases q : H b with
      | none => rfl
      | some u =>
        have e' : b = a := hA b (by rw [q]; simp)
        subst e'
        rw [hK (by rw [q]; simp)] at e; cases e)
    have hM : Mod K mg (hidT s₁.heap H) := ⟨hKb, nsK hns, ⟨mb, nsK hb, hbb⟩, let ⟨mc, h1, h2⟩ := hlim; ⟨mc, nsK h1, h2⟩⟩
    have e0 : Env0 P w K mg (hidT s₁.heap H) callerA [] s₁ H := ⟨rfl, hM, fun b o e => of_hidT e, Nat.le_of_eq (hidT_size _ _), trivial, fun b hb => absurd (show b ∈ ([] : List Addr) from hb) (by simp), hok, .of_eq hg⟩
    refine codeAny_mono ((F _ hKb (nsK hns)).run callerA [] s₁ H ⟨[.ref a], []⟩ [.ref a] [.ref a] _ _ hr e0 (hbind s₁ (.ref a)) (.cons rfl .nil) (hsp H hO hS)) fun r s' h => ?_
    cases r with
    | error e => exact (hCX H e s' h).elim
    | ok fl =>
      cases fl with
      | next => exact False.elim h
      | brk => exact False.elim h
      | cont => exact False.elim h
      | ret u =>
        obtain ⟨v, H', os, bare, un, hok', r', q⟩ := h
        have q' : v = .bl true := q
        subst q'
        obtain rfl : u = Value.bool true := r'
        refine ⟨rfl, OldK.of_keep fun b o e => ?_, os, bare⟩
        cases q : H b with
        | none => exact un.keep b o e q (by intro z; exact absurd (show b ∈ ([] : List Addr) from z) (by simp)) (by simp)
        | some u =>
          rcases hO b with z | ⟨ob, xs, z⟩
          · rw [q] at z; cases z
          · have z2 := un.frzs b ob _ z
            obtain ⟨e1, _⟩ := hok b _ z
            obtain ⟨e2, _⟩ := hok' b _ z2
            rw [e] at e1; cases e1
            exact e2
  cases hk : K.lookup a with
  | some o =>
    -- the script is one of the module's own objects
    have e := KX a o hk
    rw [ha] at e
    cases e
    refine core (fun _ => none) (fun _ => .inl rfl) (.inr ⟨_, vs.toArray, _, hk, rfl, rfl, rfl, by rw [List.size_toArray, lenV]; exact hl, by simpa using rv⟩) (fun b u z => by have z' : (none : Option HO) = some u := z; cases z') (fun b z => absurd rfl z) fun z => absurd rfl z
  | none =>
    refine core (fun b => if b = a then some (.frz { cls := .type "list", data := .seq vs.toArray } (.lst (ns.map V.int))) else none) (fun b => ?_) (.inl (.inr ⟨{ cls := .type "list", data := .seq vs.toArray }, if_pos rfl⟩)) (fun b u z => ?_) (fun b z => ?_) fun _ => hk
    · by_cases hb : b = a
      · exact .inr ⟨_, _, if_pos hb⟩
      · exact .inl (if_neg hb)
    · by_cases hb : b = a
      · have z' := (if_pos hb).symm.trans z
        cases z'
        subst hb
        exact ⟨ha, by rw [List.length_map]; exact hl, vs, _, rv, ha⟩
      · have z' := (if_neg hb).symm.trans z
        cases z'
    · by_cases hb : b = a
      · exact hb
      · exact absurd (if_neg hb) z
end L2

namespace L2
open PySem PySem.Spec PyProof.Rows

abbrev KOf {K : PySem.W.Frag} {h : Heap} (_ : K.In h) : PySem.W.Frag := K

/-- the goal that k_head leaves (case hc), from the law's promise. F gives the function object fd (K's own) once, then the promise over every base -/
theorem walk_of {l : PySem.W.OpenLaw} {n k : Nat} {q : Program} {loose : List Str} {XP : (Str → Option Value) → Heap → Prop} {YP : World → Heap → Prop} {d : DefRec} {K : Params → PySem.W.Frag} {CX : World → CXT} {sp : World → Sp} {x : Str}
    (hn : l.most = some n) (hn2 : n ≤ sizeLine) (hdf : d.params.defaults = []) (hr : Room k callerA)
    (hY : ∀ (w : World) (h : Heap), YP w h → (K w.params).In h)
    (F : ∀ (w : World) (mg : Str → Option Value) (fa : Addr) (h : Heap), (K w.params).In h → h.Ns mainGlobals mg → mg d.name = some (.ref fa) →
      ∃ fd : FuncData, (∀ (s : Shared) (u : Value), BindsTo s fd ⟨[u], []⟩ [(x, u)]) ∧
        ∀ base : Heap, (K w.params).In base → base.Ns mainGlobals mg → FnOk l.prog w (K w.params) mg base (CX w) k fa fd [x] (sp w))
    (hsp : ∀ (w : World) (H : Hp) (a : Addr) (ns : List Int), ns.length ≤ n → Only H → SqL (K w.params) H a (ns.map V.int) → sp w [.ref a] H (fun v _ => v = .bl true) fun _ _ _ => False)
    (hCX : ∀ (w : World) (H : Hp) (s : Shared) (e : Value) (s' : Shared), CX w [] H s (fun _ _ _ => False) e s' → False) :
    PySem.W.WalkO q loose XP YP l.row.toRowW d [] (fun f vs => PySem.call f vs) := by
  refine Att.attach_call hn hdf fun w s₀ s₁ mg mb fa o pm cd doc a vs ns G Y ho hd hcd hmg hobj hints hlen hg => ?_
  have KX := hY w _ Y
  obtain ⟨fd, hb, hF⟩ := F w mg fa _ KX G.T.g hmg
  exact law_call KX G.T.g G.T.b G.T.builtins G.T.nolimit hg hobj hints (Nat.le_trans hlen hn2) hr hF hb (fun H hO hS => hsp w H a ns hlen hO hS) fun H e s' => hCX w H s₁ e s'
end L2

/- THE LAST THEOREM (shape; LID, My.* are yours):
   My.Adr: a structure of the addresses that your layer names (classes, functions); My.Txt K t: a structure (Prop) of the equations over K;
   My.txt_mk : {K} {implicit addresses ..} (e1 : nsIn K mainGlobals "law" = some (some (.ref f))) (e2 : K.lookup f = some ⟨oc, od, .func (fnOf "law" "law" params body scope dV kV doc pm an cdv ct), sl⟩) (e3 : codeIn K cdv "law" = true) .. : ∃ t, My.Txt K t

set_option maxRecDepth 100000 in
set_option maxHeartbeats 0 in
theorem PySem.Challenge.cw_LID_holds : PySem.Challenge.rw_LID.Holds := by
  w_on; o_law; k_head; (case hw => w_witness2)
  k_fill
  refine L2.walk_of (l := PySem.Challenge.rw_LID) (n := 63) (k := 40) (x := "script") (CX := fun w => ..) (sp := fun _ => My.sp_law) rfl (by decide) rfl ⟨rfl, by decide, by decide⟩ (fun w h Y => PySem.W.kIn_of Y) ?F ?S ?C
  case F =>
    intro w mg fa h KX G hmg
    have T : ∃ t, My.Txt (L2.KOf KX) t := by
      dsimp only [L2.KOf]                          -- K must stand as «<heap const> w.params» for k_is
      refine' My.txt_mk ?e1 ?e2 ?e3 ..
      (case e1 => PySem.W.k_is)                    -- in the order: a name -> its address -> its object -> its parts
      (case e2 => PySem.W.k_is)
      ..
    obtain ⟨t, T⟩ := T
    have e0 := hmg.symm.trans (PySem.W.mg_of KX G T.law)
    cases e0                                       -- fa is the law's own address
    exact ⟨_, fun s u => .of_eq rfl, fun base kb nb => My.law_fn T kb nb⟩     -- if «.of_eq rfl» comes too early: refine' ⟨_, ?b, fun base kb nb => My.law_fn T kb nb⟩; exact fun s u => .of_eq rfl
  case S => exact fun w H a ns hl hO hS => ..
  case C => exact ..
(the tactic k_is has no namespace: write k_is) -/

/-! SHORT WORDS over the layer: a def of the text, its body, what a loop and a test want. -/
namespace L2
open PySem PySem.Spec PyProof.Rows

/-! ### the text by places -/
def defArgs (s : Stmt) : Arguments := match s with
  | .FunctionDef _ a _ _ _ _ _ _ _ _ => a
  | _ => { posonlyargs := [], args := [], vararg := none, kwonlyargs := [], kw_defaults := [], kwarg := none, defaults := [] }
def defBody (s : Stmt) : List Stmt := match s with
  | .FunctionDef _ _ b _ _ _ _ _ _ _ => b
  | _ => []
def defScope (s : Stmt) : Scope := match s with
  | .FunctionDef _ _ _ _ _ _ sc _ _ _ => sc
  | _ => { kind := .function, names := [], isGenerator := false, isCoroutine := false }

/-! ### no exception leaves a def -/
abbrev CX0 : CXT := fun _ _ _ _ _ _ => False
abbrev E0 : XK := fun _ _ _ => False
theorem pass0 {X : Cx} : Passes CX0 X E0 := fun _ _ _ _ _ _ _ h => h.elim

/-! ### a def (or method) of the text as it stands behind the top -/
structure Fun (K : PySem.W.Frag) (x qual : Str) (st : Stmt) (f : Addr) (fd : FuncData) : Prop where
  ex : ∃ (oc : Value) (od : Option Addr) (kV doc pm : Value) (an : Option Addr) (cdv ct : Value) (osl : Array (Option Value)),
    fd = PySem.W.fnOf x qual (defArgs st) (defBody st) (defScope st) .none kV doc pm an cdv ct ∧ K.lookup f = some ⟨oc, od, .func fd, osl⟩ ∧ PySem.W.codeIn K cdv qual = true
  kp : PySem.W.keepIn K (.ref f) = true
section
variable {P : Program} {w : World} {K : PySem.W.Frag} {mg : Str → Option Value} {base : Heap}
/-- THE RULE for a def: its body as a term of rules, and the reading of that term -/
theorem Fun.ok {x qual : Str} {st : Stmt} {f : Addr} {fd : FuncData} {N ps : List Str} {k : Nat} {sp : Sp} (F : Fun K x qual st f fd) (S : FnScope N ps (defScope st)) (len : ∀ vs H Q E, sp vs H Q E → vs.length = ps.length)
    (hbody : ∀ (cdv : Value) (A : Around) (outer : List Env) (s : Shared) (H : Hp) (vs : List V) (Q : VK) (E : XK), Room k (A.deeper (envOfC qual (defScope st) s.heap.objs.size f cdv)) → sp vs H Q E →
      ∃ t, PSs (cxOf CX0 P w K mg base N qual (defScope st) f cdv A outer s H E).nox (defBody st) t ∧ t { nx := fun _ H' => Q .non H', rt := Q } (start N vs) H) : FnOk P w K mg base CX0 (k + 1) f fd ps sp := by
  obtain ⟨oc, od, kV, doc, pm, an, cdv, ct, osl, rfl, lk, hcd⟩ := F.ex
  refine fn_of lk hcd S len fun A outer s H vs Q E hr hsp => ?_
  obtain ⟨t, h, q⟩ := hbody cdv A outer s H vs Q E hr hsp
  exact ⟨t, h.nox, q⟩
/-- how its arguments bind (no defaults): h is «fun _ _ _ _ _ _ us hl => match us, hl with | [_, _], _ => rfl», one _ a parameter -/
theorem Fun.binds {x qual : Str} {st : Stmt} {f : Addr} {fd : FuncData} {ps : List Str} (F : Fun K x qual st f fd)
    (h : ∀ (kV doc pm : Value) (an : Option Addr) (cdv ct : Value) (us : List Value), us.length = ps.length → bindArgs (PySem.W.fnOf x qual (defArgs st) (defBody st) (defScope st) .none kV doc pm an cdv ct) ⟨us, []⟩ = pure (ps.zip us)) : Binds K fd ps [] := by
  obtain ⟨oc, od, kV, doc, pm, an, cdv, ct, osl, rfl, lk, hcd⟩ := F.ex
  exact .all (h kV doc pm an cdv ct)
theorem fun_mk {x qual : Str} {st : Stmt} {f : Addr} {oc : Value} {od an : Option Addr} {osl : Array (Option Value)} {kV doc pm cdv ct : Value} (l : K.lookup f = some ⟨oc, od, .func (PySem.W.fnOf x qual (defArgs st) (defBody st) (defScope st) .none kV doc pm an cdv ct), osl⟩)
    (c : PySem.W.codeIn K cdv qual = true) (k : PySem.W.keepIn K (.ref f) = true) : Fun K x qual st f (PySem.W.fnOf x qual (defArgs st) (defBody st) (defScope st) .none kV doc pm an cdv ct) := ⟨⟨oc, od, kV, doc, pm, an, cdv, ct, osl, rfl, l, c⟩, k⟩
end
/-! ### expressions in short: the name that stands in the i-th slot -/
section
variable {X : Cx}
end

/-! ### tests -/
theorem iteF {A B : Prop} (h : B) : if false = true then A else B := by
  rw [if_neg Bool.false_ne_true]
  exact h
theorem iteT {A B : Prop} (h : A) : if true = true then A else B := by
  rw [if_pos rfl]
  exact h
theorem ite2 {c A B : Prop} [Decidable c] (h1 : c → A) (h2 : ¬ c → B) : if c then A else B := by
  by_cases h : c
  · rw [if_pos h]
    exact h1 h
  · rw [if_neg h]
    exact h2 h
/-! ### heaps -/
/-- all that was tracked is as it was -/
def Same (H H' : Hp) : Prop := ∀ b o, H b = some o → H' b = some o
theorem Same.refl (H : Hp) : Same H H := fun _ _ h => h
theorem Same.trans {H H1 H2 : Hp} (a : Same H H1) (b : Same H1 H2) : Same H H2 := fun c o h => b c o (a c o h)
theorem Same.free {H H' : Hp} (e : Same H H') {l : Addr} (h : H' l = Option.none) : H l = Option.none := by
  cases q : H l with
  | none => rfl
  | some o =>
    rw [e l o q] at h
    cases h
theorem Same.seq {K : PySem.W.Frag} {H H' : Hp} {a : Addr} {xs : List V} (e : Same H H') (h : SqL K H a xs) : SqL K H' a xs := by
  rcases h with (h | ⟨o, h⟩) | h
  · exact .inl (.inl (e _ _ h))
  · exact .inl (.inr ⟨o, e _ _ h⟩)
  · exact .inr h

end L2

set_option Elab.async false
set_option linter.all false
set_option maxRecDepth 100000
/-! Rules of our own over the hand layer: a def by its name, comprehensions. -/
namespace L2
open PySem PySem.Spec PyProof.Rows

/-! ### a def by its name -/
structure DefOk (P : Program) (w : World) (K : PySem.W.Frag) (mg : Str → Option Value) (base : Heap) (k : Nat) (x : Str) (ps : List Str) (sp : Sp) : Prop where
  ex : ∃ (f : Addr) (fd : FuncData), FnOk P w K mg base CX0 k f fd ps sp ∧ mg x = some (.ref f) ∧ PySem.W.keepIn K (.ref f) = true ∧ Binds K fd ps []
def tCallD (sp : Sp) (t : TA) : TE := fun σ H Q => t σ H fun vs H1 => sp vs H1 Q E0
theorem tCallD_eq (sp : Sp) (t : TA) : tCall sp [] E0 t = tCallD sp t := by
  funext σ H Q
  unfold tCall tCallD
  congr
  funext vs H1
  rw [List.append_nil]
section
variable {X : Cx} {k : Nat} {x : Str} {ps : List Str} {sp : Sp} {e : Expr} {es : List Expr} {t : TA} {p pos : Pos}
theorem pe_callD (D : DefOk X.prog X.w X.K X.mg X.base k x ps sp) (hr : Room k X.A) (ha : PA X (e :: es) t) (hg : Gl X x := by rfl)
    (hdb : (x == ("__debug__" : Str)) = false := by decide) (he : starEach (e :: es) X.env = (false, eval e X.env) :: starEach es X.env := by rfl) (hpl : (backTo pos (starEach es X.env)).any (·.1) = false := by rfl) :
    PE X (.Call (.Name x p) (e :: es) [] pos) (tCallD sp t) := by
  obtain ⟨f, fd, F, hm, hk, hb⟩ := D.ex
  rw [← tCallD_eq]
  exact pe_call F hr hg hm hk hb .nil pass0 ha hdb he hpl
end

/-! ### comprehensions: the cells that the block sees -/
def clOf (cells : List (Str × Addr)) : List (Str × NameKind) → List (Str × Addr) → List (Str × Addr)
  | [], acc => acc
  | (n, k) :: r, acc => clOf cells r (if (k == NameKind.free) = true then (n, (cells.lookup n).getD 0) :: acc else acc)
theorem clOf_cons (cells : List (Str × Addr)) (n : Str) (k : NameKind) (r : List (Str × NameKind)) (acc : List (Str × Addr)) : clOf cells ((n, k) :: r) acc = clOf cells r (if (k == NameKind.free) = true then (n, (cells.lookup n).getD 0) :: acc else acc) := rfl
theorem mem_clOf {cells : List (Str × Addr)} {x : Str} {c : Addr} : ∀ {l : List (Str × NameKind)} {acc : List (Str × Addr)}, (x, c) ∈ clOf cells l acc → (x, c) ∈ acc ∨ ((x, NameKind.free) ∈ l ∧ c = (cells.lookup x).getD 0)
  | [], acc, h => .inl h
  | (n, k) :: r, acc, h => by
    unfold clOf at h
    rcases mem_clOf h with h | ⟨h1, h2⟩
    · by_cases hk : (k == NameKind.free) = true
      · rw [if_pos hk] at h
        rcases List.mem_cons.mp h with h | h
        · cases h
          have : k = NameKind.free := by simpa using hk
          subst this
          exact .inr ⟨List.mem_cons_self, rfl⟩
        · exact .inl h
      · rw [if_neg hk] at h
        exact .inl h
    · exact .inr ⟨List.mem_cons_of_mem _ h1, h2⟩
theorem acc_clOf {cells : List (Str × Addr)} {q : Str × Addr} : ∀ {l : List (Str × NameKind)} {acc : List (Str × Addr)}, q ∈ acc → q ∈ clOf cells l acc
  | [], _, h => h
  | (n, k) :: r, acc, h => by
    unfold clOf
    refine acc_clOf ?_
    split
    · exact List.mem_cons_of_mem _ h
    · exact h
theorem in_clOf {cells : List (Str × Addr)} {x : Str} : ∀ {l : List (Str × NameKind)} {acc : List (Str × Addr)}, (x, NameKind.free) ∈ l → (x, (cells.lookup x).getD 0) ∈ clOf cells l acc
  | [], _, h => by cases h
  | (n, k) :: r, acc, h => by
    unfold clOf
    rcases List.mem_cons.mp h with h | h
    · cases h
      refine acc_clOf ?_
      simp
    · exact in_clOf h
theorem lookup_mem {β : Type} {x : Str} {b : β} : ∀ {l : List (Str × β)}, (x, b) ∈ l → ∃ c, l.lookup x = some c
  | [], h => by cases h
  | (n, k) :: r, h => by
    rw [List.lookup_cons]
    cases e : x == n with
    | true => exact ⟨k, rfl⟩
    | false =>
      rcases List.mem_cons.mp h with h | h
      · cases h
        simp at e
      · exact lookup_mem h
theorem closure_run {env : Env} : ∀ (l : List (Str × NameKind)) (acc : List (Str × Addr)), (∀ x ∈ l, x.2 = NameKind.free → ∃ c, env.cells.lookup x.1 = some c) →
    (forIn l acc fun x r => if (x.2 == NameKind.free) = true then (do let c ← cellOf env x.1; pure (ForInStep.yield ((x.1, c) :: r))) else pure (ForInStep.yield r) : Sem (List (Str × Addr))) = pure (clOf env.cells l acc)
  | [], acc, _ => rfl
  | (n, k) :: r, acc, h => by
    rw [List.forIn_cons]
    by_cases hk : (k == NameKind.free) = true
    · obtain ⟨c, hc⟩ := h (n, k) List.mem_cons_self (by simpa using hk)
      have e : cellOf env n = pure c := by unfold cellOf; rw [hc]
      show (if (k == NameKind.free) = true then _ else _) >>= _ = _
      rw [if_pos hk, e]
      show (forIn r ((n, c) :: acc) _ : Sem _) = _
      rw [closure_run r _ fun x hx => h x (List.mem_cons_of_mem _ hx)]
      rw [clOf_cons, if_pos hk, show env.cells.lookup n = some c from hc]
      rfl
    · show (if (k == NameKind.free) = true then _ else _) >>= _ = _
      rw [if_neg hk]
      show (forIn r acc _ : Sem _) = _
      rw [closure_run r _ fun x hx => h x (List.mem_cons_of_mem _ hx)]
      rw [clOf_cons, if_neg hk]
theorem closureFor_cl {scope : Scope} {env : Env} (h : ∀ x ∈ scope.names, x.2 = NameKind.free → ∃ c, env.cells.lookup x.1 = some c) : closureFor scope env = pure (clOf env.cells scope.names []) := by
  have e := closure_run scope.names [] h
  unfold closureFor
  first
    | exact (congrArg (fun m => m >>= fun r => pure r) e).trans rfl
    | (simp only [bind_pure]; exact e)
    | (rw [← e]; rfl)

/-! ### the block's context -/
def cxComp (X : Cx) (sc : Scope) (N : List Str) (cl : List (Str × Addr)) (C : Addr) (s₂ : Shared) (H₂ : Hp) (fp : List Addr) : Cx where
  prog := X.prog
  w := X.w
  K := X.K
  mg := X.mg
  base := X.base
  A := X.A
  N := N
  s₀ := s₂
  H₀ := H₂
  env := compEnvC sc cl C X.env
  outer := X.stack
  stack := X.stack
  ex := fp
  fn := fun _ => false
  calm := true
  pn := []
  xe := fun _ _ => False

/-- what is looked at once: the block's names against the def's -/
def compOk (NX : List Str) (scX sc : Scope) (N : List Str) (mp : List (Option Nat)) : Bool :=
  sc.names.all (fun p => p.2 != NameKind.cell) && sc.names.all (fun p => p.2 != NameKind.local || sc.names.lookup p.1 == some NameKind.local) &&
  sc.names.all (fun p => p.2 != NameKind.free || (scX.names.lookup p.1 == some NameKind.cell || scX.names.lookup p.1 == some NameKind.free)) &&
  mp.length == N.length && (N.zip mp).all (fun q => match q.2 with | none => true | some i => NX[i]? == some q.1 && sc.names.lookup q.1 == some NameKind.free)
/-- the block's values at its entry: what it sees of the def's -/
def seed (mp : List (Option Nat)) (σ : St) : St := mp.map fun o => match o with | none => none | some i => (σ[i]?).join

structure CompOk (NX : List Str) (scX sc : Scope) (N : List Str) (mp : List (Option Nat)) : Prop where
  cell : ∀ x ∈ sc.names, x.2 ≠ NameKind.cell
  loc : ∀ x ∈ sc.names, x.2 = NameKind.local → sc.names.lookup x.1 = some NameKind.local
  free : ∀ x ∈ sc.names, x.2 = NameKind.free → scX.names.lookup x.1 = some NameKind.cell ∨ scX.names.lookup x.1 = some NameKind.free
  len : mp.length = N.length
  map : ∀ (j : Nat) (x : Str) (i : Nat), N[j]? = some x → mp[j]? = some (some i) → NX[i]? = some x ∧ sc.names.lookup x = some NameKind.free
theorem compOk_of {NX : List Str} {scX sc : Scope} {N : List Str} {mp : List (Option Nat)} (h : compOk NX scX sc N mp = true) : CompOk NX scX sc N mp := by
  unfold compOk at h
  simp only [Bool.and_eq_true, List.all_eq_true] at h
  obtain ⟨⟨⟨⟨h1, h2⟩, h3⟩, h4⟩, h5⟩ := h
  have hl : mp.length = N.length := by simpa using h4
  refine ⟨fun x hx => by simpa using h1 x hx, fun x hx e => ?_, fun x hx e => ?_, hl, fun j x i e1 e2 => ?_⟩
  · have := h2 x hx
    rw [e] at this
    simpa using this
  · have := h3 x hx
    rw [e] at this
    simpa using this
  · have hj1 : j < N.length := (List.getElem?_eq_some_iff.mp e1).1
    have hj2 : j < mp.length := (List.getElem?_eq_some_iff.mp e2).1
    have hm : (x, some i) ∈ N.zip mp := by
      refine List.mem_of_getElem? (i := j) ?_
      rw [List.getElem?_zip_eq_some]
      exact ⟨e1, e2⟩
    have := h5 _ hm
    simpa using this

theorem relabel_lookup {sc : Scope} {env : Env} {x : Str} {k : NameKind} (h : (relabel sc env).names.lookup x = some k) : ∃ k', (x, k') ∈ sc.names ∧ (k = k' ∨ (k' = NameKind.free ∧ k = NameKind.cell)) := by
  have hm := PySem.mem_of_lookup h
  obtain ⟨⟨n, k'⟩, hm', e⟩ := List.mem_map.mp hm
  refine ⟨k', ?_⟩
  dsimp only at e
  split at e
  · rename_i hc
    cases e
    rw [Bool.and_eq_true, Bool.and_eq_true] at hc
    have : k' = NameKind.free := by simpa using hc.1.1
    exact ⟨hm', .inr ⟨this, rfl⟩⟩
  · cases e
    exact ⟨hm', .inl rfl⟩
theorem relabel_free {sc : Scope} {env : Env} {x : Str} (h : sc.names.lookup x = some NameKind.free) : (relabel sc env).names.lookup x = some NameKind.cell ∨ (relabel sc env).names.lookup x = some NameKind.free := by
  show (sc.names.map _).lookup x = _ ∨ (sc.names.map _).lookup x = _
  generalize sc.names = l at h
  induction l with
  | nil => cases h
  | cons p r ih =>
    obtain ⟨n, k⟩ := p
    rw [List.map_cons]
    dsimp only
    by_cases hc : (k == NameKind.free && env.scope.kind == .function && env.kindOf n == some .cell) = true
    · rw [if_pos hc, List.lookup_cons]
      cases e : x == n with
      | true => exact .inl rfl
      | false =>
        rw [List.lookup_cons, e] at h
        exact ih h
    · rw [if_neg hc, List.lookup_cons]
      cases e : x == n with
      | true =>
        rw [List.lookup_cons, e] at h
        exact .inr h
      | false =>
        rw [List.lookup_cons, e] at h
        exact ih h

section
variable {X : Cx} {sc : Scope} {N : List Str} {mp : List (Option Nat)} {pins : List (Addr × Obj)} {σ : St} {H : Hp} {s : Shared} {fp : List Addr} {C : Addr} {h₁ : Heap}
theorem cl_cells (O : CompOk X.N X.env.scope sc N mp) (ok : X.Ok) : ∀ x ∈ sc.names, x.2 = NameKind.free → ∃ c, X.env.cells.lookup x.1 = some c := fun x hx e => ok.has x.1 (O.free x hx e)
theorem cl_sub (O : CompOk X.N X.env.scope sc N mp) (ok : X.Ok) {x : Str} {c : Addr} (h : (clOf X.env.cells sc.names []).lookup x = some c) : X.env.cells.lookup x = some c ∧ (x, NameKind.free) ∈ sc.names := by
  rcases mem_clOf (PySem.mem_of_lookup h) with h | ⟨h1, h2⟩
  · cases h
  · obtain ⟨c', hc⟩ := cl_cells O ok _ h1 rfl
    have hc' : X.env.cells.lookup x = some c' := hc
    rw [hc'] at h2
    rw [hc', h2]
    exact ⟨rfl, h1⟩
theorem cl_has (O : CompOk X.N X.env.scope sc N mp) (ok : X.Ok) {x : Str} (h : (x, NameKind.free) ∈ sc.names) : ∃ c, (clOf X.env.cells sc.names []).lookup x = some c := lookup_mem (in_clOf h)

/-- the block begins -/
theorem inv_comp (hc : X.calm = true) (O : CompOk X.N X.env.scope sc N mp) (hk : sc.kind = .function) (I : Inv X pins σ H s) (hC : s.heap.objs.size ≤ C) (kp : ∀ b o, s.heap.get? b = some o → h₁.get? b = some o) {m : Str → Option Value}
    (hn : h₁.Ns C m) (fpo : ∀ b ∈ fp, FpOk X pins H b) (fpl : ∀ b ∈ fp, b < s.heap.objs.size) {t' : Nat} :
    Inv (cxComp X sc N (clOf X.env.cells sc.names []) C s H fp) [] (seed mp σ) H { s with heap := h₁, toks := t' } := by
  have ok := I.ok
  have fsb : ∀ b ∈ fp, b ∉ frs X.stack := fun b hb z => by
    rcases List.mem_cons.mp (I.stkSub b z) with e | e
    · exact (fpo b hb).2.1 e
    · exact (fpo b hb).2.2.1 e
  refine ⟨⟨ok.mod, hk, ok.glob, ok.blt, hC, ?_, ?_, ?_, fun _ => ok.hd hc, ok.frames, .inl rfl, ?_, I.bs, Nat.le_trans ok.bsz I.sz, ?_, fsb, I.stack, I.stkFree⟩, rfl, I.bare, Un.kept kp, ?_, ?_, I.hok.fresh hC, ?_, ?_, I.hok.kept kp, ?_⟩
  · intro x y c h1 h2
    exact ok.inj x y c (cl_sub O ok h1).1 (cl_sub O ok h2).1
  · intro x hx
    have hx' : (relabel sc X.env).names.lookup x = some .cell ∨ (relabel sc X.env).names.lookup x = some .free := hx
    have hf : (x, NameKind.free) ∈ sc.names := by
      rcases hx' with h | h
      · obtain ⟨k', hm, e⟩ := relabel_lookup h
        rcases e with e | ⟨e, _⟩
        · subst e
          exact absurd rfl (O.cell _ hm)
        · subst e
          exact hm
      · obtain ⟨k', hm, e⟩ := relabel_lookup h
        rcases e with e | ⟨_, e⟩
        · subst e
          exact hm
        · cases e
    exact cl_has O ok hf
  · intro x c hf
    cases hf
  · intro b hb
    refine ⟨Nat.ne_of_lt (Nat.lt_of_lt_of_le (fpl b hb) hC), fun x c h => ?_⟩
    exact (fpo b hb).2.2.2.2.1 x c (cl_sub O ok h).1
  · intro b o e hb
    rcases (fpo b hb).2.2.2.1 with z | z
    · exact ok.noex b o e z
    · exact absurd (Nat.lt_of_lt_of_le (Heap.lt_size (ok.bs b o e).1) z) (Nat.lt_irrefl _)
  · refine ⟨m, hn, fun j x v e1 e2 e3 => ?_⟩
    have e1' : N[j]? = some x := e1
    have hj : j < mp.length := by
      rw [O.len]
      exact (List.getElem?_eq_some_iff.mp e1').1
    obtain ⟨i, hi, hv⟩ : ∃ i, mp[j]? = some (some i) ∧ σ[i]? = some (some v) := by
      unfold seed at e2
      rw [List.getElem?_map] at e2
      cases e : mp[j]? with
      | none => rw [e] at e2; cases e2
      | some o =>
        rw [e] at e2
        cases o with
        | none => cases e2
        | some i =>
          refine ⟨i, rfl, ?_⟩
          have e2' : (σ[i]?).join = some v := Option.some.inj e2
          cases q : σ[i]? with
          | none => rw [q] at e2'; cases e2'
          | some z =>
            rw [q] at e2'
            have : z = some v := e2'
            rw [this]
    obtain ⟨hx, hf⟩ := O.map j x i e1' hi
    have hfm := PySem.mem_of_lookup hf
    obtain ⟨mX, hnX, hl⟩ := I.loc
    have vis : Vis X.env.scope x := by
      rcases O.free _ hfm rfl with z | z
      · exact .inr (.inl z)
      · exact .inr (.inr z)
    obtain ⟨u, r, q⟩ := hl i x v hx hv vis
    refine ⟨u, r, ?_⟩
    rcases q with ⟨z, _⟩ | ⟨_, c, ec, cellc⟩
    · exfalso
      have z' : X.env.scope.names.lookup x = some .local := z
      rcases O.free _ hfm rfl with y | y
      · rw [show X.env.scope.names.lookup x = some .cell from y] at z'; cases z'
      · rw [show X.env.scope.names.lookup x = some .free from y] at z'; cases z'
    · obtain ⟨c', hc'⟩ := cl_has O ok hfm
      have hcc := (cl_sub O ok hc').1
      rw [ec] at hcc
      cases hcc
      refine .inr ⟨relabel_free hf, c, hc', ?_⟩
      obtain ⟨o, ho, hd⟩ := cellc
      exact ⟨o, kp _ _ ho, hd⟩
  · intro x c h
    obtain ⟨v, o, ho, hd⟩ := I.cell x c (cl_sub O ok h).1
    exact ⟨v, o, kp _ _ ho, hd⟩
  · intro x c h
    exact I.freeC x c (cl_sub O ok h).1
  · intro p hp
    cases hp
  · show (seed mp σ).length = N.length
    unfold seed
    rw [List.length_map, O.len]

/-- an untracked object of ours is tracked from now on -/
theorem Inv.track {a : Addr} {o : HO} {ob : Obj} (I : Inv X pins σ H s) (ho : s.heap.get? a = some ob) (hn : H a = none) (hL : a ≠ X.env.locals) (h1 : a ∈ X.ex ∨ X.s₀.heap.objs.size ≤ a) (h2 : ∀ x c, X.env.cells.lookup x = some c → c ≠ a)
    (h3 : ∀ p ∈ X.pn ++ pins, p.1 ≠ a) (new : ObjOk X.prog X.w (upd H a o) s.heap a o) : Inv X pins σ (upd H a o) s := by
  have nit : ∀ b u, H b = some u → b ≠ a := fun b u e z => by rw [z, hn] at e; cases e
  have := I.step (g' := s.gens) (d' := s.drawn) (t' := s.toks) (h' := s.heap) (H' := upd H a o) (ch := [a]) (fun b hb => ?_) (fun b o _ _ _ e _ => e) (fun b o _ _ _ e _ => ⟨o.slots, e⟩) (fun b o hc _ n => ?_)
    (fun b o _ e => ⟨o, e⟩) (fun b xs e => ?_) (fun b u xs e => ?_) (fun b ps e => ⟨#[], ?_⟩) (fun m hm => hm) (fun b u e => ?_) I.bare
  · exact this
  · have e : b = a := by simpa using hb
    subst e
    exact ⟨h1, hL, h2, h3⟩
  · rw [upd_ne (fun z => hc (by simp [z]))]; exact n
  · rw [upd_ne (nit _ _ e)]; exact e
  · rw [upd_ne (nit _ _ e)]; exact e
  · rw [upd_ne (nit _ _ e), e]; simp
  · by_cases hb : b = a
    · subst hb; rw [upd_same] at e; cases e; exact new
    · rw [upd_ne hb] at e
      exact (I.hok b u e).stay (fun c v _ q => q) (fun c q => by rw [upd_ne (nit _ _ q)]; exact q) fun c xs q => by rw [upd_ne (nit _ _ q)]; exact q
end

/-! ### the loop of a comprehension, any target -/
theorem compLoop_own {prog : Program} {w : World} {A : Around} {R : Result → Shared → Prop} {s : Shared} {elt target iter : Expr} {ifs : List Expr} {scope : Scope} {pos : Pos} {it acc : Value} {env : Env} (I : Nat → Shared → Prop)
    (turn : ∀ n s, I n s → wpAny (model prog w) A (pyNext it) (fun r s₁ => match r with
      | none => R (.ok .next) s₁
      | some v => wpAny (model prog w) A (letOwnedTupleGo target it v) (fun _ s' => wpAny (model prog w) A (assign target env v) (fun _ s₂ =>
          wpAny (model prog w) A (forIn ifs true fun c r => if r = true then do let ok ← isTrue c env (eval c env); pure (ForInStep.yield ok) else pure (ForInStep.yield r)) (fun ok s₃ =>
            if ok = true then wpAny (model prog w) A (eval elt env) (fun x s₄ =>
              wpAny (model prog w) A (call (.builtin "list.append") [acc, x]) (fun _ s₅ => ∃ m, m < n ∧ I m s₅) (fun _ _ => False) s₄) (fun _ _ => False) s₃
            else ∃ m, m < n ∧ I m s₃) (fun _ _ => False) s₂) (fun _ _ => False) s') (fun _ _ => False) s₁) (fun _ _ => False) s)
    (n : Nat) (h : I n s) :
    codeAny (model prog w) A (.compLoop (.ListComp elt [⟨target, iter, ifs, 0⟩] scope pos) 0 it acc env) R s := by
  refine codeAny_loop rfl I (fun n s hI => ?_) n h
  show wpAny _ A ((compTurn (.ListComp elt [⟨target, iter, ifs, 0⟩] scope pos) 0 it acc env).onRaise (fun x => do noteFrame x env; theTreesLotGoes x)) _ _ s
  refine wpAny_noted ?_
  rw [compTurn_list]
  refine wpAny_bind (wpAny_standAt (wpAny_bind (wpAny_mono (turn n s hI) (fun r s₁ h₁ => ?_) fun _ _ h' => h'.elim)))
  cases r with
  | none => exact wpAny_pure h₁
  | some v =>
    refine wpAny_bind (wpAny_mono h₁ (fun _ s' h' => wpAny_bind (wpAny_mono h' (fun _ s₂ h₂ => wpAny_bind (wpAny_mono h₂ (fun ok s₃ h₃ => ?_) fun _ _ h' => h'.elim)) fun _ _ h' => h'.elim)) fun _ _ h' => h'.elim)
    cases ok with
    | false => exact wpAny_pure ⟨rfl, h₃⟩
    | true =>
      exact wpAny_bind (wpAny_bind (wpAny_mono h₃ (fun x s₄ h₄ => wpAny_bind (wpAny_mono h₄ (fun _ s₅ h₅ => wpAny_pure (wpAny_pure ⟨rfl, h₅⟩)) fun _ _ h' => h'.elim)) fun _ _ h' => h'.elim))

/-- the tests of a comprehension's clause -/
def PCk (X : Cx) (ifs : List Expr) (t : TT) : Prop :=
  ∀ (pins : List (Addr × Obj)) (s : Shared) (σ : St) (H : Hp) (Q : Bool → Hp → Prop), Inv X pins σ H s → t σ H Q →
    wpAny (model X.prog X.w) X.A (forIn ifs true fun c r => if r = true then do let ok ← isTrue c X.env (eval c X.env); pure (ForInStep.yield ok) else pure (ForInStep.yield r)) (TP X pins σ Q) X.xe s
def tTrue : TT := fun _ H Q => Q true H
theorem pk_nil1 {X : Cx} : PCk X [] tTrue := fun _ _ _ H _ I h => wpAny_tests_nil ⟨H, I, h⟩
theorem pk_one1 {X : Cx} {c : Expr} {t : TT} (h : PT X c t) : PCk X [c] t := fun pins s σ H Q I hw => wpAny_tests_one (h pins s σ H Q I hw)

/-- what a comprehension's list is: R of its items and the heap behind -/
abbrev TC := St → Hp → (List V → Hp → Prop) → Prop
def tComp (wi : TI) (mp : List (Option Nat)) (g : TG) (tc : TT) (te : TE) : TC := fun σ H R => wi σ H fun J H1 => ∃ W : Nat → Nat → List V → St → Hp → Prop, (∃ m, W 0 m [] (seed mp σ) H1) ∧ ∀ i m ys σ' H', W i m ys σ' H' →
  (J.stop i H' ∧ ys.length ≤ sizeLine ∧ R ys H') ∨
  (J.go i H' ∧ ys.length < sizeLine ∧ ∀ x H'', J.yld i H' x H'' → g x σ' H'' fun σ2 H2 => tc σ2 H2 fun b H3 =>
    if b = true then te σ2 H3 fun y H4 => ∃ m', m' < m ∧ W (i + 1) m' (ys ++ [y]) σ2 H4 else ∃ m', m' < m ∧ W (i + 1) m' ys σ2 H3)

section
variable {X : Cx} {elt tg iter : Expr} {ifs : List Expr} {sc : Scope} {pos pos' : Pos} {N : List Str} {mp : List (Option Nat)} {wi : TI} {g : TG} {tc : TT} {te : TE}
theorem comp_core {use : Option (Value → Sem Unit)} {Q : Value → Shared → Prop} (hc : X.calm = true) (hi : PI X tg iter wi) (hk : sc.kind = .function) (O : CompOk X.N X.env.scope sc N mp)
    (hb : ∀ (cl : List (Str × Addr)) (C : Addr) (s₂ : Shared) (H₂ : Hp) (fp : List Addr), PG (cxComp X sc N cl C s₂ H₂ fp) tg g ∧ PCk (cxComp X sc N cl C s₂ H₂ fp) ifs tc ∧ PE (cxComp X sc N cl C s₂ H₂ fp) elt te)
    {pins : List (Addr × Obj)} {s : Shared} {σ : St} {H : Hp} {R : List V → Hp → Prop} (I : Inv X pins σ H s) (h : tComp wi mp g tc te σ H R)
    (hs : ∀ x, foldedSetIterable iter X.env x = pure x)
    (hend : ∀ (D C : Addr) (ys : List V) (H' : Hp) (s' : Shared) (m : Str → Option Value), Inv X pins σ (upd H' D (.lst ys)) s' → s'.heap.Ns C m → FpOk X pins (upd H' D (.lst ys)) C → H' D = none → R ys H' →
      compPost (model X.prog X.w) X.A X.xe use Q (.ref D) C (.ok .next) s') :
    wpAny (model X.prog X.w) X.A (comprehension (.ListComp elt [⟨tg, iter, ifs, 0⟩] sc pos) sc X.env pos' (newList []) false (eval iter X.env) use) Q X.xe s := by
  have ok := I.ok
  refine wpAny_comprehension_free (g := ⟨tg, iter, ifs, 0⟩) (gs := []) rfl hs (closureFor_cl (cl_cells O ok)) hk O.loc (thn (hi pins s σ H _ I h) fun v s1 h1 => thn h1 fun itv s2 h2 => ?_)
  obtain ⟨it, fp, tn, J, H2, e, I2, T, st2, f2, W, ⟨m0, w0⟩, turn⟩ := h2
  subst e
  refine wpAny_newObj_type (wpAny_newFunctionEnv O.cell (by intro y hy; simp at hy) (fun h₁ hns₁ hsb₁ => ?_) hk)
  dsimp only at hns₁ hsb₁ ⊢
  generalize hP : s2.heap.push { cls := .type "list", dict := none, data := .seq ([] : List Value).toArray } = P2 at hns₁ hsb₁ ⊢
  have hCe : P2.objs.size = s2.heap.objs.size + 1 := by rw [← hP, Heap.size_push]
  have hDC : s2.heap.objs.size ≠ P2.objs.size := by rw [hCe]; exact Nat.ne_of_lt (Nat.lt_succ_self _)
  have hCle : s2.heap.objs.size ≤ P2.objs.size := by rw [hCe]; exact Nat.le_succ _
  have old : ∀ b o, s2.heap.get? b = some o → h₁.get? b = some o := fun b o e =>
    hsb₁.extBut b o (Nat.ne_of_lt (Nat.lt_of_lt_of_le (Heap.lt_size e) hCle)) (Heap.get?_push_of_some _ (hP ▸ Heap.get?_push_of_some _ e))
  have hacc : h₁.get? s2.heap.objs.size = some { cls := .type "list", dict := none, data := .seq ([] : List Value).toArray } :=
    hsb₁.extBut _ _ hDC (Heap.get?_push_of_some _ (hP ▸ Heap.get?_push_size _ rfl))
  have fpl : ∀ b ∈ fp, b < s2.heap.objs.size := fun b hb => by
    obtain ⟨o, e, _⟩ := T.obj _ _ st2 b hb
    exact Heap.lt_size e
  have hDf : s2.heap.objs.size ∉ fp := fun z => Nat.lt_irrefl _ (fpl _ z)
  have I3 : Inv (cxComp X sc N (clOf X.env.cells sc.names []) P2.objs.size s2 H2 fp) [] (seed mp σ) H2 { s2 with heap := h₁, toks := s2.toks + ([] : List (Str × Value)).length } :=
    inv_comp hc O hk I2 hCle old hns₁ f2 fpl
  obtain ⟨hg, ht, he⟩ := hb (clOf X.env.cells sc.names []) P2.objs.size s2 H2 fp
  generalize hX : cxComp X sc N (clOf X.env.cells sc.names []) P2.objs.size s2 H2 fp = Y at I3 hg ht he
  have yP : Y.prog = X.prog := by rw [← hX]; rfl
  have yw : Y.w = X.w := by rw [← hX]; rfl
  have yK : Y.K = X.K := by rw [← hX]; rfl
  have yA : Y.A = X.A := by rw [← hX]; rfl
  have yc : Y.calm = true := by rw [← hX]; rfl
  have yx : Y.xe = fun _ _ => False := by rw [← hX]; rfl
  have yl : Y.env.locals = P2.objs.size := by rw [← hX]; rfl
  have yex : Y.ex = fp := by rw [← hX]; rfl
  have ys0 : Y.s₀ = s2 := by rw [← hX]; rfl
  have yH0 : Y.H₀ = H2 := by rw [← hX]; rfl
  have ypn : Y.pn = [] := by rw [← hX]; rfl
  have yfs : Y.fs = frs X.stack := by rw [← hX]; rfl
  have yenv : Y.env = compEnvC sc (clOf X.env.cells sc.names []) P2.objs.size X.env := by rw [← hX]; rfl
  have ycl : ∀ x c, Y.env.cells.lookup x = some c → X.env.cells.lookup x = some c := fun x c e => by
    rw [yenv] at e
    exact (cl_sub O ok e).1
  have dne : ∀ x c, Y.env.cells.lookup x = some c → c ≠ s2.heap.objs.size := fun x c e z => by
    obtain ⟨v, o, ho, _⟩ := I2.cell x c (ycl x c e)
    exact absurd (Heap.lt_size ho) (by rw [z]; exact Nat.lt_irrefl _)
  have fsb : ∀ b ∈ fp, b ∉ frs X.stack := fun b hb z => by
    rcases List.mem_cons.mp (I2.stkSub b z) with e | e
    · exact (f2 b hb).2.1 e
    · exact (f2 b hb).2.2.1 e
  have dfs : s2.heap.objs.size ∉ frs X.stack := fun z => by
    rcases List.mem_cons.mp (I2.stkSub _ z) with e | e
    · exact absurd I2.lt (by rw [← e]; exact Nat.lt_irrefl _)
    · exact I2.nofs (Nat.le_refl _) e
  have fpo : ∀ {H' : Hp} {o : Obj}, (∀ b ∈ fp, H' b = none) → ∀ b ∈ fp, FpOk Y [(s2.heap.objs.size, o)] H' b := fun {H' o} hn b hb => by
    refine ⟨hn b hb, ?_, ?_, ?_, ?_, ?_⟩
    · rw [yl]; exact Nat.ne_of_lt (Nat.lt_of_lt_of_le (fpl b hb) hCle)
    · rw [yfs]; exact fsb b hb
    · rw [yex]; exact .inl hb
    · exact fun x c e => (f2 b hb).2.2.2.2.1 x c (ycl x c e)
    · intro p hp
      rw [ypn] at hp
      have : p = (s2.heap.objs.size, o) := by simpa using hp
      subst this
      exact fun z => hDf (by have z' : s2.heap.objs.size = b := z; rw [z']; exact hb)
  -- the list under work is pinned
  have pinD : ∀ {σ' : St} {H' : Hp} {s' : Shared} {o : Obj}, Inv Y [] σ' H' s' → s'.heap.get? s2.heap.objs.size = some o → (∀ v, o.data ≠ .cell v) → H' s2.heap.objs.size = none → Inv Y [(s2.heap.objs.size, o)] σ' H' s' :=
    fun {σ' H' s' o} J e d hn => J.pins_of fun p hp => by
      have : p = (s2.heap.objs.size, o) := by simpa using hp
      subst this
      exact ⟨e, hn, by rw [yl]; exact hDC, by rw [yfs]; exact dfs, d⟩
  have loop : ∀ s₃ : Shared, s₃ = { s2 with heap := h₁, toks := s2.toks + ([] : List (Str × Value)).length } →
      codeAny (model X.prog X.w) X.A (.compLoop (.ListComp elt [⟨tg, iter, ifs, 0⟩] sc pos) 0 (.ref it) (.ref s2.heap.objs.size) Y.env)
        (compPost (model X.prog X.w) X.A X.xe use Q (.ref s2.heap.objs.size) P2.objs.size) s₃ := by
    rintro s₃ rfl
    refine compLoop_own (fun n s' => ∃ i ys its c σ' H', Inv Y [(s2.heap.objs.size, ({ cls := .type "list", data := .seq its.toArray c } : Obj))] σ' H' s' ∧ Vals ys its ∧ tn i s'.heap ∧ (∀ b ∈ fp, H' b = none) ∧ ys.length ≤ sizeLine ∧ W i n ys σ' H') ?_ m0
      ⟨0, [], [], 0, seed mp σ, H2, pinD I3 hacc (fun v z => by cases z) (I2.hok.fresh (Nat.le_refl _)), .nil, T.keep _ _ _ st2 (fun b _ o e => old b o e), fun b hb => (f2 b hb).1, Nat.zero_le _, w0⟩
    rintro n s3 ⟨i, ys, its, c, σ3, H3, J3, rv, st3, fr3, hz, w3⟩
    have hpin := J3.pin _ (List.mem_append_right _ (List.mem_singleton.mpr rfl))
    rcases turn i n ys σ3 H3 w3 with ⟨stop, hl, qn⟩ | ⟨go, hl, step⟩
    · have := T.done Y yP yw yK yc i _ s3 σ3 H3 (fun _ _ => False) J3 (fpo fr3) st3 stop
      rw [yA] at this
      refine thn this fun r s4 ⟨hr, J4⟩ => ?_
      subst hr
      obtain ⟨pe, pn, _, _, _⟩ := J4.pin _ (List.mem_append_right _ (List.mem_singleton.mpr rfl))
      dsimp only at pe pn
      -- back in the def
      have un := J4.base
      rw [yfs, yex, ys0, yH0] at un
      have os4 : s4.os = s2.os := by have := J4.os; rw [ys0] at this; exact this
      have hok4 := J4.hok
      rw [yP, yw] at hok4
      have IX : Inv X pins σ H3 s4 := I2.call' os4 un hok4 J4.bare fun b hb => ⟨(f2 b hb).2.2.2.1, (f2 b hb).2.1, (f2 b hb).2.2.2.2.1, (f2 b hb).2.2.2.2.2⟩
      obtain ⟨mC, hnC, _⟩ := J4.loc
      rw [yl] at hnC
      have dX : FpOk X pins H3 s2.heap.objs.size := I2.fpOk (Nat.le_refl _) pn
      have IT : Inv X pins σ (upd H3 s2.heap.objs.size (.lst ys)) s4 := IX.track (o := .lst ys) pe pn dX.2.1 dX.2.2.2.1 dX.2.2.2.2.1 dX.2.2.2.2.2 ⟨hl, its, c, rv, pe⟩
      have cn : H3 P2.objs.size = none := by have := J4.free; rw [yl] at this; exact this
      have cX : FpOk X pins (upd H3 s2.heap.objs.size (.lst ys)) P2.objs.size := I2.fpOk hCle (by rw [upd_ne hDC.symm]; exact cn)
      exact hend _ _ ys H3 s4 mC IT hnC cX pn qn
    · have := T.item Y yP yw yK yc i _ s3 σ3 H3 (fun _ _ => False) J3 (fpo fr3) st3 go
      rw [yA] at this
      refine thn this fun r s4 ⟨u, hr, h4⟩ => ?_
      subst hr
      refine thn h4 fun _ s5 ⟨x, H5, J5, r5, y5, st5, fr5⟩ => ?_
      have J5' := J5.pinned (fpo fr5) (T.obj _ _ st5)
      have ga := hg _ s5 σ3 H5 x u _ J5' r5 (step x H5 y5)
      rw [yP, yw, yA, yx] at ga
      refine thn ga fun _ s6 ⟨σ6, H6, J6, q6⟩ => ?_
      have gt := ht _ s6 σ6 H6 _ J6 q6
      rw [yP, yw, yA, yx] at gt
      refine thn gt fun b s7 ⟨H7, J7, q7⟩ => ?_
      have pins7 : ∀ {σ' : St} {H' : Hp} {s' : Shared}, Inv Y ([(s2.heap.objs.size, ({ cls := .type "list", data := .seq its.toArray c } : Obj))] ++ pinsAt fp s5.heap) σ' H' s' → tn (i + 1) s'.heap ∧ (∀ b ∈ fp, H' b = none) := fun {σ' H' s'} J => by
        refine ⟨T.keep _ _ _ st5 fun b hb o e => (J.pin (b, o) (List.mem_append_right _ (List.mem_append_right _ (mem_pinsAt hb e)))).1, fun b hb => ?_⟩
        obtain ⟨o, e, d⟩ := T.obj _ _ st5 b hb
        exact (J.pin (b, o) (List.mem_append_right _ (List.mem_append_right _ (mem_pinsAt hb e)))).2.1
      cases b with
      | false =>
        have q7' : ∃ m', m' < n ∧ W (i + 1) m' ys σ6 H7 := by simpa using q7
        obtain ⟨m', hm, w7⟩ := q7'
        obtain ⟨t7, f7⟩ := pins7 J7
        rw [if_neg Bool.false_ne_true]
        exact ⟨m', hm, i + 1, ys, its, c, σ6, H7, J7.unpinned, rv, t7, f7, hz, w7⟩
      | true =>
        rw [if_pos rfl]
        have q7' : te σ6 H7 fun y H4 => ∃ m', m' < n ∧ W (i + 1) m' (ys ++ [y]) σ6 H4 := by simpa using q7
        have ge := he _ s7 σ6 H7 _ J7 q7'
        rw [yP, yw, yA, yx] at ge
        refine thn ge fun u8 s8 ⟨y, H8, J8, r8, m', hm, w8⟩ => ?_
        obtain ⟨t8, f8⟩ := pins7 J8
        have J8' := J8.unpinned
        obtain ⟨pe, pn, _, _, _⟩ := J8'.pin _ (List.mem_append_right _ (List.mem_singleton.mpr rfl))
        dsimp only at pe pn
        have hlen := rv.length
        refine call_meets F.slot_list_append ⟨_, pe, rfl⟩ F.entry_list_append (F.args_list_append_2 _ _) (PySem.list_append s2.heap.objs.size its.toArray c u8 (by rw [List.size_toArray]; omega)) ⟨pe, ?_⟩
        have qe := PySem.IsL.update pe (fun a => a.push u8)
        have qe' : (s8.heap.update s2.heap.objs.size (Obj.mapSeq fun a => a.push u8)).get? s2.heap.objs.size = some { cls := .type "list", data := .seq (its ++ [u8]).toArray (c + 1) } := by
          simpa using qe
        have J9 : Inv Y [] σ6 H8 { s8 with heap := s8.heap.update s2.heap.objs.size (Obj.mapSeq fun a => a.push u8), toks := s8.toks } := by
          have J0 : Inv Y [] σ6 H8 s8 := J8'.pins_of fun p hp => by cases hp
          refine J0.turned (it := s2.heap.objs.size) (fun b o hb e => (Heap.get?_update_other s8.heap _ (Ne.symm hb)).trans e) pn (by rw [yl]; exact hDC) (.inr (by rw [ys0]; exact Nat.le_refl _)) dne (fun p hp => ?_)
          rw [ypn] at hp
          cases hp
        refine ⟨m', hm, i + 1, ys ++ [y], its ++ [u8], c + 1, σ6, H8, pinD J9 qe' (fun v z => by cases z) pn, rv.append (.cons r8 .nil), ?_, f8, by rw [List.length_append, List.length_singleton]; omega, w8⟩
        exact T.keep _ _ _ t8 fun b hb o e => (Heap.get?_update_other s8.heap _ (fun (z : s2.heap.objs.size = b) => hDf (by rw [z]; exact hb))).trans e
  have yenv' : compEnvC sc (clOf X.env.cells sc.names []) P2.objs.size X.env = Y.env := yenv.symm
  show codeAny _ _ (.compStart _ 0 (.ref it) (.ref s2.heap.objs.size) (compEnvC sc (clOf X.env.cells sc.names []) P2.objs.size X.env)) _ _
  rw [yenv']
  exact codeAny_compStart_list (loop _ rfl) (T.self _ 0 _ _ _ (T.keep _ _ _ st2 fun b _ o e => old b o e) (loop _ rfl))

/-- [elt for tg in iter if ..] as a value -/
def tCompE (t : TC) : TE := fun σ H Q => t σ H fun ys H' => ∀ D, H' D = none → Q (.ref D) (upd H' D (.lst ys))
theorem pe_comp (hc : X.calm = true) (hi : PI X tg iter wi) (hk : sc.kind = .function) (hm : compOk X.N X.env.scope sc N mp = true)
    (hb : ∀ (cl : List (Str × Addr)) (C : Addr) (s₂ : Shared) (H₂ : Hp) (fp : List Addr), PG (cxComp X sc N cl C s₂ H₂ fp) tg g ∧ PCk (cxComp X sc N cl C s₂ H₂ fp) ifs tc ∧ PE (cxComp X sc N cl C s₂ H₂ fp) elt te)
    (hs : ∀ x, foldedSetIterable iter X.env x = pure x := by intro _; rfl) : PE X (.ListComp elt [⟨tg, iter, ifs, 0⟩] sc pos) (tCompE (tComp wi mp g tc te)) := by
  intro pins s σ H Q I h
  rw [eval_ListComp]
  refine comp_core (use := none) hc hi hk (compOk_of hm) hb I h hs fun D C ys H' s' m I' hn f hD q => ?_
  refine ⟨m, hn, fun h' hs' => ?_⟩
  obtain ⟨f0, f1, _, f3, f4, f5⟩ := f
  exact ⟨.ref D, _, I'.turned (t' := s'.toks) (it := C) (fun b o hb e => (hs'.2 b hb).trans e) f0 f1 f3 f4 f5, rfl, q D hD⟩
/-- x = [elt for tg in iter if ..], x a plain local -/
def tCompS (i : Nat) (t : TC) : TS := fun D σ H => t σ H fun ys H' => ∀ l, H' l = none → D.nx (σ.set i (some (.ref l))) (upd H' l (.lst ys))
theorem ps_comp {i : Nat} {x : Str} {py spos : Pos} (hN : X.N.Nodup) (hix : X.N[i]? = some x) (hx : X.env.scope.names.lookup x = some .local) (hc : X.calm = true) (hi : PI X tg iter wi) (hk : sc.kind = .function) (hm : compOk X.N X.env.scope sc N mp = true)
    (hb : ∀ (cl : List (Str × Addr)) (C : Addr) (s₂ : Shared) (H₂ : Hp) (fp : List Addr), PG (cxComp X sc N cl C s₂ H₂ fp) tg g ∧ PCk (cxComp X sc N cl C s₂ H₂ fp) ifs tc ∧ PE (cxComp X sc N cl C s₂ H₂ fp) elt te)
    (hsw : swapsWith (.ListComp elt [⟨tg, iter, ifs, 0⟩] sc pos) (some (.Name x py)) spos.line X.env = pure true := by rfl)
    (hs : ∀ x, foldedSetIterable iter X.env x = pure x := by intro _; rfl) : PS X (.Assign [.Name x py] (.ListComp elt [⟨tg, iter, ifs, 0⟩] sc pos) spos) (tCompS i (tComp wi mp g tc te)) := by
  intro pins s σ H D I h
  rw [exec_Assign_Name_used _ _ _ _ hsw]
  refine wpAny_bind (wpAny_standAt (wpAny_bind ?_))
  show wpAny _ X.A (do let _ ← comprehension (.ListComp elt [⟨tg, iter, ifs, 0⟩] sc pos) sc X.env _ (newList []) false (eval iter X.env) (some (assign (.Name x py) X.env))) _ _ s
  refine wpAny_bind (thn (comp_core (use := some (assign (.Name x py) X.env)) (Q := fun _ s' => SP X pins D .next s') hc hi hk (compOk_of hm) hb I h hs fun l C ys H' s' m I' hn f hD q => ?_) fun _ s' hq => wpAny_pure (wpAny_pure hq))
  obtain ⟨f0, f1, f2, f3, f4, f5⟩ := f
  show wpAny _ _ (assign (.Name x py) X.env (.ref l)) _ _ s'
  refine wpAny_assign_Name (store_ok2 (v := .ref l) I' hN hix (.inl hx) rfl (fun s'' I'' ⟨a, sb, ea⟩ => ?_) (.inr hx))
  have hac : C ≠ a := by
    rcases ea with e | e
    · rw [e]; exact f1
    · exact fun z => f4 x a e z.symm
  refine ⟨m, hn.sameBut sb hac, fun h' hs' => ?_⟩
  exact ⟨_, _, I''.turned (t' := s''.toks) (it := C) (fun b o hb e => (hs'.2 b hb).trans e) f0 f1 f3 f4 f5, q l hD⟩
end
end L2

set_option Elab.async false
set_option linter.all false
set_option maxRecDepth 100000
/-! Rules of our own: plain data (PyData) in the abstract heap, repr, ==, isinstance, ranges, slices. -/
namespace L2
open PySem PySem.Spec PyProof.Rows

/-! ### data -/
mutual
/-- the value stands for the data; the lists at S (they may change) are no part of it -/
def Rep (S : List Addr) (H : Hp) : PyData → V → Prop
  | .none, v => v = .non
  | .bool b, v => v = .bl b
  | .int i, v => v = .int i
  | .str x, v => v = .str x
  | .tuple ds, v => ∃ a xs, v = .ref a ∧ H a = some (.tup xs) ∧ Reps S H ds xs
  | .list ds, v => ∃ a xs, v = .ref a ∧ H a = some (.lst xs) ∧ a ∉ S ∧ Reps S H ds xs
  | .dict _, _ => False
def Reps (S : List Addr) (H : Hp) : List PyData → List V → Prop
  | [], xs => xs = []
  | d :: ds, xs => ∃ x r, xs = x :: r ∧ Rep S H d x ∧ Reps S H ds r
end
/-- what stays: all but the lists at S; the tuples anyway -/
structure Ext (S : List Addr) (H H' : Hp) : Prop where
  keep : ∀ b o, b ∉ S → H b = some o → H' b = some o
  tup : ∀ b xs, H b = some (.tup xs) → H' b = some (.tup xs)
theorem Ext.refl (S : List Addr) (H : Hp) : Ext S H H := ⟨fun _ _ _ e => e, fun _ _ e => e⟩
theorem Ext.trans {S : List Addr} {H H1 H2 : Hp} (a : Ext S H H1) (b : Ext S H1 H2) : Ext S H H2 := ⟨fun c o hc e => b.keep c o hc (a.keep c o hc e), fun c xs e => b.tup c xs (a.tup c xs e)⟩
theorem Ext.mono {S S' : List Addr} {H H' : Hp} (a : Ext S H H') (h : ∀ b ∈ S, b ∈ S') : Ext S' H H' := ⟨fun b o hb e => a.keep b o (fun z => hb (h b z)) e, a.tup⟩
theorem Ext.new {S : List Addr} {H : Hp} {p : Addr} {o : HO} (h : H p = none) : Ext S H (upd H p o) := ⟨fun b u _ e => by rw [upd_ne (ne_of_none e h)]; exact e, fun b xs e => by rw [upd_ne (ne_of_none e h)]; exact e⟩
theorem Ext.set {S : List Addr} {H : Hp} {p : Addr} {o : HO} {xs : List V} (hp : p ∈ S) (h : H p = some (.lst xs)) : Ext S H (upd H p o) :=
  ⟨fun b u hb e => by rw [upd_ne (fun (z : b = p) => hb (by rw [z]; exact hp))]; exact e, fun b ys e => by rw [upd_ne (fun z => by rw [z, h] at e; cases e)]; exact e⟩
/-- .. where p is new ahead of H0 -/
theorem Ext.set' {S : List Addr} {H0 H : Hp} {p : Addr} {o : HO} {xs : List V} (a : Ext S H0 H) (h0 : H0 p = none) (h : H p = some (.lst xs)) : Ext S H0 (upd H p o) :=
  ⟨fun b u hb e => by rw [upd_ne (fun z => by rw [z, h0] at e; cases e)]; exact a.keep b u hb e, fun b ys e => by rw [upd_ne (fun z => by rw [z, h0] at e; cases e)]; exact a.tup b ys e⟩
theorem Ext.fresh {S : List Addr} {H0 H : Hp} {p : Addr} (a : Ext S H0 H) (hp : p ∉ S) (h : H p = none) : H0 p = none := by
  cases e : H0 p with
  | none => rfl
  | some o => rw [a.keep p o hp e] at h; cases h

mutual
theorem Rep.ext {S : List Addr} {H H' : Hp} (x : Ext S H H') : ∀ {d : PyData} {v : V}, Rep S H d v → Rep S H' d v
  | .none, _, h => h
  | .bool _, _, h => h
  | .int _, _, h => h
  | .str _, _, h => h
  | .tuple ds, _, h => by
    unfold Rep at h ⊢
    obtain ⟨a, xs, e, ha, hr⟩ := h
    exact ⟨a, xs, e, x.tup a xs ha, Reps.ext x hr⟩
  | .list ds, _, h => by
    unfold Rep at h ⊢
    obtain ⟨a, xs, e, ha, hs, hr⟩ := h
    exact ⟨a, xs, e, x.keep a _ hs ha, hs, Reps.ext x hr⟩
  | .dict _, _, h => h
theorem Reps.ext {S : List Addr} {H H' : Hp} (x : Ext S H H') : ∀ {ds : List PyData} {vs : List V}, Reps S H ds vs → Reps S H' ds vs
  | [], _, h => h
  | d :: ds, _, h => by
    unfold Reps at h ⊢
    obtain ⟨y, r, e, h1, h2⟩ := h
    exact ⟨y, r, e, Rep.ext x h1, Reps.ext x h2⟩
end

mutual
theorem Rep.less {S S' : List Addr} {H : Hp} (x : ∀ b ∈ S', b ∈ S) : ∀ {d : PyData} {v : V}, Rep S H d v → Rep S' H d v
  | .none, _, h => h
  | .bool _, _, h => h
  | .int _, _, h => h
  | .str _, _, h => h
  | .tuple ds, _, h => by
    unfold Rep at h ⊢
    obtain ⟨a, xs, e, ha, hr⟩ := h
    exact ⟨a, xs, e, ha, Reps.less x hr⟩
  | .list ds, _, h => by
    unfold Rep at h ⊢
    obtain ⟨a, xs, e, ha, hs, hr⟩ := h
    exact ⟨a, xs, e, ha, fun z => hs (x a z), Reps.less x hr⟩
  | .dict _, _, h => h
theorem Reps.less {S S' : List Addr} {H : Hp} (x : ∀ b ∈ S', b ∈ S) : ∀ {ds : List PyData} {vs : List V}, Reps S H ds vs → Reps S' H ds vs
  | [], _, h => h
  | d :: ds, _, h => by
    unfold Reps at h ⊢
    obtain ⟨y, r, e, h1, h2⟩ := h
    exact ⟨y, r, e, Rep.less x h1, Reps.less x h2⟩
end
section
variable {S : List Addr} {H : Hp}
theorem Reps.nil : Reps S H [] [] := by unfold Reps; rfl
theorem Reps.cons {d : PyData} {x : V} {ds : List PyData} {xs : List V} (h : Rep S H d x) (t : Reps S H ds xs) : Reps S H (d :: ds) (x :: xs) := by unfold Reps; exact ⟨x, xs, rfl, h, t⟩
theorem Reps.of_cons {d : PyData} {ds : List PyData} {xs : List V} (h : Reps S H (d :: ds) xs) : ∃ x r, xs = x :: r ∧ Rep S H d x ∧ Reps S H ds r := by unfold Reps at h; exact h
theorem Reps.of_nil {xs : List V} (h : Reps S H [] xs) : xs = [] := by unfold Reps at h; exact h
theorem Reps.length : ∀ {ds : List PyData} {xs : List V}, Reps S H ds xs → xs.length = ds.length
  | [], _, h => by rw [h.of_nil]; rfl
  | _ :: _, _, h => by
    obtain ⟨x, r, e, _, h2⟩ := h.of_cons
    subst e
    simp [h2.length]
theorem Reps.get : ∀ {ds : List PyData} {xs : List V} {i : Nat} {x : V}, Reps S H ds xs → xs[i]? = some x → ∃ d, ds[i]? = some d ∧ Rep S H d x
  | [], _, i, x, h, e => by rw [h.of_nil] at e; cases e
  | d :: ds, _, 0, x, h, e => by
    obtain ⟨y, r, e1, h1, h2⟩ := h.of_cons
    subst e1
    cases e
    exact ⟨d, rfl, h1⟩
  | d :: ds, _, i + 1, x, h, e => by
    obtain ⟨y, r, e1, h1, h2⟩ := h.of_cons
    subst e1
    obtain ⟨d', q, h3⟩ := Reps.get (i := i) h2 (by simpa using e)
    exact ⟨d', by simpa using q, h3⟩
theorem Reps.at : ∀ {ds : List PyData} {xs : List V} {i : Nat} {d : PyData}, Reps S H ds xs → ds[i]? = some d → ∃ x, xs[i]? = some x ∧ Rep S H d x
  | [], _, i, d, h, e => by cases e
  | d :: ds, _, 0, d', h, e => by
    obtain ⟨y, r, e1, h1, h2⟩ := h.of_cons
    subst e1
    cases e
    exact ⟨y, rfl, h1⟩
  | d :: ds, _, i + 1, d', h, e => by
    obtain ⟨y, r, e1, h1, h2⟩ := h.of_cons
    subst e1
    obtain ⟨x, q, h3⟩ := Reps.at (i := i) h2 (by simpa using e)
    exact ⟨x, by simpa using q, h3⟩
theorem Reps.append : ∀ {ds es : List PyData} {xs ys : List V}, Reps S H ds xs → Reps S H es ys → Reps S H (ds ++ es) (xs ++ ys)
  | [], _, _, _, h, k => by rw [h.of_nil]; exact k
  | d :: ds, _, _, _, h, k => by
    obtain ⟨y, r, e1, h1, h2⟩ := h.of_cons
    subst e1
    exact .cons h1 (Reps.append h2 k)
theorem Reps.take : ∀ {ds : List PyData} {xs : List V} (n : Nat), Reps S H ds xs → Reps S H (ds.take n) (xs.take n)
  | _, _, 0, _ => .nil
  | [], _, n + 1, h => by rw [h.of_nil]; exact .nil
  | d :: ds, _, n + 1, h => by
    obtain ⟨y, r, e1, h1, h2⟩ := h.of_cons
    subst e1
    exact .cons h1 (Reps.take n h2)
theorem Reps.drop : ∀ {ds : List PyData} {xs : List V} (n : Nat), Reps S H ds xs → Reps S H (ds.drop n) (xs.drop n)
  | _, _, 0, h => h
  | [], _, n + 1, h => by rw [h.of_nil]; exact .nil
  | d :: ds, _, n + 1, h => by
    obtain ⟨y, r, e1, h1, h2⟩ := h.of_cons
    subst e1
    exact Reps.drop n h2
theorem Reps.reverse : ∀ {ds : List PyData} {xs : List V}, Reps S H ds xs → Reps S H ds.reverse xs.reverse
  | [], _, h => by rw [h.of_nil]; exact .nil
  | d :: ds, _, h => by
    obtain ⟨y, r, e1, h1, h2⟩ := h.of_cons
    subst e1
    rw [List.reverse_cons, List.reverse_cons]
    exact (Reps.reverse h2).append (.cons h1 .nil)
theorem Reps.ints : ∀ (ns : List Int), Reps S H (ns.map PyData.int) (ns.map V.int)
  | [] => .nil
  | n :: ns => .cons (by unfold Rep; rfl) (Reps.ints ns)
theorem Rep.tup {a : Addr} {xs : List V} {ds : List PyData} (h : H a = some (.tup xs)) (r : Reps S H ds xs) : Rep S H (.tuple ds) (.ref a) := by unfold Rep; exact ⟨a, xs, rfl, h, r⟩
theorem Rep.lst {a : Addr} {xs : List V} {ds : List PyData} (h : H a = some (.lst xs)) (hs : a ∉ S) (r : Reps S H ds xs) : Rep S H (.list ds) (.ref a) := by unfold Rep; exact ⟨a, xs, rfl, h, hs, r⟩
theorem Rep.int (i : Int) : Rep S H (.int i) (.int i) := by unfold Rep; rfl
theorem Rep.bl (b : Bool) : Rep S H (.bool b) (.bl b) := by unfold Rep; rfl
theorem Rep.non : Rep S H .none .non := by unfold Rep; rfl
theorem Rep.str (x : Str) : Rep S H (.str x) (.str x) := by unfold Rep; rfl
theorem Rep.of_tup {ds : List PyData} {v : V} (h : Rep S H (.tuple ds) v) : ∃ a xs, v = .ref a ∧ H a = some (.tup xs) ∧ Reps S H ds xs := by unfold Rep at h; exact h
theorem Rep.of_lst {ds : List PyData} {v : V} (h : Rep S H (.list ds) v) : ∃ a xs, v = .ref a ∧ H a = some (.lst xs) ∧ a ∉ S ∧ Reps S H ds xs := by unfold Rep at h; exact h
theorem Rep.of_int {i : Int} {v : V} (h : Rep S H (.int i) v) : v = .int i := by unfold Rep at h; exact h
theorem Rep.of_bl {b : Bool} {v : V} (h : Rep S H (.bool b) v) : v = .bl b := by unfold Rep at h; exact h
theorem Rep.of_str {x : Str} {v : V} (h : Rep S H (.str x) v) : v = .str x := by unfold Rep at h; exact h
theorem Rep.of_non {v : V} (h : Rep S H .none v) : v = .non := by unfold Rep at h; exact h
end

/-! ### data is read by the model -/
mutual
theorem Rep.reads {P : Program} {w : World} {S : List Addr} {H : Hp} {h : Heap} (ok : HOk P w H h) : ∀ {d : PyData} {v : V} {u : Value}, Rep S H d v → RelV v u → ∃ as, Reads h u d as
  | .none, v, u, r, q => by cases r.of_non; cases (show u = Value.none from q); exact ⟨_, .none⟩
  | .bool b, v, u, r, q => by cases r.of_bl; cases (show u = Value.bool b from q); exact ⟨_, .bool b⟩
  | .int i, v, u, r, q => by cases r.of_int; obtain ⟨t, e⟩ := (show ∃ t, u = Value.int i t from q); cases e; exact ⟨_, .int i t⟩
  | .str x, v, u, r, q => by cases r.of_str; obtain ⟨t, e⟩ := (show ∃ t, u = Value.str x t from q); cases e; exact ⟨_, .str x t⟩
  | .tuple ds, v, u, r, q => by
    obtain ⟨a, xs, rfl, ha, hr⟩ := r.of_tup
    cases (show u = Value.ref a from q)
    obtain ⟨_, its, rv, o, e, c, n, d, _⟩ := ok a _ ha
    obtain ⟨as, ra⟩ := Reps.reads ok hr rv
    exact ⟨_, .tuple e c d (by simpa using ra)⟩
  | .list ds, v, u, r, q => by
    obtain ⟨a, xs, rfl, ha, _, hr⟩ := r.of_lst
    cases (show u = Value.ref a from q)
    obtain ⟨_, its, n, rv, e⟩ := ok a _ ha
    obtain ⟨as, ra⟩ := Reps.reads ok hr rv
    exact ⟨_, .list e rfl rfl (by simpa using ra)⟩
  | .dict _, v, u, r, q => by unfold Rep at r; exact r.elim
theorem Reps.reads {P : Program} {w : World} {S : List Addr} {H : Hp} {h : Heap} (ok : HOk P w H h) : ∀ {ds : List PyData} {xs : List V} {us : List Value}, Reps S H ds xs → Vals xs us → ∃ as, ReadsAll h us ds as
  | [], xs, us, r, q => by
    cases r.of_nil
    cases q
    exact ⟨_, .nil⟩
  | d :: ds, xs, us, r, q => by
    obtain ⟨x, t, rfl, h1, h2⟩ := r.of_cons
    cases q with
    | cons q1 q2 =>
      obtain ⟨as, a1⟩ := Rep.reads ok h1 q1
      obtain ⟨bs, b1⟩ := Reps.reads ok h2 q2
      exact ⟨_, .cons a1 b1⟩
end

/-! ### what is good to show and to compare -/
structure Good (d : PyData) : Prop where
  lay : d.canLay0 = true
  show' : d.showable = true
  short : d.leavesShort 60 = true
  deep : d.depth ≤ 60
  light : d.weight ≤ 200000
theorem Good.nodict {d : PyData} (g : Good d) : d.hasDict = false := PyData.hasDict_of_canLay d g.lay
theorem Good.fits {d : PyData} (g : Good d) : d.shown.length ≤ sizeLine := by
  have h := PyData.shown_le 60 (by decide) d g.short
  have h2 := g.light
  rw [sizeLine_eq]
  omega

section
variable {X : Cx} {k : Nat}
theorem call_reprD (hr : Room k X.A) : CallR X (.builtin "repr") (fun xs H Q => ∃ S d v, xs = [v] ∧ Rep S H d v ∧ Good d ∧ Q (.str d.shown) H) := by
  intro pins s σ H xs us Q I r h
  obtain ⟨S, d, v, rfl, rp, g, q⟩ := h
  obtain ⟨u, rfl, ru⟩ := vals1 r
  have hun := hr.units
  have fin : ∀ (h' : Heap) (t : Tok) (tk : Nat), (∀ b o, s.heap.get? b = some o → h'.get? b = some o) → EP X pins σ Q (.str d.shown t) { s with heap := h', toks := tk } := fun h' t tk kp => ⟨.str d.shown, H, I.kept kp, ⟨t, rfl⟩, q⟩
  have fin0 : ∀ (t : Tok) (tk : Nat), EP X pins σ Q (.str d.shown t) { s with toks := tk } := fun t tk => fin s.heap t tk fun _ _ e => e
  cases d with
  | none => cases rp.of_non; cases (show u = Value.none from ru); exact P.repr_of_none (fin0 _ _)
  | bool b => cases rp.of_bl; cases (show u = Value.bool b from ru); exact P.repr_of_bool (fin0 _ _)
  | int i => cases rp.of_int; obtain ⟨t, e⟩ := (show ∃ t, u = Value.int i t from ru); cases e; exact P.repr_of_int (by simpa [PyData.showable] using g.show') (fin0 _ _)
  | str x => cases rp.of_str; obtain ⟨t, e⟩ := (show ∃ t, u = Value.str x t from ru); cases e; exact P.repr_of_str (fin0 _ _) g.fits
  | tuple ds =>
    obtain ⟨as, ra⟩ := rp.reads I.hok ru
    obtain ⟨a, xs, rfl, _⟩ := rp.of_tup
    cases (show u = Value.ref a from ru)
    exact repr_of_reads' ra g.show' (PyData.noDict_hsm g.nodict) hr.gd (by have := g.deep; omega) (fun _ _ e => e) (fun h' t tk kp => fin h' t tk kp) g.fits
  | list ds =>
    obtain ⟨as, ra⟩ := rp.reads I.hok ru
    obtain ⟨a, xs, rfl, _⟩ := rp.of_lst
    cases (show u = Value.ref a from ru)
    exact repr_of_reads' ra g.show' (PyData.noDict_hsm g.nodict) hr.gd (by have := g.deep; omega) (fun _ _ e => e) (fun h' t tk kp => fin h' t tk kp) g.fits
  | dict _ => unfold Rep at rp; exact rp.elim
/-- data compared -/
def rEqD (neg : Bool) : R2 := fun x y H Q => ∃ S dx dy, Rep S H dx x ∧ Rep S H dy y ∧ dx.canLay0 = true ∧ dy.canLay0 = true ∧ dx.depth ≤ 60 ∧ Q (.bl (if neg then !PyData.eqv dx dy else PyData.eqv dx dy)) H
theorem op_neD (hr : Room k X.A) : OpR X (compareOp .NotEq) (rEqD true) := by
  intro pins s σ H x y v u Q I rx ry h
  obtain ⟨S, dx, dy, h1, h2, c1, c2, d1, q⟩ := h
  obtain ⟨as, ra⟩ := h1.reads I.hok rx
  obtain ⟨bs, rb⟩ := h2.reads I.hok ry
  have hun := hr.units
  exact SeqAt.compareNe_reads ra rb c1 c2 (by omega) ⟨.bl _, H, I, rfl, q⟩

/-! ### isinstance against a built-in type -/
theorem call_isi : CallR X (.builtin "isinstance") (fun xs H Q => ∃ x t c b, xs = [x, .ty c] ∧ TyOf X.K H x (.type t) ∧ PySem.W.kitOne X.K (.type t) (.type c) = some b ∧ Q (.bl b) H) := by
  intro pins s σ H xs us Q I r h
  obtain ⟨x, t, c, b, rfl, ty, e, q⟩ := h
  obtain ⟨u, u2, rfl, rx, rc⟩ := vals2 r
  cases (show u2 = Value.type c from rc)
  exact isinst_ok I rx ty e fun tk => ⟨.bl b, H, I.tok tk, rfl, q⟩
end

/-- the type of data -/
def tyD : PyData → String
  | .none => "NoneType"
  | .bool _ => "bool"
  | .int _ => "int"
  | .str _ => "str"
  | .list _ => "list"
  | .tuple _ => "tuple"
  | .dict _ => "dict"
theorem Rep.ty {K : PySem.W.Frag} {S : List Addr} {H : Hp} {d : PyData} {v : V} (h : Rep S H d v) : TyOf K H v (.type (tyD d)) := by
  cases d with
  | none => cases h.of_non; exact .non
  | bool b => cases h.of_bl; exact .bl b
  | int i => cases h.of_int; exact .int i
  | str x => cases h.of_str; exact .str x
  | tuple ds => obtain ⟨a, xs, rfl, ha, _⟩ := h.of_tup; exact .tup ha
  | list ds => obtain ⟨a, xs, rfl, ha, _⟩ := h.of_lst; exact .lst ha
  | dict _ => unfold Rep at h; exact h.elim
end L2

set_option Elab.async false
set_option linter.all false
set_option maxRecDepth 100000
/-! Rules of our own: ranges as values, tuple(range), slices of tuples, sums of tuples, insert, min and max of a tuple. -/
namespace PySem
open Sem (wp)
open AutoSeq1 (wpAny_loadPart')
section
variable {prog : Program} {w : World} {A : Around} {E : Value → Shared → Prop} {s : Shared}
end
end PySem
namespace L2
open PySem PySem.Spec PyProof.Rows
/-! ### ranges as values -/
section
variable {X : Cx}
/-! ### insert -/
def rInsert : V → List V → Hp → VK → Prop := fun x vs H Q => ∃ l xs i y, x = .ref l ∧ vs = [.int i, y] ∧ H l = some (.lst xs) ∧ xs.length < sizeLine ∧ 0 ≤ i ∧ i < 2 ^ 62 ∧ Q .non (upd H l (.lst (xs.take i.toNat ++ y :: xs.drop i.toNat)))
theorem mt_insert : MtM X "list.insert" rInsert := by
  intro pins s σ H x vs v us Q I rx rv h
  obtain ⟨l, xs, i, y, rfl, rfl, hH, hz, h0, h1, q⟩ := h
  cases rx
  obtain ⟨u, u2, rfl, ⟨t, e1⟩, ru⟩ := rv.two
  subst e1
  obtain ⟨z, its, n, r, hl, e⟩ := I.lstM hH
  refine call_meets F.slot_list_insert ⟨_, e, rfl⟩ F.entry_list_insert (F.args_list_insert_3 _ _ _) (AutoSeq1.list_insert_list_int_val_1 l its.toArray n i t u2 (by rw [fitsIndex_both (by omega) (by omega)]; decide) (by rw [List.size_toArray]; omega)) ⟨e, ?_⟩
  refine ⟨.non, _, I.lset (its' := its.take i.toNat ++ u2 :: its.drop i.toNat) hH e ?_ ((r.take i.toNat).append (.cons ru (r.drop i.toNat))) ?_, rfl, q⟩
  · have hi : ¬ i < 0 := by omega
    simp only [if_neg hi, List.size_toArray]
    apply Array.ext'
    simp
    by_cases hc : i.toNat ≤ its.length
    · rw [Nat.min_eq_left hc, show (its.drop i.toNat).take (its.length - i.toNat) = its.drop i.toNat from List.take_of_length_le (by rw [List.length_drop]; exact Nat.le_refl _)]
    · rw [Nat.min_eq_right (by omega)]
      simp [List.take_of_length_le (show its.length ≤ i.toNat by omega), List.drop_of_length_le (show its.length ≤ i.toNat by omega)]
  · rw [List.length_append, List.length_take, List.length_cons, List.length_drop]
    omega
end

/-! ### short words -/
section
variable {X : Cx}
theorem pe_ty (T : String) {x : Str} {pos : Pos} (hg : Gl X x) (hm : X.mg x = none) (hv : bootBuiltins x = some (.type T)) (hn : x ≠ "__name__" := by decide) (hd : (x == ("__debug__" : Str)) = false := by decide) : PE X (.Name x pos) (tC (.ty T)) := pe_bltn hg hm hv rfl hn hd
/-- a statement, then what holds behind it, then the rest -/
def tCut (t u : TS) : TS := fun D σ H => ∃ M : St → Hp → Prop, t { D with nx := M } σ H ∧ ∀ σ' H', M σ' H' → u D σ' H'
theorem pss_cut {st : Stmt} {rest : List Stmt} {t u : TS} (h1 : PS X st t) (h2 : PSs X rest u) : PSs X (st :: rest) (tCut t u) := by
  intro pins s σ H D I h
  obtain ⟨M, q, k⟩ := h
  refine wpAny_execs_cons (thn (h1 pins s σ H { D with nx := M } I q) fun f s1 e => ?_)
  cases f with
  | next => obtain ⟨σ1, H1, I1, m1⟩ := e; exact h2 pins s1 σ1 H1 D I1 (k σ1 H1 m1)
  | brk => exact e
  | cont => exact e
  | ret u => exact e
theorem atI_ex {α : Type} {xs : List α} {i : Int} (h0 : 0 ≤ i) (h1 : i < xs.length) : ∃ v, atI xs i = some v ∧ xs[i.toNat]? = some v := by
  have hlt : i.toNat < xs.length := by omega
  refine ⟨xs[i.toNat], ?_, by simp [hlt]⟩
  unfold atI ixN
  rw [if_pos h0, if_pos h1]
  simp [hlt]
end

/-! ### argument lists, looked at quickly -/
def notStar : Expr → Bool
  | .Starred .. => false
  | _ => true
theorem starEach_ns {e : Expr} {es : List Expr} {env : Env} (h : notStar e = true) : starEach (e :: es) env = (false, eval e env) :: starEach es env := by
  cases e <;> first | rfl | cases h
theorem backTo_ns {pos : Pos} {env : Env} : ∀ {es : List Expr}, es.all notStar = true → (backTo pos (starEach es env)).any (·.1) = false
  | [], _ => rfl
  | e :: es, h => by
    rw [List.all_cons, Bool.and_eq_true] at h
    rw [starEach_ns h.1]
    show (backTo pos ((false, eval e env) :: starEach es env)).any (·.1) = false
    have ih := backTo_ns (pos := pos) (env := env) h.2
    show (false || (backTo pos (starEach es env)).any (·.1)) = false
    rw [ih]
    rfl
theorem backTo_all {pos : Pos} {env : Env} : ∀ {es : List Expr}, es.all notStar = true → (backTo pos (starEach es env)).all (fun x => !x.1) = true
  | [], _ => rfl
  | e :: es, h => by
    rw [List.all_cons, Bool.and_eq_true] at h
    rw [starEach_ns h.1]
    have ih := backTo_all (pos := pos) (env := env) h.2
    show (true && (backTo pos (starEach es env)).all (fun x => !x.1)) = true
    rw [ih]
    rfl
theorem ns_hd {e : Expr} {es : List Expr} (h : (e :: es).all notStar = true) : notStar e = true ∧ es.all notStar = true := by
  rw [List.all_cons, Bool.and_eq_true] at h
  exact h
end L2

set_option Elab.async false
set_option linter.all false
set_option maxRecDepth 100000
/-! The judgements as structures (so that no elaborator unfolds them), and the rules over them: q.. for p... -/
namespace L2
open PySem PySem.Spec PyProof.Rows
structure QE (X : Cx) (e : Expr) (t : TE) : Prop where run : PE X e t
structure QT (X : Cx) (e : Expr) (t : TT) : Prop where run : PT X e t
structure QW (X : Cx) (e : Expr) (t : TT) : Prop where run : PW X e t
structure QA (X : Cx) (es : List Expr) (t : TA) : Prop where
  run : PA X es t
  ns : es.all notStar = true
structure QS (X : Cx) (st : Stmt) (t : TS) : Prop where run : PS X st t
structure QSs (X : Cx) (st : List Stmt) (t : TS) : Prop where run : PSs X st t
structure QG (X : Cx) (e : Expr) (t : TG) : Prop where run : PG X e t
structure QGs (X : Cx) (es : List Expr) (t : TGs) : Prop where run : PGs X es t
structure QI (X : Cx) (tg iter : Expr) (t : TI) : Prop where run : PI X tg iter t
structure QO (X : Cx) (e : Option Expr) (t : TO) : Prop where run : PO X e t
structure QK (X : Cx) (ifs : List Expr) (t : TT) : Prop where run : PCk X ifs t
section
variable {X : Cx} {a b c e o i' tg iter elt : Expr} {es : List Expr} {ta tb tc te to ti : TE} {tA tB' : TT} {t : TA} {pos p apos cpos p2 : Pos} {k : Nat} {x name : Str} {ps : List Str} {sp : Sp} {id T : String} {rest : List Expr}
theorem qv (i : Nat) {x : Str} {pos : Pos} (hN : X.N[i]? = some x := by rfl) (hv : Vis X.env.scope x := by first | exact Or.inl rfl | exact Or.inr (Or.inl rfl) | exact Or.inr (Or.inr rfl)) (hd : (x == ("__debug__" : Str)) = false := by decide)
    (hcd : (x == ("__classdict__" : Str)) = false := by decide) : QE X (.Name x pos) (tVar i) := ⟨pe_var hN hv hd hcd⟩
theorem qe_int {i j pos} : QE X (.Constant (.int i) j pos) (tC (.int i)) := ⟨pe_int⟩
theorem qe_bl {b j pos} : QE X (.Constant (.bool b) j pos) (tC (.bl b)) := ⟨pe_bl⟩
theorem qe_non {j pos} : QE X (.Constant .none j pos) (tC .non) := ⟨pe_non⟩
theorem qe_str {x j pos} : QE X (.Constant (.str x) j pos) (tC (.str x)) := ⟨pe_str⟩
theorem qe_ty (T : String) {x : Str} {pos : Pos} (hg : Gl X x) (hm : X.mg x = none) (hv : bootBuiltins x = some (.type T)) (hn : x ≠ "__name__" := by decide) (hd : (x == ("__debug__" : Str)) = false := by decide) : QE X (.Name x pos) (tC (.ty T)) := ⟨pe_ty T hg hm hv hn hd⟩
theorem qe_glob {x : Str} {v : V} {u : Value} {pos : Pos} (hg : Gl X x) (hm : X.mg x = some u) (r : RelV v u) (hd : (x == ("__debug__" : Str)) = false := by decide) : QE X (.Name x pos) (tC v) := ⟨pe_glob hg hm r hd⟩
theorem qe_op {op : Operator} {r : R2} (ho : OpR X (binaryOp op) r) (ha : QE X a ta) (hb : QE X b tb) : QE X (.BinOp a op b pos) (tOp r ta tb) := ⟨pe_op ho ha.run hb.run⟩
theorem qe_un {op : UnaryOp} {r : V → Hp → VK → Prop} (ho : UnR X (unaryOp op) r) (ha : QE X a ta) : QE X (.UnaryOp op a pos) (tUn r ta) := ⟨pe_un ho ha.run⟩
theorem qe_cmpR {op : CmpOp} {r : R2} (ho : OpR X (compareOp op) r) (ha : QE X a ta) (hb : QE X b tb) (hm : behindInMarks op b = false) : QE X (.Compare a [op] [b] pos) (tOp r ta tb) := ⟨pe_cmpR ho ha.run hb.run hm⟩
theorem qt_cmpR {op : CmpOp} {r : R2} (ho : OpR X (compareOp op) r) (ha : QE X a ta) (hb : QE X b tb) (hm : behindInMarks op b = false) : QT X (.Compare a [op] [b] pos) (tTest (tOp r ta tb)) := ⟨pt_cmpR ho ha.run hb.run hm⟩
theorem qe_chain {op op' : CmpOp} {r r' : R2} (ho : OpR X (compareOp op) r) (ho' : OpR X (compareOp op') r') (ha : QE X a ta) (hb : QE X b tb) (hc : QE X c tc)
    (hm : lastMarks [op, op'] [b, c] = false := by with_unfolding_all rfl) : QE X (.Compare a [op, op'] [b, c] pos) (tChain r r' ta tb tc) := ⟨pe_chain ho ho' ha.run hb.run hc.run hm⟩
theorem qt_val (h : QE X e te) (he : ∀ whole, isTrue e X.env whole = (do let v ← whole; standAt e.pos; holding [v] (truthy v)) := by intro _; rfl) : QT X e (tB te) := ⟨pt_val h.run he⟩
theorem qw_and1 (ha : QT X a tA) : QW X (.BoolOp .And [a] pos) tA := ⟨pw_and1 ha.run⟩
theorem qw_or1 (ha : QT X a tA) : QW X (.BoolOp .Or [a] pos) tA := ⟨pw_or1 ha.run⟩
theorem qw_and (ha : QT X a tA) (hb : QW X (.BoolOp .And (b :: rest) pos) tB') : QW X (.BoolOp .And (a :: b :: rest) pos) (tAnd tA tB') := ⟨pw_and ha.run hb.run⟩
theorem qw_or (ha : QT X a tA) (hb : QW X (.BoolOp .Or (b :: rest) pos) tB') : QW X (.BoolOp .Or (a :: b :: rest) pos) (tOr tA tB') := ⟨pw_or ha.run hb.run⟩
theorem QW.pt (h : QW X e tA) : QT X e tA := ⟨h.run.pt⟩
theorem qt_not (ha : QT X a tA) : QT X (.UnaryOp .Not a pos) (tNot tA) := ⟨pt_not ha.run⟩
theorem qe_one {op} (h : QE X a ta) : QE X (.BoolOp op [a] pos) ta := ⟨pe_one h.run⟩
theorem qe_and (ha : QE X a ta) (hb : QE X (.BoolOp .And (b :: rest) pos) tb) : QE X (.BoolOp .And (a :: b :: rest) pos) (tAndV ta tb) := ⟨pe_and ha.run hb.run⟩
theorem qe_or (ha : QE X a ta) (hb : QE X (.BoolOp .Or (b :: rest) pos) tb) : QE X (.BoolOp .Or (a :: b :: rest) pos) (tOrV ta tb) := ⟨pe_or ha.run hb.run⟩
theorem qe_not (ha : QE X a ta) : QE X (.UnaryOp .Not a pos) (tNotV ta) := ⟨pe_not ha.run⟩
theorem qe_ifExp (hc : QT X c tA) (ha : QE X a ta) (hb : QE X b tb) : QE X (.IfExp c a b pos) (tIf tA ta tb) := ⟨pe_ifExp hc.run ha.run hb.run⟩
theorem qa_nil : QA X [] tNil := ⟨pa_nil, rfl⟩
theorem qa_c (ha : QE X e te) (hr : QA X es t) (hs : notStar e = true := by rfl) : QA X (e :: es) (tCons te t) := ⟨pa_cons ha.run hr.run (starEach_ns hs), by rw [List.all_cons, hs, hr.ns]; rfl⟩
theorem qe_lst (h : QA X es t) : QE X (.List es pos) (tLst t) := ⟨pe_lst h.run⟩
theorem qe_tup {x1} (h : QA X es t) : QE X (.Tuple es x1 pos) (tTup t) := ⟨pe_tup h.run⟩
theorem qe_ix {r : R2} (hr : IxR X r) (ha : QE X a ta) (hb : QE X b tb) (hs : PlainIx b) : QE X (.Subscript a b pos) (tOp r ta tb) := ⟨pe_ix hr ha.run hb.run hs⟩
theorem qo_none : QO X none tNoPart := ⟨po_none⟩
theorem qo_some (h : QE X e te) : QO X (some e) (tPart te) := ⟨po_some h.run⟩
theorem qe_slice {r : V → Option Int → Option Int → Hp → VK → Prop} {lo hi : Option Expr} {tl th : TO} (hr : SlR X r) (he : QE X e te) (hl : QO X lo tl) (hu : QO X hi th) : QE X (.Subscript e (.Slice lo hi none p2) pos) (tSl r te tl th) := ⟨pe_slice hr he.run hl.run hu.run⟩
theorem qe_callD (D : DefOk X.prog X.w X.K X.mg X.base k x ps sp) (hr : Room k X.A) (ha : QA X (e :: es) t) (hg : Gl X x := by rfl) (hdb : (x == ("__debug__" : Str)) = false := by decide) :
    QE X (.Call (.Name x p) (e :: es) [] pos) (tCallD sp t) := ⟨pe_callD D hr ha.run hg hdb (starEach_ns (ns_hd ha.ns).1) (backTo_ns (ns_hd ha.ns).2)⟩
theorem qe_callB {r : List V → Hp → VK → Prop} (hc : CallR X (.builtin id) r) (hg : Gl X x) (hm : X.mg x = none) (hv : bootBuiltins x = some (.builtin id)) (ha : QA X (e :: es) t) (hn : x ≠ "__name__" := by decide) (hdb : (x == ("__debug__" : Str)) = false := by decide) :
    QE X (.Call (.Name x p) (e :: es) [] pos) (tCB r t) := ⟨pe_callB hc hg hm hv ha.run hn hdb (starEach_ns (ns_hd ha.ns).1) (backTo_ns (ns_hd ha.ns).2)⟩
theorem qe_callTy {r : List V → Hp → VK → Prop} (hc : CallR X (.type T) r) (hg : Gl X x) (hm : X.mg x = none) (hv : bootBuiltins x = some (.type T)) (ha : QA X (e :: es) t) (hn : x ≠ "__name__" := by decide) (hdb : (x == ("__debug__" : Str)) = false := by decide) :
    QE X (.Call (.Name x p) (e :: es) [] pos) (tCB r t) := ⟨pe_callTy hc hg hm hv ha.run hn hdb (starEach_ns (ns_hd ha.ns).1) (backTo_ns (ns_hd ha.ns).2)⟩
theorem qe_bm {r : V → List V → Hp → VK → Prop} (pa : PlainAttrs T) (slot : Slot T name id) (hty : typeOf (.builtin id) = pure (.type "method_descriptor")) (hm : MtR X id r) (ho : QE X o to) (ha : QA X (e :: es) t)
    (hbase : attributeBase o name X.env (eval o X.env) = eval o X.env := by rfl) (hl : decide ((e :: es).length + 0 + 0 < 30) = true := by rfl)
    (hline : (apos.endLine == cpos.line) = true := by rfl) : QE X (.Call (.Attribute o name apos) (e :: es) [] cpos) (tBM X.K T r to t) := by
  refine ⟨pe_bm pa slot hty hm ho.run ha.run hbase ?_ hline (starEach_ns (ns_hd ha.ns).1) (backTo_ns (ns_hd ha.ns).2)⟩
  rw [backTo_all ha.ns]
  exact hl
/-! targets, iterators -/
theorem qg_name {i : Nat} {x : Str} (hN : X.N.Nodup) (hi : X.N[i]? = some x) (hx : Loc X.env.scope x) (hf : X.fn x = true ∨ X.env.scope.names.lookup x = some .local := by first | exact .inl rfl | exact .inr rfl | assumption) : QG X (.Name x pos) (gName i) := ⟨pg_name hN hi hx hf⟩
theorem qgs_nil : QGs X [] gNil := ⟨pgs_nil⟩
theorem qgs_cons {tt : TG} {u : TGs} (h1 : QG X e tt) (h2 : QGs X es u) (hs : (assignEach (e :: es) X.env).map (·.2) = assign e X.env :: (assignEach es X.env).map (·.2) := by rfl) : QGs X (e :: es) (gCons tt u) := ⟨pgs_cons h1.run h2.run hs⟩
theorem qg_tup {k n : Nat} {tt : TGs} (hc : X.calm = true) (h : QGs X es tt) (hn : (assignEach es X.env).length = n := by rfl) (hst : (assignEach es X.env).findIdx? (·.1) = none := by rfl) : QG X (.Tuple es k pos) (gTup X.K n tt) := ⟨pg_tup hc h.run hn hst⟩
theorem qg_sub {tt : TSet} (ho : QE X o to) (hi : QE X i' ti) (hs : PSet X tt)
    (ha : ∀ v, assign (.Subscript o i' pos) X.env v = (do
      let ov ← holding [v] (eval o X.env)
      let iv ← holding [v, ov] (eval i' X.env)
      standAt pos
      holding [v, ov, iv] (setItem ov iv v)
      release [v, ov, iv] []) := by intro _; rfl) : QG X (.Subscript o i' pos) (gSub to ti tt) := ⟨pg_sub ho.run hi.run hs ha⟩
theorem qi_list (hl : QE X a ta) : QI X tg a (iList X.K ta) := ⟨pi_list hl.run⟩
theorem qi_tup (hl : QE X a ta) : QI X tg a (iTup X.K ta) := ⟨pi_tup hl.run⟩
theorem qi_range1 (hg : Gl X "range") (hm : X.mg "range" = none) (ha : QA X [a] t) : QI X tg (.Call (.Name "range" p) [a] [] pos) (iRng1 t) := ⟨pi_range1 hg hm ha.run (starEach_ns (ns_hd ha.ns).1)⟩
theorem qk_nil : QK X [] tTrue := ⟨pk_nil1⟩
theorem qk_one (h : QT X c tA) : QK X [c] tA := ⟨pk_one1 h.run⟩
/-! statements -/
variable {st : Stmt} {sts body els : List Stmt} {ts us : TS} {ifs : List Expr} {sc : Scope} {N : List Str} {mp : List (Option Nat)} {wi : TI} {g : TG}
theorem qss_nil : QSs X [] tNext := ⟨pss_nil⟩
theorem qss_cons (h1 : QS X st ts) (h2 : QSs X sts us) : QSs X (st :: sts) (tSeq ts us) := ⟨pss_cons h1.run h2.run⟩
theorem qss_cut (h1 : QS X st ts) (h2 : QSs X sts us) : QSs X (st :: sts) (tCut ts us) := ⟨pss_cut h1.run h2.run⟩
theorem qss_one (h1 : QS X st ts) : QSs X [st] ts := ⟨pss_one h1.run⟩
theorem qs_expr (he : QE X e te) (hs : swapsWith e none pos.line X.env = pure false := by rfl) : QS X (.Expr e pos) (tDrop te) := ⟨ps_expr he.run hs⟩
theorem qs_ret (he : QE X e te) : QS X (.Return (some e) pos) (tRet te) := ⟨ps_ret he.run⟩
theorem qs_if (hc : QT X c tA) (ha : QSs X body ts) (hb : QSs X els us) : QS X (.If c body els pos) (tIfS tA ts us) := ⟨ps_if hc.run ha.run hb.run⟩
theorem qs_set {i : Nat} {x : Str} {pos' : Pos} (hN : X.N.Nodup) (hi : X.N[i]? = some x) (hx : Loc X.env.scope x) (he : QE X e te) (hs : swapsWith e (some (.Name x pos')) pos.line X.env = pure false := by rfl)
    (hf : X.fn x = true ∨ X.env.scope.names.lookup x = some .local := by first | exact .inl rfl | exact .inr rfl | assumption) : QS X (.Assign [.Name x pos'] e pos) (tAsg te (gName i)) := ⟨ps_set hN hi hx he.run hs hf⟩
theorem qs_asg (he : QE X e te) (hg : QG X tg g) (hs : swapsWithSole [tg] e pos.line X.env = pure false := by rfl) (hw : swappedStores [tg] e X.env = pure none := by rfl)
    (h1 : (assignEach [tg] X.env).map (·.2) = [assign tg X.env] := by rfl) : QS X (.Assign [tg] e pos) (tAsg te g) := ⟨ps_asg he.run hg.run hs hw h1⟩
theorem qs_for (hp : PassesOwn (model X.prog X.w) X.A X.env X.xe) (hc : X.calm = true) (hi : QI X tg iter wi) (hg : QG X tg g) (hb : QSs X body ts) (hs : ∀ x, foldedSetIterable iter X.env x = pure x := by intro _; rfl) :
    QS X (.For tg iter body [] pos) (tFor wi g ts) := ⟨ps_for hp hc hi.run hg.run hb.run hs⟩
theorem qe_comp (hc : X.calm = true) (hi : QI X tg iter wi) (hk : sc.kind = .function) (hm : compOk X.N X.env.scope sc N mp = true)
    (hb : ∀ (cl : List (Str × Addr)) (C : Addr) (s₂ : Shared) (H₂ : Hp) (fp : List Addr), QG (cxComp X sc N cl C s₂ H₂ fp) tg g ∧ QK (cxComp X sc N cl C s₂ H₂ fp) ifs tA ∧ QE (cxComp X sc N cl C s₂ H₂ fp) elt te)
    (hs : ∀ x, foldedSetIterable iter X.env x = pure x := by intro _; rfl) : QE X (.ListComp elt [⟨tg, iter, ifs, 0⟩] sc pos) (tCompE (tComp wi mp g tA te)) :=
  ⟨pe_comp hc hi.run hk hm (fun cl C s₂ H₂ fp => ⟨(hb cl C s₂ H₂ fp).1.run, (hb cl C s₂ H₂ fp).2.1.run, (hb cl C s₂ H₂ fp).2.2.run⟩) hs⟩
theorem qs_comp {i : Nat} {x : Str} {py spos : Pos} (hN : X.N.Nodup) (hix : X.N[i]? = some x) (hx : X.env.scope.names.lookup x = some .local) (hc : X.calm = true) (hi : QI X tg iter wi) (hk : sc.kind = .function) (hm : compOk X.N X.env.scope sc N mp = true)
    (hb : ∀ (cl : List (Str × Addr)) (C : Addr) (s₂ : Shared) (H₂ : Hp) (fp : List Addr), QG (cxComp X sc N cl C s₂ H₂ fp) tg g ∧ QK (cxComp X sc N cl C s₂ H₂ fp) ifs tA ∧ QE (cxComp X sc N cl C s₂ H₂ fp) elt te)
    (hsw : swapsWith (.ListComp elt [⟨tg, iter, ifs, 0⟩] sc pos) (some (.Name x py)) spos.line X.env = pure true := by rfl)
    (hs : ∀ x, foldedSetIterable iter X.env x = pure x := by intro _; rfl) : QS X (.Assign [.Name x py] (.ListComp elt [⟨tg, iter, ifs, 0⟩] sc pos) spos) (tCompS i (tComp wi mp g tA te)) :=
  ⟨ps_comp hN hix hx hc hi.run hk hm (fun cl C s₂ H₂ fp => ⟨(hb cl C s₂ H₂ fp).1.run, (hb cl C s₂ H₂ fp).2.1.run, (hb cl C s₂ H₂ fp).2.2.run⟩) hsw hs⟩
end
theorem Fun.okQ {P : Program} {w : World} {K : PySem.W.Frag} {mg : Str → Option Value} {base : Heap} {x qual : Str} {st : Stmt} {f : Addr} {fd : FuncData} {N ps : List Str} {k : Nat} {sp : Sp} (F : Fun K x qual st f fd) (S : FnScope N ps (defScope st)) (len : ∀ vs H Q E, sp vs H Q E → vs.length = ps.length)
    (hbody : ∀ (cdv : Value) (A : Around) (outer : List Env) (s : Shared) (H : Hp) (vs : List V) (Q : VK) (E : XK), Room k (A.deeper (envOfC qual (defScope st) s.heap.objs.size f cdv)) → sp vs H Q E →
      ∃ t, QSs (cxOf CX0 P w K mg base N qual (defScope st) f cdv A outer s H E).nox (defBody st) t ∧ t { nx := fun _ H' => Q .non H', rt := Q } (start N vs) H) : FnOk P w K mg base CX0 (k + 1) f fd ps sp :=
  F.ok S len fun cdv A outer s H vs Q E hr h => let ⟨t, q, r⟩ := hbody cdv A outer s H vs Q E hr h; ⟨t, q.run, r⟩
/-! ### the rules that name the written part: K said outright (a block's own context must not stand in a reading) -/
section
variable {X : Cx} (K : PySem.W.Frag)
theorem ixT (h : X.K = K := by rfl) : IxR X (rIxT K) := by subst h; exact ix_tup
theorem ixL (h : X.K = K := by rfl) : IxR X (rIxL K) := by subst h; exact ix_list
theorem slL (h : X.K = K := by rfl) : SlR X (rSlL K) := by subst h; exact sl_list
theorem lenK (h : X.K = K := by rfl) : CallR X (.builtin "len") (fun xs H Q => ∃ p ys, xs = [.ref p] ∧ (SqL K H p ys ∨ SqT K H p ys) ∧ Q (.int ys.length) H) := by subst h; exact call_len_seq
theorem isiK (h : X.K = K := by rfl) : CallR X (.builtin "isinstance") (fun xs H Q => ∃ x t c b, xs = [x, .ty c] ∧ TyOf K H x (.type t) ∧ PySem.W.kitOne K (.type t) (.type c) = some b ∧ Q (.bl b) H) := by subst h; exact call_isi
theorem inK (h : X.K = K := by rfl) : OpR X (compareOp .In) (rIn K false) := by subst h; exact op_in_seq
theorem ninK (h : X.K = K := by rfl) : OpR X (compareOp .NotIn) (rIn K true) := by subst h; exact op_notIn_seq
theorem listK (h : X.K = K := by rfl) : CallR X (.type "list") (fun xs H Q => ∃ p ys, xs = [.ref p] ∧ (SqL K H p ys ∨ SqT K H p ys) ∧ ∀ l, H l = none → Q (.ref l) (upd H l (.lst ys))) := by subst h; exact call_list_of
theorem tupleK (h : X.K = K := by rfl) : CallR X (.type "tuple") (fun xs H Q => ∃ p ys, xs = [.ref p] ∧ ((SqL K H p ys ∧ ∀ l, H l = none → Q (.ref l) (upd H l (.tup ys))) ∨ (SqT K H p ys ∧ Q (.ref p) H))) := by subst h; exact call_tuple_of
variable {a o e tg : Expr} {es : List Expr} {ta to : TE} {t : TA} {apos cpos : Pos} {name : Str} {id T : String}
theorem qi_listK (hl : QE X a ta) (h : X.K = K := by rfl) : QI X tg a (iList K ta) := by subst h; exact qi_list hl
theorem qi_tupK (hl : QE X a ta) (h : X.K = K := by rfl) : QI X tg a (iTup K ta) := by subst h; exact qi_tup hl
theorem qe_bmK {r : V → List V → Hp → VK → Prop} (pa : PlainAttrs T) (slot : Slot T name id) (hty : typeOf (.builtin id) = pure (.type "method_descriptor")) (hm : MtR X id r) (ho : QE X o to) (ha : QA X (e :: es) t) (h : X.K = K := by rfl)
    (hbase : attributeBase o name X.env (eval o X.env) = eval o X.env := by rfl) (hl : decide ((e :: es).length + 0 + 0 < 30) = true := by rfl)
    (hline : (apos.endLine == cpos.line) = true := by rfl) : QE X (.Call (.Attribute o name apos) (e :: es) [] cpos) (tBM K T r to t) := by subst h; exact qe_bm pa slot hty hm ho ha hbase hl hline
theorem qg_tupK {k n : Nat} {pos : Pos} {tt : TGs} (hc : X.calm = true) (hh : QGs X es tt) (h : X.K = K := by rfl) (hn : (assignEach es X.env).length = n := by rfl) (hst : (assignEach es X.env).findIdx? (·.1) = none := by rfl) : QG X (.Tuple es k pos) (gTup K n tt) := by subst h; exact qg_tup hc hh hn hst
end
end L2

set_option Elab.async false
set_option linter.all false
set_option maxRecDepth 100000
/-! Slices of tuples: the whole, turned about; sums with an empty tuple. -/
namespace HT
open PySem PyProof.Rows
section
variable {prog : Program} {w : World} {A : Around} {E : Value → Shared → Prop} {s : Shared}
theorem getItem_tuple_whole {t sl : Addr} {items : Array Value} {vl vu : Value} {lo hi : Option Int} {Q : Value → Shared → Prop} (ht : IsTup s.heap t items) (hs : s.heap.IsSliceOf sl vl vu .none) (pl : IsPart vl lo) (pu : IsPart vu hi)
    (hw : sIx items.size 0 lo = 0 ∧ sIx items.size items.size hi = items.size) (h : Q (.ref t) s) : wpAny (model prog w) A (getItem (.ref t) (.ref sl)) Q E s := by
  obtain ⟨os, hos, hcs, hds⟩ := id hs
  have hTs : s.TypeIs (.ref sl) "slice" := ⟨os, hos, hcs⟩
  unfold getItem
  try with_reducible refine wpAny_holding ?_
  first | refine wpAny_bind (wpAny_pure ?_) | skip
  refine wpAny_bind (wpAny_sequenceKey ht.typeIs (by decide) ?_)
  refine wpAny_bind (wpAny_callSpecial?_slot (name := Str.ofString "__getitem__") ht.typeIs PyProof.Rows.slot_tuple_getitem
    (wpAny_call_entry PyProof.Rows.slot_tuple_getitem ht.typeIs entry_tuple_getitem ?_ (args_tuple_getitem _ _)))
  show wpAny _ _ (Builtin.Tuple.tupleItemsOf (.ref t) >>= _) _ _ s
  refine wpAny_bind (tupleItemsOf_ ht ?_)
  refine wpAny_bind (wpAny_typeOf hTs ?_)
  rw [if_pos (by decide)]
  refine wpAny_bind (sliceApplied_gen hs pl pu ?_)
  have hyes : ((((sIx items.size 0 lo : Nat) : Int) == 0 && (1 : Int) == 1 && (sIx items.size items.size hi - sIx items.size 0 lo) == items.size) = true) := by
    rw [hw.1, hw.2]; simp
  show wpAny _ _ (if (((sIx items.size 0 lo : Nat) : Int) == 0 && (1 : Int) == 1 && (sIx items.size items.size hi - sIx items.size 0 lo) == items.size) = true then _ else _) _ _ s
  rw [if_pos hyes]
  refine wpAny_bind ?_
  unfold Builtin.Tuple.tupleIsExact
  refine wpAny_bind (wpAny_typeOf ht.typeIs (wpAny_pure ?_))
  show wpAny _ _ (if (Value.type "tuple" == Value.type "tuple") = true then _ else _) _ _ s
  rw [if_pos (by decide)]
  exact wpAny_bind (wpAny_rule (wpAny_pure ⟨_, rfl, wpAny_pure h⟩))
theorem sliceApplied_rev {sl : Addr} {tk : Tok} {n : Nat} {Q : Int × Int × Nat → Shared → Prop} (hs : s.heap.IsSliceOf sl .none .none (.int (-1) tk))
    (h : Q ((n : Int) - 1, -1, n) s) : wpAny (model prog w) A (Builtin.Slice.sliceApplied (.ref sl) (pure (n : Int))) Q E s := by
  obtain ⟨os, hos, hcs, hds⟩ := id hs
  unfold Builtin.Slice.sliceApplied Builtin.Slice.sliceFields
  refine wpAny_bind (wpAny_bind (wpAny_field hos hds (x := .none) rfl (wpAny_bind (wpAny_field hos hds (x := .none) rfl (wpAny_bind (wpAny_field hos hds (x := .int (-1) tk) rfl (wpAny_pure ?_)))))))
  refine wpAny_bind (slicePart_int ?_)
  show wpAny _ _ (if ((-1 : Int) == 0) = true then _ else _) _ _ s
  rw [if_neg (by decide)]
  refine wpAny_bind (slicePart_none (wpAny_bind (slicePart_none (wpAny_bind (wpAny_pure ?_)))))
  have e1 : Builtin.Slice.sliceAdjust none none (-1) (n : Int) = ((n : Int) - 1, -1) := rfl
  have e2 : Builtin.Slice.slicePlaces ((n : Int) - 1) (-1) (-1) = n := by
    unfold Builtin.Slice.slicePlaces
    rw [if_neg (by decide)]
    by_cases hn : (n : Int) - 1 > -1
    · rw [if_pos hn]
      have : ((n : Int) - 1 - -1 - 1) / (- -1) + 1 = n := by
        rw [show (- -1 : Int) = 1 from rfl, Int.ediv_one]
        omega
      rw [this]
      simp
    · rw [if_neg hn]
      omega
  show wpAny _ _ (match Builtin.Slice.sliceAdjust none none (-1) (n : Int) with | (lo, hi) => pure (lo, (-1 : Int), Builtin.Slice.slicePlaces lo hi (-1))) _ _ s
  rw [e1]
  show wpAny _ _ (pure ((n : Int) - 1, (-1 : Int), Builtin.Slice.slicePlaces ((n : Int) - 1) (-1) (-1))) _ _ s
  rw [e2]
  exact wpAny_pure h
theorem fm_map {α β : Type} {f : α → Option β} {g : α → β} : ∀ {l : List α}, (∀ m ∈ l, f m = some (g m)) → l.filterMap f = l.map g
  | [], _ => rfl
  | a :: l, h => by
    rw [List.filterMap_cons, h a List.mem_cons_self, List.map_cons, fm_map fun m hm => h m (List.mem_cons_of_mem _ hm)]
theorem pick_rev (xs : Array Value) : ((List.range xs.size).filterMap fun (m : Nat) => xs[(((xs.size : Nat) : Int) - 1 + (m : Int) * -1).toNat]?).toArray = xs.toList.reverse.toArray := by
  congr 1
  apply List.ext_getElem?
  intro i
  have key : ∀ m ∈ List.range xs.size, (fun (m : Nat) => xs[(((xs.size : Nat) : Int) - 1 + (m : Int) * -1).toNat]?) m = some (xs.getD (xs.size - 1 - m) .none) := by
    intro m hm
    have hm' := List.mem_range.mp hm
    have e : (((xs.size : Nat) : Int) - 1 + (m : Int) * -1).toNat = xs.size - 1 - m := by omega
    show xs[_]? = _
    rw [e]
    simp [Array.getD, show xs.size - 1 - m < xs.size by omega]
  have e3 : (List.range xs.size).filterMap (fun (m : Nat) => xs[(((xs.size : Nat) : Int) - 1 + (m : Int) * -1).toNat]?) = (List.range xs.size).map fun m => xs.getD (xs.size - 1 - m) .none := by
    exact fm_map key
  rw [e3, List.getElem?_map]
  by_cases hi : i < xs.size
  · rw [List.getElem?_range hi, List.getElem?_reverse (by simpa using hi)]
    simp [Array.getD, show xs.size - 1 - i < xs.size by omega]
  · rw [List.getElem?_eq_none (by simp; omega), List.getElem?_eq_none (by simp; omega)]
    rfl
theorem getItem_tuple_rev {t sl : Addr} {items : Array Value} {tk : Tok} {Q : Value → Shared → Prop} (ht : IsTup s.heap t items) (hs : s.heap.IsSliceOf sl .none .none (.int (-1) tk))
    (h : Q (.ref s.heap.objs.size) { s with heap := s.heap.push { cls := .type "tuple", data := .seq items.toList.reverse.toArray } }) (hsz : items.size ≤ sizeLine) : wpAny (model prog w) A (getItem (.ref t) (.ref sl)) Q E s := by
  obtain ⟨os, hos, hcs, hds⟩ := id hs
  have hTs : s.TypeIs (.ref sl) "slice" := ⟨os, hos, hcs⟩
  have hz : sizeOk (.seq items.toList.reverse.toArray) := by
    show items.toList.reverse.toArray.size ≤ sizeLine
    simpa using hsz
  unfold getItem
  try with_reducible refine wpAny_holding ?_
  first | refine wpAny_bind (wpAny_pure ?_) | skip
  refine wpAny_bind (wpAny_sequenceKey ht.typeIs (by decide) ?_)
  refine wpAny_bind (wpAny_callSpecial?_slot (name := Str.ofString "__getitem__") ht.typeIs PyProof.Rows.slot_tuple_getitem
    (wpAny_call_entry PyProof.Rows.slot_tuple_getitem ht.typeIs entry_tuple_getitem ?_ (args_tuple_getitem _ _)))
  show wpAny _ _ (Builtin.Tuple.tupleItemsOf (.ref t) >>= _) _ _ s
  refine wpAny_bind (tupleItemsOf_ ht ?_)
  refine wpAny_bind (wpAny_typeOf hTs ?_)
  rw [if_pos (by decide)]
  refine wpAny_bind (sliceApplied_rev (n := items.size) hs ?_)
  have hno : ¬ ((((items.size : Nat) : Int) - 1 == 0 && (-1 : Int) == 1 && items.size == items.size) = true) := by
    intro q
    rw [Bool.and_eq_true, Bool.and_eq_true] at q
    exact absurd q.1.2 (by decide)
  show wpAny _ _ (if (((items.size : Nat) : Int) - 1 == 0 && (-1 : Int) == 1 && items.size == items.size) = true then _ else _) _ _ s
  rw [if_neg hno, pick_rev]
  first
    | exact wpAny_bind (m := Builtin.Tuple.tupleExact _) (wpAny_newObj_type (wpAny_pure ⟨_, rfl, wpAny_pure h⟩) hz)
    | exact wpAny_bind (m := Builtin.Tuple.tupleExact _) (wpAny_newObj_type (wpAny_bind (wpAny_pure (wpAny_pure ⟨_, rfl, wpAny_pure h⟩))) hz)
    | exact wpAny_bind (wpAny_bind (m := Builtin.Tuple.tupleExact _) (wpAny_newObj_type (wpAny_pure (wpAny_pure ⟨_, rfl, wpAny_pure h⟩)) hz))
    | exact wpAny_bind (wpAny_bind (m := Builtin.Tuple.tupleExact _) (wpAny_newObj_type (wpAny_pure ⟨_, rfl, wpAny_pure h⟩) hz))
end
end HT
namespace L2
open PySem PySem.Spec PyProof.Rows
/-- t[lo:hi], also the whole (t itself) -/
def rSlTA (K : PySem.W.Frag) : V → Option Int → Option Int → Hp → VK → Prop := fun x lo hi H Q => ∃ a xs, x = .ref a ∧ SqT K H a xs ∧ (cutV xs lo hi = xs → Q (.ref a) H) ∧ ∀ p, H p = none → Q (.ref p) (upd H p (.tup (cutV xs lo hi)))
section
variable {X : Cx} (K : PySem.W.Frag)
theorem slT (h : X.K = K := by rfl) : SlR X (rSlTA K) := by
  subst h
  intro pins s σ H x v vl vu lo hi sl Q I rx hs pl pu h
  obtain ⟨a, xs, rfl, hx, hw, q⟩ := h
  by_cases hc : HT.sIx xs.length 0 lo = 0 ∧ HT.sIx xs.length xs.length hi = xs.length
  · cases rx
    obtain ⟨its, r, ht, hz⟩ := I.tuple hx
    have hlen : its.toArray.size = xs.length := by rw [List.size_toArray]; exact r.length.symm
    refine ⟨"tuple", _, PyProof.Rows.slot_tuple_getitem.lookup, ht.typeIs, ?_⟩
    refine HT.getItem_tuple_whole ht hs pl pu (by rw [hlen]; exact hc) ⟨.ref a, H, I, rfl, hw ?_⟩
    unfold cutV
    rw [hc.1, hc.2]
    simp
  · exact sl_tup pins s σ H (.ref a) v vl vu lo hi sl Q I rx hs pl pu ⟨a, xs, rfl, hx, hc, q⟩
/-- t[::-1] -/
def tRev (K : PySem.W.Frag) (te : TE) : TE := fun σ H Q => te σ H fun x H1 => ∃ a xs, x = .ref a ∧ SqT K H1 a xs ∧ ∀ p, H1 p = none → Q (.ref p) (upd H1 p (.tup xs.reverse))
theorem qe_rev {e : Expr} {te : TE} {pos p2 p3 p4 : Pos} {k : Nat} (he : QE X e te) (h : X.K = K := by rfl) : QE X (.Subscript e (.Slice none none (some (.UnaryOp .USub (.Constant (.int 1) k p4) p3)) p2) pos) (tRev K te) := by
  subst h
  refine ⟨fun pins s σ H Q I h => ?_⟩
  have hst : PE X (.UnaryOp .USub (.Constant (.int 1) k p4) p3) (tUn (rU fun i => .int (-i)) (tC (.int 1))) := pe_un un_neg pe_int
  refine Subscript_ (thn (he.run pins s σ H _ I h) fun v s1 ⟨x, H1, I1, r1, a, xs, ex, hx, q⟩ => ?_)
  subst ex
  cases r1
  refine wpAny_Slice ?_
  rw [evalPart_none]
  refine wpAny_pure (wpAny_pure ?_)
  rw [evalPart_some]
  refine thn (hst pins s1 σ H1 (fun z H2 => z = .int (-1) ∧ H2 = H1) I1 ⟨1, rfl, rfl, rfl⟩) fun u s3 ⟨z, H3, I3, r3, ez, eH⟩ => ?_
  subst ez eH
  obtain ⟨tk, rfl⟩ := r3
  have I4 : Inv X pins σ H3 { s3 with heap := s3.heap.push { cls := .type "slice", data := .fields #[.none, .none, .int (-1) tk] } } := I3.kept (t' := s3.toks) fun b ob q => Heap.get?_push_of_some _ q
  obtain ⟨its, r, ht, hz⟩ := I4.tuple hx
  show wpAny (model X.prog X.w) X.A (subscriptTail e (.Slice none none (some (.UnaryOp .USub (.Constant (.int 1) k p4) p3)) p2) (.ref a) (.ref s3.heap.objs.size)) (EP X pins σ Q) X.xe { s3 with heap := s3.heap.push { cls := .type "slice", data := .fields #[.none, .none, .int (-1) tk] } }
  refine tail_any (ops := [.ref a, .ref s3.heap.objs.size]) ht.typeIs PyProof.Rows.slot_tuple_getitem.lookup (HT.getItem_tuple_rev ht (Heap.IsSliceOf.new ..) ?_ (by rw [List.size_toArray, ← r.length]; exact hz)) (by with_unfolding_all rfl)
  refine ⟨.ref _, _, I4.laid (t' := s3.toks) (o := .tup xs.reverse) (fun b ob q => Heap.get?_push_of_some _ q) (Nat.le_refl _) ?_, rfl, q _ (I4.hok.fresh (Nat.le_refl _))⟩
  exact ⟨by rw [List.length_reverse]; exact hz, _, by simpa using r.reverse, TupN.new _ _⟩
end
/-- t + u, any -/
def rCatA (K : PySem.W.Frag) : R2 := fun x y H Q => ∃ a b xs ys, x = .ref a ∧ y = .ref b ∧ SqT K H a xs ∧ SqT K H b ys ∧ xs.length + ys.length ≤ sizeLine ∧ (xs = [] → Q (.ref b) H) ∧ (ys = [] → Q (.ref a) H) ∧ ∀ p, H p = none → Q (.ref p) (upd H p (.tup (xs ++ ys)))
theorem catT {X : Cx} (K : PySem.W.Frag) (h : X.K = K := by rfl) : OpR X (binaryOp .Add) (rCatA K) := by
  subst h
  intro pins s σ H x y v u Q I rx ry h
  obtain ⟨a, b, xs, ys, rfl, rfl, ha, hb, hz, q0, q1, q2⟩ := h
  by_cases hx : xs = []
  · cases rx
    cases ry
    obtain ⟨its, r1, p1, _⟩ := I.tuple ha
    obtain ⟨its2, r2, p2, _⟩ := I.tuple hb
    have hi : its = [] := r1.nil_iff.mpr hx
    obtain ⟨⟨cls, dd, data, sl⟩, ho, hc, n, hd⟩ := id p1
    obtain ⟨⟨cls2, dd2, data2, sl2⟩, ho2, hc2, n2, hd2⟩ := id p2
    simp only at hc hd hc2 hd2
    subst hc hd hc2 hd2
    exact concat_meets ⟨_, ho, rfl⟩ ⟨_, ho2, rfl⟩ noFill_tuple_add seq_tuple_add PySem.F.slot_tuple_add PySem.F.entry_tuple_add (PySem.F.args_tuple_add_2 _ _)
      (tuple_addW0 a b its.toArray its2.toArray n n2 dd dd2 sl sl2 (by simp [hi])) ⟨ho, ho2, ⟨.ref b, H, I, rfl, q0 hx⟩⟩
  · exact op_catT pins s σ H _ _ v u Q I rx ry ⟨a, b, xs, ys, rfl, rfl, ha, hb, hx, hz, q1, fun _ => q2⟩
end L2

set_option Elab.async false
set_option linter.all false
set_option maxRecDepth 100000
/-! min and max of a tuple of two ints. -/
namespace L2
open PySem PySem.Spec PyProof.Rows
section
variable {X : Cx}
end
end L2

set_option Elab.async false
set_option linter.all false
set_option maxRecDepth 100000
/-! Displays of plain data read at once; all(..) of a list of truths; a tuple times a number. -/
namespace PySem
open Sem (wp)
end PySem
namespace L2
open PySem PySem.Spec PyProof.Rows
section
variable {X : Cx}
theorem QE.weaken {e : Expr} {t t' : TE} (h : QE X e t) (w : ∀ σ H Q, t' σ H Q → t σ H Q) : QE X e t' := ⟨fun pins s σ H Q I q => h.run pins s σ H Q I (w σ H Q q)⟩
theorem QA.weaken {es : List Expr} {t t' : TA} (h : QA X es t) (w : ∀ σ H Q, t' σ H Q → t σ H Q) : QA X es t' := ⟨fun pos pins s σ H Q I q => h.run pos pins s σ H Q I (w σ H Q q), h.ns⟩
end
/-- what a display asks: the data of the names in it (ints in slots ui, any in slots us) -/
def Has (us ui : List Nat) (S : List Addr) (ρ : Nat → PyData) (ι : Nat → Int) (σ : St) (H : Hp) : Prop :=
  (∀ b ∈ S, H b ≠ none) ∧ (∀ i ∈ us, ∃ v, σ[i]? = some (some v) ∧ Rep S H (ρ i) v) ∧ (∀ i ∈ ui, σ[i]? = some (some (.int (ι i))))
theorem Has.ext {us ui : List Nat} {S : List Addr} {ρ : Nat → PyData} {ι : Nat → Int} {σ : St} {H H' : Hp} (h : Has us ui S ρ ι σ H) (x : Ext [] H H') : Has us ui S ρ ι σ H' := by
  refine ⟨fun b hb => ?_, fun i hi => ?_, h.2.2⟩
  · have := h.1 b hb
    cases e : H b with
    | none => exact absurd e this
    | some o => rw [x.keep b o (by simp) e]; simp
  · obtain ⟨v, e, r⟩ := h.2.1 i hi
    exact ⟨v, e, r.ext (x.mono (by simp))⟩
abbrev DD := (Nat → PyData) → (Nat → Int) → PyData
def tDat (us ui : List Nat) (d : DD) : TE := fun σ H Q => ∃ S ρ ι, Has us ui S ρ ι σ H ∧ ∀ v H', Ext [] H H' → Rep S H' (d ρ ι) v → Q v H'
def tDats (us ui : List Nat) (d : (Nat → PyData) → (Nat → Int) → List PyData) : TA := fun σ H Q => ∃ S ρ ι, Has us ui S ρ ι σ H ∧ ∀ v H', Ext [] H H' → Reps S H' (d ρ ι) v → Q v H'
section
variable {X : Cx} {us ui : List Nat} {a b e : Expr} {es : List Expr} {pos : Pos}
theorem qd_of {v : V} {d : PyData} (h : QE X e (tC v)) (r : ∀ S H, Rep S H d v) : QE X e (tDat us ui fun _ _ => d) := h.weaken fun σ H Q ⟨S, ρ, ι, hh, k⟩ => k v H (.refl _ _) (r S H)
theorem qd_int {i : Int} {j pos} : QE X (.Constant (.int i) j pos) (tDat us ui fun _ _ => .int i) := qd_of qe_int fun _ _ => .int i
theorem qd_non {j pos} : QE X (.Constant .none j pos) (tDat us ui fun _ _ => .none) := qd_of qe_non fun _ _ => .non
theorem qd_str {x j pos} : QE X (.Constant (.str x) j pos) (tDat us ui fun _ _ => .str x) := qd_of qe_str fun _ _ => .str x
theorem qds_nil : QA X [] (tDats us ui fun _ _ => []) := qa_nil.weaken fun σ H Q ⟨S, ρ, ι, hh, k⟩ => k [] H (.refl _ _) .nil
theorem qds_c {d : DD} {ds : (Nat → PyData) → (Nat → Int) → List PyData} (ha : QE X e (tDat us ui d)) (hr : QA X es (tDats us ui ds)) (hs : notStar e = true := by rfl) : QA X (e :: es) (tDats us ui fun ρ ι => d ρ ι :: ds ρ ι) :=
  (qa_c ha hr hs).weaken fun σ H Q ⟨S, ρ, ι, hh, k⟩ => ⟨S, ρ, ι, hh, fun v H' x r => ⟨S, ρ, ι, hh.ext x, fun v2 H2 x2 r2 => k _ H2 (x.trans x2) (.cons (r.ext (x2.mono (by simp))) r2)⟩⟩
theorem qd_tup {x1 : Nat} {ds : (Nat → PyData) → (Nat → Int) → List PyData} (h : QA X es (tDats us ui ds)) (hl : ∀ ρ ι, (ds ρ ι).length = es.length := by intro _ _; rfl) (hn : es.length ≤ sizeLine := by decide) : QE X (.Tuple es x1 pos) (tDat us ui fun ρ ι => .tuple (ds ρ ι)) :=
  (qe_tup h).weaken fun σ H Q ⟨S, ρ, ι, hh, k⟩ => ⟨S, ρ, ι, hh, fun v H' x r => ⟨by rw [r.length, hl]; exact hn, fun p hp => k _ _ (x.trans (.new hp)) (.tup upd_same (r.ext (.new hp)))⟩⟩
theorem qd_lst {ds : (Nat → PyData) → (Nat → Int) → List PyData} (h : QA X es (tDats us ui ds)) (hl : ∀ ρ ι, (ds ρ ι).length = es.length := by intro _ _; rfl) (hn : es.length ≤ sizeLine := by decide) : QE X (.List es pos) (tDat us ui fun ρ ι => .list (ds ρ ι)) :=
  (qe_lst h).weaken fun σ H Q ⟨S, ρ, ι, hh, k⟩ => ⟨S, ρ, ι, hh, fun v H' x r => ⟨by rw [r.length, hl]; exact hn, fun p hp => k _ _ (x.trans (.new hp)) (.lst upd_same (fun z => (hh.ext x).1 p z hp) (r.ext (.new hp)))⟩⟩
theorem Vals.at' {xs : List V} {us : List Value} {i : Nat} {u : Value} (r : Vals xs us) (h : us[i]? = some u) : ∃ x, xs[i]? = some x ∧ RelV x u := by
  have hi : i < us.length := (List.getElem?_eq_some_iff.mp h).1
  have hi' : i < xs.length := by rw [r.length]; exact hi
  have e : xs[i]? = some xs[i] := by simp [hi']
  obtain ⟨w, hw, rw'⟩ := r.get e
  rw [h] at hw
  cases hw
  exact ⟨_, e, rw'⟩
end
end L2

set_option Elab.async false
set_option linter.all false
set_option maxRecDepth 100000
namespace L2
open PySem PySem.Spec PyProof.Rows

/-! ### lists of pairs as tables -/
section
variable {κ : Type} [DecidableEq κ]
def valV (kvs : List (κ × V)) (k : κ) : Option V := (kvs.find? fun kv => decide (kv.1 = k)).map (·.2)
/-- in its place, or at the end -/
def putK (kvs : List (κ × V)) (k : κ) (v : V) : List (κ × V) :=
  if (kvs.any fun kv => decide (kv.1 = k)) = true then kvs.map (fun kv => if kv.1 = k then (kv.1, v) else kv) else kvs ++ [(k, v)]
def dropK (kvs : List (κ × V)) (k : κ) : List (κ × V) := kvs.filter fun kv => decide (kv.1 ≠ k)

theorem valV_pos {p : κ × V} {r : List (κ × V)} {k : κ} (e : p.1 = k) : valV (p :: r) k = some p.2 := by simp [valV, List.find?_cons, e]
theorem valV_neg {p : κ × V} {r : List (κ × V)} {k : κ} (e : ¬ p.1 = k) : valV (p :: r) k = valV r k := by simp [valV, List.find?_cons, e]
theorem valV_any (k : κ) : ∀ kvs : List (κ × V), (kvs.any fun kv => decide (kv.1 = k)) = (valV kvs k).isSome
  | [] => rfl
  | p :: r => by
    rw [List.any_cons]
    by_cases e : p.1 = k
    · simp only [valV_pos e, decide_eq_true e, Bool.true_or, Option.isSome_some]
    · rw [valV_neg e, decide_eq_false e, Bool.false_or]; exact valV_any k r
theorem RelO.isSome_eq {o : Option V} {u : Option Value} (r : RelO o u) : o.isSome = u.isSome := by
  cases o with
  | none => cases u with
    | none => rfl
    | some _ => exact (show False from r).elim
  | some _ => cases u with
    | none => exact (show False from r).elim
    | some _ => rfl
theorem RelO.getD {o : Option V} {u : Option Value} {d : V} {d' : Value} (r : RelO o u) (rd : RelV d d') : RelV (o.getD d) (u.getD d') := by
  cases o with
  | none => cases u with
    | none => exact rd
    | some _ => exact (show False from r).elim
  | some _ => cases u with
    | none => exact (show False from r).elim
    | some _ => exact r

/-- raw tables of the same keys -/
theorem KV.val {kvs : List (κ × V)} {vs : List (κ × Value)} (r : KV kvs vs) (k : κ) : RelO (valV kvs k) (valueAt vs k) := by
  unfold KV at r
  induction r with
  | nil => exact True.intro
  | @cons p q ps qs h t ih =>
    obtain ⟨h1, h2⟩ := h
    by_cases e : p.1 = k
    · have e' : q.1 = k := h1.symm.trans e
      have b : valueAt (q :: qs) k = some q.2 := by simp [valueAt, List.find?_cons, e']
      rw [valV_pos e, b]; exact h2
    · have e' : ¬ q.1 = k := fun z => e (h1.trans z)
      have b : valueAt (q :: qs) k = valueAt qs k := by simp [valueAt, List.find?_cons, e']
      rw [valV_neg e, b]; exact ih
theorem KV.any {kvs : List (κ × V)} {vs : List (κ × Value)} (r : KV kvs vs) (k : κ) : (kvs.any fun kv => decide (kv.1 = k)) = vs.any fun kv => decide (kv.1 = k) := by
  unfold KV at r
  induction r with
  | nil => rfl
  | cons h t ih => rw [List.any_cons, List.any_cons, ih, h.1]
theorem KV.repl {kvs : List (κ × V)} {vs : List (κ × Value)} (r : KV kvs vs) (k : κ) {y : V} {u : Value} (ry : RelV y u) :
    KV (kvs.map fun kv => if kv.1 = k then (kv.1, y) else kv) (vs.map fun kv => if kv.1 = k then (kv.1, u) else kv) := by
  unfold KV at r ⊢
  induction r with
  | nil => exact .nil
  | @cons p q ps qs h t ih =>
    rw [List.map_cons, List.map_cons]
    refine .cons ?_ ih
    obtain ⟨h1, h2⟩ := h
    by_cases e : p.1 = k
    · rw [if_pos e, if_pos (h1.symm.trans e)]; exact ⟨h1, ry⟩
    · rw [if_neg e, if_neg (fun z => e (h1.trans z))]; exact ⟨h1, h2⟩
theorem KV.put {kvs : List (κ × V)} {vs : List (κ × Value)} (r : KV kvs vs) (k : κ) {y : V} {u : Value} (ry : RelV y u) : KV (putK kvs k y) (stored vs k u) := by
  unfold putK stored
  rw [r.any k]
  by_cases e : (vs.any fun kv => decide (kv.1 = k)) = true
  · rw [if_pos e, if_pos e]; exact r.repl k ry
  · rw [if_neg e, if_neg e]; exact Paired.snoc r ⟨rfl, ry⟩
theorem KV.drop {kvs : List (κ × V)} {vs : List (κ × Value)} (r : KV kvs vs) (k : κ) : KV (dropK kvs k) (without vs k) := by
  unfold KV at r ⊢
  unfold dropK without
  induction r with
  | nil => exact .nil
  | @cons p q ps qs h t ih =>
    obtain ⟨h1, h2⟩ := h
    rw [List.filter_cons, List.filter_cons]
    by_cases e : p.1 = k
    · have a : ¬ decide (p.1 ≠ k) = true := by simp [e]
      have b : ¬ decide (q.1 ≠ k) = true := by simp [h1.symm.trans e]
      rw [if_neg a, if_neg b]; exact ih
    · have e' : ¬ q.1 = k := fun z => e (h1.trans z)
      have a : decide (p.1 ≠ k) = true := by simp [e]
      have b : decide (q.1 ≠ k) = true := by simp [e']
      rw [if_pos a, if_pos b]; exact .cons ⟨h1, h2⟩ ih
theorem KV.keys {kvs : List (κ × V)} {vs : List (κ × Value)} (r : KV kvs vs) : kvs.map (·.1) = vs.map (·.1) := by
  unfold KV at r
  induction r with
  | nil => rfl
  | cons h t ih => rw [List.map_cons, List.map_cons, ih, h.1]
theorem KV.length {kvs : List (κ × V)} {vs : List (κ × Value)} (r : KV kvs vs) : kvs.length = vs.length := Paired.length r
end


/-! ### a tracked dict, its keys ints and texts or tuples of these -/
/-- raw entries of a dict with tuple keys -/
abbrev KT (H : Hp) : List (List Key × V) → List (List Key × Addr × Value) → Prop := Paired fun p q => p.1 = q.1 ∧ H q.2.1 = some (.tup (p.1.map kV)) ∧ RelV p.2 q.2.2
theorem KT.val {H : Hp} {kvs : List (List Key × V)} {xs : List (List Key × Addr × Value)} (r : KT H kvs xs) (k : List Key) : RelO (valV kvs k) ((atKey xs k).map (·.2)) := by
  induction r with
  | nil => exact True.intro
  | @cons p q ps qs h t ih =>
    obtain ⟨h1, _, h2⟩ := h
    by_cases e : p.1 = k
    · have e' : q.1 = k := h1.symm.trans e
      have b : atKey (q :: qs) k = some q.2 := by simp [atKey, List.find?_cons, e']
      rw [valV_pos e, b]; exact h2
    · have e' : ¬ q.1 = k := fun z => e (h1.trans z)
      have b : atKey (q :: qs) k = atKey qs k := by simp [atKey, List.find?_cons, e']
      rw [valV_neg e, b]; exact ih
theorem KT.repl {H : Hp} {kvs : List (List Key × V)} {xs : List (List Key × Addr × Value)} (r : KT H kvs xs) (k : List Key) {y : V} {u : Value} (ry : RelV y u) :
    KT H (kvs.map fun kv => if kv.1 = k then (kv.1, y) else kv) (xs.map (putAt k u)) := by
  induction r with
  | nil => exact .nil
  | @cons p q ps qs h t ih =>
    rw [List.map_cons, List.map_cons]
    refine .cons ?_ ih
    obtain ⟨h1, h2, h3⟩ := h
    unfold putAt
    by_cases e : p.1 = k
    · rw [if_pos e, if_pos (h1.symm.trans e)]; exact ⟨h1, h2, ry⟩
    · rw [if_neg e, if_neg (fun z => e (h1.trans z))]; exact ⟨h1, h2, h3⟩
theorem KT.put {H : Hp} {kvs : List (List Key × V)} {xs : List (List Key × Addr × Value)} (r : KT H kvs xs) (k : List Key) {b : Addr} {y : V} {u : Value} (hb : H b = some (.tup (k.map kV))) (ry : RelV y u) :
    KT H (putK kvs k y) (storedH xs k b u) := by
  have e : (kvs.any fun kv => decide (kv.1 = k)) = (atKey xs k).isSome := by
    rw [valV_any, (r.val k).isSome_eq, Option.isSome_map]
  unfold putK storedH
  rw [e]
  by_cases q : (atKey xs k).isSome = true
  · rw [if_pos q, if_pos q]; exact r.repl k ry
  · rw [if_neg q, if_neg q]; exact Paired.snoc r ⟨rfl, hb, ry⟩
theorem KT.keeps {H H' : Hp} {kvs : List (List Key × V)} {xs : List (List Key × Addr × Value)} (r : KT H kvs xs) (ht : ∀ b ys, H b = some (.tup ys) → H' b = some (.tup ys)) : KT H' kvs xs :=
  Paired.mapP r fun _ _ z => ⟨z.1, ht _ _ z.2.1, z.2.2⟩

section
variable {P : Program} {w : World} {H : Hp} {h : Heap} {a : Addr}
end

/-- what the dict at a holds at the key y -/
def DGet (H : Hp) (a : Addr) (y : V) (r : Option V) : Prop :=
  (∃ kvs k, Rd H a (.dK kvs) ∧ y = kV k ∧ r = valV kvs k) ∨ ∃ kvs k b, Rd H a (.dT kvs) ∧ y = .ref b ∧ H b = some (.tup (k.map kV)) ∧ r = valV kvs k
/-- the heap behind a[y] = v -/
def DPut (H : Hp) (a : Addr) (y v : V) (H' : Hp) : Prop :=
  (∃ kvs k, H a = some (.dK kvs) ∧ y = kV k ∧ kvs.length < sizeLine ∧ H' = upd H a (.dK (putK kvs k v))) ∨
  ∃ kvs k b, H a = some (.dT kvs) ∧ y = .ref b ∧ H b = some (.tup (k.map kV)) ∧ kvs.length < sizeLine ∧ H' = upd H a (.dT (putK kvs k v))
theorem DGet.k {H : Hp} {a : Addr} {kvs : List (Key × V)} {k : Key} (e : H a = some (.dK kvs)) : DGet H a (kV k) (valV kvs k) := .inl ⟨kvs, k, .inl e, rfl, rfl⟩
theorem DGet.t {H : Hp} {a b : Addr} {kvs : List (List Key × V)} {k : List Key} (e : H a = some (.dT kvs)) (eb : H b = some (.tup (k.map kV))) : DGet H a (.ref b) (valV kvs k) := .inr ⟨kvs, k, b, .inl e, rfl, eb, rfl⟩
theorem DPut.k {H : Hp} {a : Addr} {kvs : List (Key × V)} {k : Key} {v : V} (e : H a = some (.dK kvs)) (hl : kvs.length < sizeLine) : DPut H a (kV k) v (upd H a (.dK (putK kvs k v))) := .inl ⟨kvs, k, e, rfl, hl, rfl⟩
theorem DPut.t {H : Hp} {a b : Addr} {kvs : List (List Key × V)} {k : List Key} {v : V} (e : H a = some (.dT kvs)) (eb : H b = some (.tup (k.map kV))) (hl : kvs.length < sizeLine) :
    DPut H a (.ref b) v (upd H a (.dT (putK kvs k v))) := .inr ⟨kvs, k, b, e, rfl, eb, hl, rfl⟩


section
variable {X : Cx} {pins : List (Addr × Obj)} {σ : St} {H : Hp} {s : Shared} {a : Addr} {y v : V} {u r : Value} {o : Option V} {A : Around} {E : Value → Shared → Prop}

end

section
variable {X : Cx} {pins : List (Addr × Obj)} {σ : St} {H : Hp} {s : Shared} {a : Addr} {kvs : List (Key × V)} {k : Key} {u : Value} {A : Around} {E : Value → Shared → Prop}
end


/-! ### readings and rules -/
section
variable {X : Cx} {o i e value : Expr} {pos pos' tpos : Pos} {td ty tv : TE}
end


/-! ### displays -/
section
variable {X : Cx} {pos : Pos}
end

/-! ### methods -/
/-- a method call o.m(e) of a built-in, with one argument: what must be seen of the text -/
structure M1 (X : Cx) (o : Expr) (m : Str) (apos : Pos) (e : Expr) (cpos : Pos) : Prop where
  base : attributeBase o m X.env (eval o X.env) = eval o X.env
  few : ((backTo cpos (starEach [e] X.env)).all (fun x => !x.1) && (backToKw cpos (keywordEach [] X.env)).all (fun x => x.1.isSome)
    && decide (([e] : List Expr).length + ([] : List Keyword).length + (if ([] : List Keyword).isEmpty then 0 else 1) < 30)) = true
  line : (apos.endLine == cpos.line) = true
  trees : backTo cpos (starEach [e] X.env) = [(false, eval e X.env)]
structure M2 (X : Cx) (o : Expr) (m : Str) (apos : Pos) (e f : Expr) (cpos : Pos) : Prop where
  base : attributeBase o m X.env (eval o X.env) = eval o X.env
  few : ((backTo cpos (starEach [e, f] X.env)).all (fun x => !x.1) && (backToKw cpos (keywordEach [] X.env)).all (fun x => x.1.isSome)
    && decide (([e, f] : List Expr).length + ([] : List Keyword).length + (if ([] : List Keyword).isEmpty then 0 else 1) < 30)) = true
  line : (apos.endLine == cpos.line) = true
  trees : backTo cpos (starEach [e, f] X.env) = [(false, eval e X.env), (false, eval f X.env)]

section
variable {X : Cx} {pins : List (Addr × Obj)} {σ : St} {H : Hp} {s : Shared} {a : Addr} {y d : V} {u r : Value} {o : Option V} {A : Around} {E : Value → Shared → Prop}
end

section
variable {X : Cx} {o e f : Expr} {apos cpos : Pos} {td ty tx : TE}
end

/-! ### dict(d): a copy -/
section
variable {X : Cx} {pins : List (Addr × Obj)} {σ : St} {H : Hp} {s : Shared} {a : Addr} {kvs : List (Key × V)} {A : Around} {E : Value → Shared → Prop}
end


section
variable {X : Cx} {pins : List (Addr × Obj)} {σ : St} {H : Hp} {s : Shared} {a : Addr} {y : V} {u : Value} {A : Around} {E : Value → Shared → Prop}
end
end L2

namespace L2
open PySem PySem.Spec PyProof.Rows
/-! ### a dict's pairs: keys that differ -/
section
variable {κ : Type} [DecidableEq κ]
end
end L2

set_option Elab.async false
set_option linter.all false
set_option maxRecDepth 100000
/-! Dicts over the quick judgements; sum, sorted; xs[i] += n; extend by a tuple. -/
namespace PySem
open Sem (wp)
open AutoSeq1 (wpAny_loadPart')
end PySem
namespace L2
open PySem PySem.Spec PyProof.Rows
section
variable {X : Cx} {o i e f value : Expr} {td ty tv tx to ti te : TE} {pos pos' apos cpos : Pos}
end
end L2

set_option Elab.async false
set_option linter.all false
set_option maxRecDepth 100000
/-! A dict that is walked: in a loop, a comprehension; sorted(d). -/
namespace L2
open PySem PySem.Spec PyProof.Rows
section
variable {X : Cx} {tg : Expr}
end
end L2

set_option Elab.async false
set_option linter.all false
set_option maxRecDepth 100000
/-! sorted(d): a dict's keys gathered and sorted. -/
namespace PySem
open Sem (wp)
section
variable {prog : Program} {w : World} {A : Around} {E : Value → Shared → Prop} {s : Shared} {κ : Type} [DecidableEq κ] {knd : KeyKind prog w κ}
end
end PySem
namespace L2
open PySem PySem.Spec PyProof.Rows
section
variable {X : Cx}
end
end L2

set_option Elab.async false
set_option linter.all false
set_option maxRecDepth 100000
/-! enumerate(t) of a tuple, its pairs unpacked. -/
namespace PySem
open Sem (wp)
open AutoSeq1 (wpAny_loadPart')
section
variable {prog : Program} {w : World} {A : Around} {E : Value → Shared → Prop} {s : Shared}
/-- the tuple's own iterator, asked by another one -/
theorem nextT_item {it t : Addr} {i : Nat} {xs : Array Value} {x : Value} {Q : Value → Shared → Prop} (hi : s.heap.IsTupleIter it t i) (ht : s.heap.IsTuple t xs) (hx : xs[i]? = some x)
    (q : ∀ h', h'.IsTupleIter it t (i + 1) → Heap.SameBut it s.heap h' → Q x { s with heap := h' }) : wpAny (model prog w) A (Builtin.SmallTypes.nextOf (.ref it)) Q E s := by
  obtain ⟨ob, e1, c1, d1⟩ := id hi
  obtain ⟨ot, e2, _, n2, d2⟩ := ht
  have nn : ¬ ((Value.ref t == Value.none) = true) := Bool.false_ne_true
  unfold Builtin.SmallTypes.nextOf
  refine wpAny_bind (wpAny_callSpecial?_slot (name := Str.ofString "__next__") hi.typeIs F.slot_tuple_iterator_next (wpAny_call_entry F.slot_tuple_iterator_next hi.typeIs F.entry_tuple_iterator_next ?_ (F.args_tuple_iterator_next_1 _)))
  show wpAny _ _ (field (.ref it) 0 >>= _) _ _ _
  refine wpAny_bind (wpAny_field e1 d1 (x := .ref t) rfl ?_)
  show wpAny _ _ (if (Value.ref t == Value.none) = true then _ else _) _ _ _
  rw [if_neg nn]
  show wpAny _ _ (field (.ref it) 1 >>= _) _ _ _
  refine wpAny_bind (wpAny_field e1 d1 (x := .int i 0) rfl (wpAny_bind (wpAny_seqItems e2 d2 ?_)))
  simp only [Int.toNat_natCast, hx]
  refine wpAny_bind (wpAny_setField e1 d1 (by simp) (wpAny_pure ⟨x, rfl, wpAny_pure (q _ ?_ (Heap.SameBut.update ..))⟩))
  refine ⟨_, Heap.get?_update_self _ e1 (Obj.isFreed_of_fields (Obj.data_mapFields d1 _)), (Obj.cls_mapFields ..).trans c1, ?_⟩
  rw [Obj.data_mapFields d1]
  simp [rawInt]
theorem nextT_end {it t : Addr} {i : Nat} {xs : Array Value} {Q : Value → Shared → Prop} (hh : A.handled = none) (hi : s.heap.IsTupleIter it t i) (ht : s.heap.IsTuple t xs) (hx : xs[i]? = none)
    (q : ∀ h' e, Heap.ExtBut it s.heap h' → (∃ o, h'.get? e = some o ∧ o.cls = .type "StopIteration") → E (.ref e) { s with heap := h' }) : wpAny (model prog w) A (Builtin.SmallTypes.nextOf (.ref it)) Q E s := by
  obtain ⟨ob, e1, c1, d1⟩ := id hi
  obtain ⟨ot, e2, _, n2, d2⟩ := ht
  have nn : ¬ ((Value.ref t == Value.none) = true) := Bool.false_ne_true
  unfold Builtin.SmallTypes.nextOf
  refine wpAny_bind (wpAny_callSpecial?_slot (name := Str.ofString "__next__") hi.typeIs F.slot_tuple_iterator_next (wpAny_call_entry F.slot_tuple_iterator_next hi.typeIs F.entry_tuple_iterator_next ?_ (F.args_tuple_iterator_next_1 _)))
  show wpAny _ _ (field (.ref it) 0 >>= _) _ _ _
  refine wpAny_bind (wpAny_field e1 d1 (x := .ref t) rfl ?_)
  show wpAny _ _ (if (Value.ref t == Value.none) = true then _ else _) _ _ _
  rw [if_neg nn]
  show wpAny _ _ (field (.ref it) 1 >>= _) _ _ _
  refine wpAny_bind (wpAny_field e1 d1 (x := .int i 0) rfl (wpAny_bind (wpAny_seqItems e2 d2 ?_)))
  simp only [Int.toNat_natCast, hx]
  refine wpAny_bind (wpAny_rule (wpAny_bind (wpAny_setField e1 d1 (by simp) (wpAny_bind ?_))))
  simp only [newExc, newTuple]
  refine wpAny_bind (wpAny_newObj_type (wpAny_bind (m := firstArgMember _ _) (wpAny_of_eq (a := Value.none) (by first | rfl | (simp only [firstArgMember]; rfl)) (wpAny_newObj_type ?_ (by size_fits)))) (by size_fits))
  simp only [raiseNew]
  refine wpAny_bind (wpAny_handled ?_)
  first | rw [show A.in1.handled = none from hh] | rw [hh]
  exact wpAny_bind (wpAny_pure (wpAny_throw (q _ _ (((Heap.SameBut.update ..).extBut.push _).push _) ⟨_, Heap.get?_push_size _ rfl, rfl⟩)))
theorem enumT_next {e it t : Addr} {i : Nat} {xs : Array Value} {x old : Value} {Q : Value → Shared → Prop} (he : IsEnum s.heap e it i old) (hi : s.heap.IsTupleIter it t i) (ht : s.heap.IsTuple t xs) (hx : xs[i]? = some x) (hne : e ≠ it)
    (q : ∀ h', IsEnumOut h' e it ((i : Int) + 1) x s.heap.objs.size → h'.IsTupleIter it t (i + 1) → h'.get? s.heap.objs.size = some { cls := .type "tuple", data := .seq #[.int i s.toks, x] } →
      (∀ b o, b ≠ e → b ≠ it → s.heap.get? b = some o → h'.get? b = some o) → Q (.ref s.heap.objs.size) { s with heap := h', toks := s.toks + 1 }) :
    wpAny (model prog w) A (Builtin.«enumerate.__next__» ⟨[.ref e], []⟩) (fun fin s' => ∃ v, fin = .done (.ret v) ∧ Q v s') E s := by
  obtain ⟨hp, g, d, tk, os⟩ := s
  show wpAny _ _ (field (.ref e) 2 >>= _) _ _ _
  refine wpAny_bind (wpAny_field he rfl (x := .ref it) rfl (wpAny_bind (nextT_item hi ht hx fun k1 i1 (b1 : Heap.SameBut it hp k1) => ?_)))
  have e1 : IsEnum k1 e it i old := (b1.2 e hne).trans he
  refine wpAny_bind (wpAny_field e1 rfl (x := rawInt i) rfl (wpAny_bind (wpAny_field e1 rfl (x := .none) rfl ?_)))
  show wpAny _ _ (mkInt i >>= _) _ _ ⟨k1, g, d, tk, os⟩
  refine wpAny_bind (wpAny_mkInt (wpAny_bind (wpAny_setField_rec (x := rawInt ((i : Int) + 1)) e1 (by simp) fun k2 e2 b2 => ?_)))
  replace b2 : Heap.SameBut e k1 k2 := b2
  replace e2 : IsEnum k2 e it ((i : Int) + 1) old := e2
  refine wpAny_bind (wpAny_setField_rec (x := .none) e2 (by simp) fun k3 e3 b3 => ?_)
  replace b3 : Heap.SameBut e k2 k3 := b3
  replace e3 : IsEnum k3 e it ((i : Int) + 1) old := e3
  show wpAny _ _ (newTuple [.int i tk, x] >>= _) _ _ ⟨k3, g, d, tk + 1, os⟩
  refine wpAny_bind (wpAny_newTuple ?_)
  have sz : k3.objs.size = hp.objs.size := by rw [b3.1, b2.1, b1.1]
  have el : hp.objs.size ≠ e := Nat.ne_of_gt (Heap.lt_size he)
  have e4 : IsEnum (k3.push { cls := .type "tuple", data := .seq #[.int i tk, x] }) e it ((i : Int) + 1) old := Heap.get?_push_of_some _ e3
  have t4 : (k3.push { cls := .type "tuple", data := .seq #[.int i tk, x] }).get? hp.objs.size = some { cls := .type "tuple", data := .seq #[.int i tk, x] } := by rw [← sz]; exact Heap.get?_push_size _ rfl
  have old4 : ∀ b o, b ≠ e → b ≠ it → hp.get? b = some o → (k3.push { cls := .type "tuple", data := .seq #[.int i tk, x] }).get? b = some o := fun b o h1 h2 h3 => Heap.get?_push_of_some _ (b3.extBut b o h1 (b2.extBut b o h1 (b1.extBut b o h2 h3)))
  have i4 : (k3.push { cls := .type "tuple", data := .seq #[.int i tk, x] }).IsTupleIter it t (i + 1) := by
    obtain ⟨o, ho, r⟩ := i1
    exact ⟨o, Heap.get?_push_of_some _ (b3.extBut it o (Ne.symm hne) (b2.extBut it o (Ne.symm hne) ho)), r⟩
  rw [sz]
  generalize k3.push { cls := .type "tuple", data := .seq #[.int i tk, x] } = k4 at e4 t4 old4 i4 ⊢
  show wpAny _ _ (Builtin.SmallTypes.ownedTupleIsFree (.ref e) >>= _) _ _ ⟨k4, g, d, tk + 1, os⟩
  refine wpAny_bind ?_
  unfold Builtin.SmallTypes.ownedTupleIsFree
  refine wpAny_bind (wpAny_field e4 rfl (x := .none) rfl (wpAny_pure ?_))
  simp only [if_true]
  refine wpAny_bind (wpAny_rule (wpAny_bind (wpAny_field e4 rfl (x := old) rfl (wpAny_bind (wpAny_setField_rec (x := x) e4 (by simp) fun k5 e5 b5 => ?_)))))
  replace b5 : Heap.SameBut e k4 k5 := b5
  replace e5 : IsEnum k5 e it ((i : Int) + 1) x := e5
  show wpAny _ _ (Builtin.SmallTypes.ownedTupleHandOut (.ref e) (.ref hp.objs.size) >>= _) _ _ ⟨k5, g, d, tk + 1, os⟩
  refine wpAny_bind ?_
  unfold Builtin.SmallTypes.ownedTupleHandOut
  refine wpAny_bind (wpAny_setField_rec (x := rawInt (hp.objs.size : Nat)) e5 (by simp) fun k6 e6 b6 => ?_)
  replace b6 : Heap.SameBut e k5 k6 := b6
  replace e6 : IsEnumOut k6 e it ((i : Int) + 1) x hp.objs.size := e6
  refine wpAny_setField_rec e6 (by simp) fun k7 e7 b7 => ?_
  replace b7 : Heap.SameBut e k6 k7 := b7
  have all7 : ∀ b o, b ≠ e → k4.get? b = some o → k7.get? b = some o := fun b o h1 h2 => b7.extBut b o h1 (b6.extBut b o h1 (b5.extBut b o h1 h2))
  refine wpAny_bind (wpAny_letGo (wpAny_pure ⟨_, rfl, q k7 e7 ?_ (all7 _ _ el t4) fun b o h1 h2 h3 => all7 b o h1 (old4 b o h1 h2 h3)⟩))
  obtain ⟨o, ho, r⟩ := i4
  exact ⟨o, all7 it o (Ne.symm hne) ho, r⟩
theorem pyNext_enumT {e it t : Addr} {i : Nat} {xs : Array Value} {x old : Value} {Q : Option Value → Shared → Prop} (he : IsEnum s.heap e it i old) (hi : s.heap.IsTupleIter it t i) (ht : s.heap.IsTuple t xs) (hx : xs[i]? = some x) (hne : e ≠ it)
    (q : ∀ h', IsEnumOut h' e it ((i : Int) + 1) x s.heap.objs.size → h'.IsTupleIter it t (i + 1) → h'.get? s.heap.objs.size = some { cls := .type "tuple", data := .seq #[.int i s.toks, x] } →
      (∀ b o, b ≠ e → b ≠ it → s.heap.get? b = some o → h'.get? b = some o) → Q (some (.ref s.heap.objs.size)) { s with heap := h', toks := s.toks + 1 }) :
    wpAny (model prog w) A (pyNext (.ref e)) Q E s := by
  have ty : s.TypeIs (.ref e) "enumerate" := ⟨_, he, rfl⟩
  unfold pyNext
  refine wpAny_bind (wpAny_attempt (wpAny_callSpecial?_slot (name := Str.ofString "__next__") ty F.slot_enumerate_next (wpAny_call_entry F.slot_enumerate_next ty F.entry_enumerate_next ?_ (F.args_enumerate_next_1 _))))
  exact enumT_next he hi ht hx hne fun h' a b c k => wpAny_pure (q h' a b c k)
theorem pyNext_enumT_end {e it t : Addr} {i : Nat} {xs : Array Value} {old : Value} {Q : Option Value → Shared → Prop} (hh : A.handled = none) (he : IsEnum s.heap e it i old) (hi : s.heap.IsTupleIter it t i) (ht : s.heap.IsTuple t xs) (hx : xs[i]? = none)
    (q : ∀ h', Heap.ExtBut it s.heap h' → Q none { s with heap := h' }) : wpAny (model prog w) A (pyNext (.ref e)) Q E s := by
  have ty : s.TypeIs (.ref e) "enumerate" := ⟨_, he, rfl⟩
  unfold pyNext
  refine wpAny_bind (wpAny_attempt (wpAny_callSpecial?_slot (name := Str.ofString "__next__") ty F.slot_enumerate_next (wpAny_call_entry F.slot_enumerate_next ty F.entry_enumerate_next ?_ (F.args_enumerate_next_1 _))))
  show wpAny _ _ (field (.ref e) 2 >>= _) _ _ _
  refine wpAny_bind (wpAny_field he rfl (x := .ref it) rfl (wpAny_bind (nextT_end hh hi ht hx fun h' x ex ⟨o, ho, hc⟩ => ?_)))
  exact wpAny_bind (wpAny_isInstance (T := "StopIteration") (b := true) ⟨o, ho, hc⟩ isSubtype_stop (wpAny_pure (q _ ex)))
theorem enum_newT (l : Addr) (items : Array Value) (n : Nat) (dct : Option Addr) (sl : Array (Option Value)) :
    Meets (Builtin.«enumerate.__new__» ⟨[.type "enumerate", .ref l], []⟩) (fun _ R s => s.heap.get? l = some { cls := .type "tuple", dict := dct, data := .seq items n, slots := sl } ∧
      R (.ok (.ret (.ref (s.heap.push { cls := .type "tuple_iterator", data := .fields #[.ref l, .int 0 0] }).objs.size)))
        { s with heap := (s.heap.push { cls := .type "tuple_iterator", data := .fields #[.ref l, .int 0 0] }).push { cls := .type "enumerate", data := .fields #[.none, .bool false, .ref s.heap.objs.size, rawInt 0, .none, .none] } }) :=
  .of_wp fun prog w A R s h => by
    obtain ⟨hp, g, d, tk, os⟩ := s
    obtain ⟨hl, h⟩ := h
    have hsub := sub_enumerate
    have isT : Heap.IsTuple (Shared.heap ⟨hp, g, d, tk, os⟩) l items := ⟨_, hl, rfl, n, rfl⟩
    wp_walk using wpAny_loadPart' hl
    refine wpAny_stack_any fun _ => wpAny_pure ?_
    split
    · rename_i c _ _ _ _ _
      cases (c == Value.type "enumerate") <;> (wp_walk using wpAny_loadPart' hl, wpAny_pyIter_tuple isT; exact ⟨_, rfl, h⟩)
    · wp_walk using wpAny_loadPart' hl, wpAny_pyIter_tuple isT
      exact ⟨_, rfl, h⟩
theorem call_enumT {l : Addr} {items : Array Value} {Q : Value → Shared → Prop} (ht : s.heap.IsTuple l items)
    (q : ∀ h', IsEnum h' (s.heap.objs.size + 1) s.heap.objs.size 0 .none → h'.IsTupleIter s.heap.objs.size l 0 → h'.objs.size = s.heap.objs.size + 2 → (∀ b o, s.heap.get? b = some o → h'.get? b = some o) → Q (.ref (s.heap.objs.size + 1)) { s with heap := h' }) :
    wpAny (model prog w) A (call (.type "enumerate") [.ref l]) Q E s := by
  obtain ⟨⟨c, dct, dt, sl⟩, hl, hc, n, hd⟩ := ht
  replace hc : c = .type "tuple" := hc
  replace hd : dt = .seq items n := hd
  subst hc hd
  refine callType_new F.called_enumerate (by decide) (F.typeCall_enumerate_1 _) (F.newCall_enumerate_1 _) (fun obj => F.args_object_init_2 obj _) F.entry_enumerate_new (enum_newT l items n dct sl) ⟨hl, ?_⟩
  have z1 : (s.heap.push { cls := .type "tuple_iterator", data := .fields #[.ref l, .int 0 0] }).objs.size = s.heap.objs.size + 1 := Heap.size_push ..
  have g1 := Heap.get?_push_size (s.heap.push { cls := .type "tuple_iterator", data := .fields #[.ref l, .int 0 0] }) (o := { cls := .type "enumerate", data := .fields #[.none, .bool false, .ref s.heap.objs.size, rawInt 0, .none, .none] }) rfl
  rw [z1] at g1
  show _ ∧ _
  rw [z1]
  exact ⟨⟨_, g1, rfl⟩, q _ g1 ⟨_, Heap.get?_push_of_some _ (Heap.get?_push_size _ rfl), rfl, rfl⟩ (by rw [Heap.size_push, z1]) fun b o x => Heap.get?_push_of_some _ (Heap.get?_push_of_some _ x)⟩
end
end PySem

set_option Elab.async false
set_option linter.all false
set_option maxRecDepth 100000
namespace L2
open PySem PySem.Spec PyProof.Rows
/-- the pairs of enumerate(the tuple at a) -/
def Ite (K : PySem.W.Frag) (a : Addr) : It :=
  ⟨fun i H => ∃ xs x, SqT K H a xs ∧ xs[i]? = some x, fun i H x H' => ∃ T xi, x = .ref T ∧ H T = none ∧ H' = upd H T (.tup [.int (i : Nat), xi]) ∧ ∀ xs, SqT K H a xs → xs[i]? = some xi, fun i H => ∃ xs, SqT K H a xs ∧ xs.length ≤ i⟩
theorem turn_enumT {P : Program} {w : World} {K : PySem.W.Frag} {elts : List Expr} {k : Nat} {pos : Pos} (a e it : Addr) (hne : e ≠ it) : Turn P w K (.Tuple elts k pos) (Ite K a) [e, it] e (fun i h => (∃ old, IsEnum h e it (i : Nat) old) ∧ h.IsTupleIter it a i) where
  mem := by simp
  obj := fun i h st b hb => by
    obtain ⟨⟨old, he⟩, o, ho, hc, hd⟩ := st
    rcases List.mem_cons.mp hb with z | z
    · subst z
      exact ⟨_, he, fun v z => by cases z⟩
    · have z' : b = it := by simpa using z
      subst z'
      exact ⟨o, ho, fun v z => by rw [hd] at z; cases z⟩
  keep := fun i h h' st kp => by
    obtain ⟨⟨old, he⟩, hi⟩ := st
    exact ⟨⟨old, kp e (by simp) _ he⟩, hi.at fun o q => kp it (by simp) o q⟩
  item := by
    intro X hP hw hK hc i pins s σ H E I hf st hg
    subst hP hw hK
    obtain ⟨⟨old, he⟩, hi⟩ := st
    obtain ⟨xs, x, hq, hx⟩ := hg
    obtain ⟨its, rv, p, hz⟩ := I.tuple hq
    obtain ⟨u, hu, ru⟩ := rv.get hx
    refine pyNext_enumT he hi (show s.heap.IsTuple a its.toArray from p) (x := u) (by simpa using hu) hne fun h1 eo i1 t1 kp => ⟨_, rfl, wpAny_letOwnedTupleGo_enum eo fun h2 en sb => ?_⟩
    have elt : e < s.heap.objs.size := Heap.lt_size he
    have ilt : it < s.heap.objs.size := by obtain ⟨_, q, _⟩ := hi; exact Heap.lt_size q
    have kp2 : ∀ b o, b ≠ e → b ≠ it → s.heap.get? b = some o → h2.get? b = some o := fun b o n1 n2 q => (sb.2 b n1).trans (kp b o n1 n2 q)
    have i2 : h2.IsTupleIter it a (i + 1) := i1.at fun o q => (sb.2 it (Ne.symm hne)).trans q
    have t2 : h2.get? s.heap.objs.size = some { cls := .type "tuple", data := .seq #[.int i s.toks, u] } := (sb.2 _ (Nat.ne_of_gt elt)).trans t1
    obtain ⟨f0, f1, f2, f3, f4, f5⟩ := hf it (by simp)
    obtain ⟨g0, g1, g2, g3, g4, g5⟩ := hf e (by simp)
    obtain ⟨oi, hoi, hci, hdi⟩ := id i2
    obtain ⟨o0, ho0, _⟩ := id hi
    have m1 : (s.heap.update it fun _ => oi).get? it = some oi := Heap.get?_update_self (fun _ => oi) ho0 (Obj.isFreed_of_fields hdi)
    have I1 : Inv X pins σ H { s with heap := s.heap.update it fun _ => oi, toks := s.toks + 1 } := I.turned (fun b o hb q => (Heap.get?_update_other _ _ (Ne.symm hb)).trans q) f0 f1 f3 f4 f5
    have aux : ∀ b o, b ≠ e → (s.heap.update it fun _ => oi).get? b = some o → h2.get? b = some o := fun b o hb q => by
      by_cases hbi : b = it
      · subst hbi
        rw [m1] at q
        cases q
        exact hoi
      · exact kp2 b o hb hbi ((Heap.get?_update_other _ _ (Ne.symm hbi)).symm.trans q)
    have I2 : Inv X pins σ H { s with heap := h2, toks := s.toks + 1 } := Inv.turned (s := { s with heap := s.heap.update it fun _ => oi, toks := s.toks + 1 }) (h' := h2) (t' := s.toks + 1) I1 aux g0 g1 g3 g4 g5
    obtain ⟨p0, p1, p2, p3, p4, p5⟩ := I.fpOk (Nat.le_refl s.heap.objs.size) (I.hok.fresh (Nat.le_refl _))
    have I3 : Inv X pins σ (upd H s.heap.objs.size (.tup [.int (i : Nat), x])) { s with heap := h2, toks := s.toks + 1 } :=
      I2.track (o := .tup [.int (i : Nat), x]) t2 p0 p1 p3 p4 p5 ⟨by show 2 ≤ sizeLine; decide, [.int i s.toks, u], .cons ⟨_, rfl⟩ (.cons ru .nil), ⟨_, t2, rfl, _, rfl, rfl⟩⟩
    refine ⟨.ref s.heap.objs.size, _, I3, rfl, ⟨_, x, rfl, p0, rfl, fun ys hy => by rw [I.tuple_inj hy hq]; exact hx⟩, ⟨⟨u, by simpa using en⟩, i2⟩, fun b hb => ?_⟩
    have hbn : b ≠ s.heap.objs.size := by
      rcases List.mem_cons.mp hb with z | z
      · rw [z]; exact Nat.ne_of_lt elt
      · have z' : b = it := by simpa using z
        rw [z']; exact Nat.ne_of_lt ilt
    rw [upd_ne hbn]
    exact (hf b hb).1
  done := by
    intro X hP hw hK hc i pins s σ H E I hf st hg
    subst hP hw hK
    obtain ⟨⟨old, he⟩, hi⟩ := st
    obtain ⟨xs, hq, hx⟩ := hg
    obtain ⟨its, rv, p, hz⟩ := I.tuple hq
    obtain ⟨f0, f1, f2, f3, f4, f5⟩ := hf it (by simp)
    have hl := rv.length
    exact pyNext_enumT_end (I.ok.hd hc) he hi (show s.heap.IsTuple a its.toArray from p) (by simp; omega) fun h' eb => ⟨rfl, I.turned (t' := s.toks) (fun b o hb q => eb b o hb q) f0 f1 f3 f4 f5⟩
  self := fun _ _ _ _ _ st h => by
    obtain ⟨⟨old, he⟩, _⟩ := st
    exact wpAny_pyIter_enum he h
section
variable {X : Cx} {elts : List Expr} {k : Nat} {tpos : Pos}
def iEnumT (K : PySem.W.Frag) (ta : TA) : TI := fun σ H R => ta σ H fun vs H1 => ∃ a xs, vs = [.ref a] ∧ SqT K H1 a xs ∧ R (Ite K a) H1
theorem qi_enumT (K : PySem.W.Frag) {a : Expr} {ta : TA} {p pos : Pos} (hg : Gl X "enumerate") (hm : X.mg "enumerate" = none) (ha : QA X [a] ta) (hk : X.K = K := by rfl) : QI X (.Tuple elts k tpos) (.Call (.Name "enumerate" p) [a] [] pos) (iEnumT K ta) := by
  subst hk
  refine ⟨fun pins s σ H R I h => ?_⟩
  have hs := starEach_ns (env := X.env) (es := []) (ns_hd ha.ns).1
  refine Call_ (ld_blt I hg hm (by decide +kernel : bootBuiltins "enumerate" = some (.type "enumerate")) (PyProof.Rows.callWith_type1 (thn (ha.run pos pins s σ H _ I h) fun us s1 ⟨vs, H1, I1, r1, q1⟩ => ?_) hs rfl))
  obtain ⟨t, xs, e, hq, q⟩ := q1
  subst e
  cases r1 with
  | cons r rr =>
    cases rr
    cases (show _ = Value.ref t from r)
    obtain ⟨its, rv, pp, hz⟩ := I1.tuple hq
    refine call_enumT (show s1.heap.IsTuple t its.toArray from pp) fun h' en it' sz kp => ?_
    refine wpAny_pyIter_enum en ?_
    have I2 : Inv X pins σ H1 { s1 with heap := h' } := I1.kept (t' := s1.toks) kp
    refine ⟨s1.heap.objs.size + 1, [s1.heap.objs.size + 1, s1.heap.objs.size], _, _, H1, rfl, I2, turn_enumT t _ _ (Nat.succ_ne_self _), ⟨⟨_, en⟩, it'⟩, fun b hb => ?_, q⟩
    have hb' : s1.heap.objs.size ≤ b := by
      rcases List.mem_cons.mp hb with z | z
      · rw [z]; exact Nat.le_succ _
      · have z' : b = s1.heap.objs.size := by simpa using z
        rw [z']; exact Nat.le_refl _
    obtain ⟨p0, p1, p2, p3, p4, p5⟩ := I1.fpOk hb' (I1.hok.fresh hb')
    exact ⟨p0, p1, p2, p3, p4, p5⟩
end
end L2

set_option Elab.async false
set_option linter.all false
set_option maxRecDepth 100000
/-! What a set's table keeps: who leads it, and its places rising while it is plain. -/
namespace PySem
namespace SetTable
/-- led by whom it was, its places rising while it is plain -/
def Good (b : Bool) (t : SetTable) : Prop := t.led = b ∧ (t.plain = true → t.place.toList.Pairwise (· < ·))
variable {b : Bool} {t : SetTable}
theorem Good.stand (g : Good b t) (n : Nat) : Good b (t.standIn n) := ⟨g.1, fun z => by cases z⟩
theorem Good.or (g : Good b t) (n : Nat) : Good b (t.orStandIn n) := by
  unfold orStandIn
  split
  · exact g
  · exact g.stand n
theorem Good.off (g : Good b t) : Good b { t with plain := false } := ⟨g.1, fun z => by cases z⟩
end SetTable
end PySem

set_option Elab.async false
set_option linter.all false
set_option maxRecDepth 100000
/-! A set of whole numbers: made of a list or a tuple. -/
namespace PySem
open Sem (wp)
open PyProof.Rows
def byTx (w : World) : Bool := w.params.followText "set-order"
def iOf (e : Int × Value) : Option Int := match e.2 with | .int k _ => some k | _ => none
def IEl (es : List (Int × Value)) : Prop := ∀ e ∈ es, ∃ k t, e = (hashInt k, Value.int k t)
/-- a set of these whole numbers, each once -/
def SetI (w : World) (a : Addr) (ns : List Int) (h : Heap) : Prop :=
  ∃ o es ep t, h.get? a = some o ∧ o.ExactSet ∧ o.data = .set es ep t ∧ IEl es.toList ∧ (es.toList.filterMap iOf).Perm ns ∧ es.size < scanBound ∧ t.fits es.size = true ∧ SetTable.Good (!byTx w) t
section
variable {prog : Program} {w : World} {A : Around} {E : Value → Shared → Prop} {s : Shared}
theorem IEl.len {l : List (Int × Value)} : IEl l → (l.filterMap iOf).length = l.length := by
  induction l with
  | nil => intro _; rfl
  | cons e l ih =>
    intro h
    obtain ⟨k, t, rfl⟩ := h e (by simp)
    have := ih fun e he => h e (by simp [he])
    simp [iOf] at this ⊢
    exact this
theorem IEl.has {l : List (Int × Value)} (h : IEl l) {k : Int} : k ∈ l.filterMap iOf ↔ ∃ e ∈ l, (intKind prog w).is k e.2 = true := by
  rw [List.mem_filterMap]
  constructor
  · rintro ⟨e, he, q⟩
    obtain ⟨j, t, rfl⟩ := h e he
    cases q
    exact ⟨_, he, intKind_is _ _ _ _⟩
  · rintro ⟨e, he, q⟩
    obtain ⟨j, t, rfl⟩ := h e he
    have : k = j := (intKind prog w).inj _ _ _ q (intKind_is _ _ j t)
    subst this
    exact ⟨_, he, rfl⟩
theorem SetI.keep {a : Addr} {ns : List Int} {h h' : Heap} (x : SetI w a ns h) (k : ∀ o, h.get? a = some o → h'.get? a = some o) : SetI w a ns h' := by
  obtain ⟨o, es, ep, t, e, r⟩ := x
  exact ⟨o, es, ep, t, k o e, r⟩
theorem SetI.type {a : Addr} {ns : List Int} (x : SetI w a ns s.heap) : s.TypeIs (.ref a) "set" := by
  obtain ⟨o, es, ep, t, e, c, _⟩ := x
  exact ⟨o, e, c.1⟩
theorem SetI.put {h : Heap} {a : Addr} {o : Obj} {es es' : Array (Int × Value)} {ep : Nat} {t t' : SetTable} {ns : List Int} (ho : h.get? a = some o) (x : o.ExactSet) (hd : o.data = .set es ep t) (h1 : IEl es'.toList)
    (h2 : (es'.toList.filterMap iOf).Perm ns) (h3 : es'.size < scanBound) (h4 : t'.fits es'.size = true) (h5 : SetTable.Good (!byTx w) t') :
    (h.update a (Obj.putSet es' t')).get? a = some { o with data := .set es' (ep + 1) t' } ∧ SetI w a ns (h.update a (Obj.putSet es' t')) := by
  have g := Heap.get?_update_self (Obj.putSet es' t') ho (by rw [putSet_of es' t' hd]; rfl)
  rw [putSet_of es' t' hd] at g
  exact ⟨g, _, es', ep + 1, t', g, x, rfl, h1, h2, h3, h4, h5⟩
end
end PySem

set_option Elab.async false
set_option linter.all false
set_option maxRecDepth 100000
namespace PySem
open Sem (wp)
open PyProof.Rows
section
variable {prog : Program} {w : World} {A : Around} {E : Value → Shared → Prop} {s : Shared} {R : Result → Shared → Prop}
end
end PySem

set_option Elab.async false
set_option linter.all false
set_option maxRecDepth 100000
/-! A set of whole numbers walked: in some order, whichever it is. -/
namespace PySem
open Sem (wp)
open PyProof.Rows
section
variable {prog : Program} {w : World} {A : Around} {E : Value → Shared → Prop} {s : Shared}
/-- where a walk stands in the table -/
def stSl (t : SetTable) : Nat → Nat
  | 0 => 0
  | i + 1 => t.place.getD i 0 + 1
/-- the three ways in which a set is walked -/
def SMode (w : World) (a it pl : Addr) (es : Array (Int × Value)) (ep : Nat) (t : SetTable) (out : List Value) (i : Nat) (first : Value) (h : Heap) : Prop :=
  (byTx w = true ∧ first = .int 0 0 ∧ out = (pickOrder (w.params.setOrder a ep) es).toList.map (·.2)) ∨
  (byTx w = false ∧ (!t.plain && decide (es.size > 1)) = false ∧ t.place.toList.Pairwise (· < ·) ∧ first = .int (stSl t i : Nat) 0 ∧ out = es.toList.map (·.2)) ∨
  (byTx w = false ∧ first = .ref pl ∧ pl ≠ it ∧ ∃ ord : List Nat, h.IsTuple pl (ord.map fun i : Nat => rawInt i).toArray ∧ ord.Perm (List.range es.size) ∧ out = ord.map fun i => ((es[i]?).map (·.2)).getD .none)
def SSt (w : World) (a it pl : Addr) (o : Obj) (es : Array (Int × Value)) (ep : Nat) (t : SetTable) (out : List Value) (i : Nat) (h : Heap) : Prop :=
  h.get? a = some o ∧ out.length = es.size ∧ ∃ first, h.get? it = some { cls := .type "set_iterator", data := .fields #[first, .int i 0, .ref a, .int es.size 0, .int ep 0] } ∧ SMode w a it pl es ep t out i first h
structure SFix (w : World) (o : Obj) (es : Array (Int × Value)) (ep : Nat) (t : SetTable) : Prop where
  ex : o.ExactSet
  dat : o.data = .set es ep t
  fit : t.fits es.size = true
  led : t.led = !byTx w
theorem SSt.frame {a it pl : Addr} {o : Obj} {es : Array (Int × Value)} {ep : Nat} {t : SetTable} {out : List Value} {i : Nat} {h h' : Heap} (x : SSt w a it pl o es ep t out i h) (k : ∀ b ∈ [it, a, pl], ∀ o, h.get? b = some o → h'.get? b = some o) : SSt w a it pl o es ep t out i h' := by
  obtain ⟨x1, x2, f, x3, m⟩ := x
  refine ⟨k a (by simp) _ x1, x2, f, k it (by simp) _ x3, ?_⟩
  rcases m with m | m | ⟨m1, m2, m3, ord, m4, m5⟩
  · exact .inl m
  · exact .inr (.inl m)
  · exact .inr (.inr ⟨m1, m2, m3, ord, m4.at fun o e => k pl (by simp) o e, m5⟩)
theorem SSt.type {a it pl : Addr} {o : Obj} {es : Array (Int × Value)} {ep : Nat} {t : SetTable} {out : List Value} {i : Nat} (x : SSt w a it pl o es ep t out i s.heap) : s.TypeIs (.ref it) "set_iterator" := by
  obtain ⟨_, _, f, e, _⟩ := x
  exact ⟨_, e, rfl⟩
end
end PySem

set_option Elab.async false
set_option linter.all false
set_option maxRecDepth 100000
/-! sorted(set(..)) of whole numbers. -/
namespace PySem
open Sem (wp)
open PyProof.Rows
section
variable {prog : Program} {w : World} {A : Around} {E : Value → Shared → Prop} {s : Shared}
theorem IEl.ints {l : List (Int × Value)} : IEl l → IntsAre (l.map (·.2)) (l.filterMap iOf) := by
  induction l with
  | nil => intro _; exact .nil
  | cons e l ih =>
    intro h
    obtain ⟨k, t, rfl⟩ := h e (by simp)
    exact .cons k t (ih fun e he => h e (by simp [he]))
end
end PySem

set_option Elab.async false
set_option linter.all false
set_option maxRecDepth 100000
namespace PySem
open Sem (wp)
open PyProof.Rows
section
variable {prog : Program} {w : World} {A : Around} {E : Value → Shared → Prop} {s : Shared}
end
end PySem
namespace L2
open PySem PySem.Spec PyProof.Rows
section
variable {X : Cx}
theorem Inv.drawn {pins : List (Addr × Obj)} {s : Shared} {σ : St} {H : Hp} (I : Inv X pins σ H s) (d : Drawn) : Inv X pins σ H { s with drawn := d } :=
  { ok := I.ok, os := I.os, bare := I.bare, base := I.base, loc := I.loc, cell := I.cell, free := I.free, freeC := I.freeC, pin := I.pin, hok := I.hok, len := I.len }
end
end L2

set_option Elab.async false
set_option linter.all false
set_option maxRecDepth 100000
namespace L2
open PySem PySem.Spec PyProof.Rows
section
variable {X : Cx} {elts : List Expr} {k : Nat} {tpos : Pos}
def tMono (te : TE) : TE := fun σ H Q => ∃ D : VK, te σ H D ∧ ∀ x H1, D x H1 → Q x H1
theorem QE.mono {e : Expr} {te : TE} (he : QE X e te) : QE X e (tMono te) := ⟨fun pins s σ H Q I ⟨D, h, k⟩ => thn (he.run pins s σ H D I h) fun v s1 ⟨x, H1, I1, r1, q1⟩ => ⟨x, H1, I1, r1, k x H1 q1⟩⟩
end
end L2

set_option Elab.async false
set_option linter.all false
set_option maxRecDepth 100000
/-! len(set(xs)) of whole numbers. -/
namespace L2
open PySem PySem.Spec PyProof.Rows
section
variable {X : Cx}
end
end L2

set_option Elab.async false
set_option linter.all false
set_option maxRecDepth 100000
/-! min(xs) and xs.index(n) of whole numbers. -/
namespace L2
open PySem PySem.Spec PyProof.Rows
section
variable {X : Cx}
end
end L2

set_option Elab.async false
set_option linter.all false
set_option maxRecDepth 100000
namespace L2
open PySem
/-! a new address is no part of data -/
mutual
theorem Rep.more {S : List Addr} {H : Hp} {p : Addr} (hp : H p = none) : ∀ {d : PyData} {v : V}, Rep S H d v → Rep (p :: S) H d v
  | .none, _, h => h
  | .bool _, _, h => h
  | .int _, _, h => h
  | .str _, _, h => h
  | .tuple ds, _, h => by
    unfold Rep at h ⊢
    obtain ⟨a, xs, e, ha, hr⟩ := h
    exact ⟨a, xs, e, ha, Reps.more hp hr⟩
  | .list ds, _, h => by
    unfold Rep at h ⊢
    obtain ⟨a, xs, e, ha, hs, hr⟩ := h
    refine ⟨a, xs, e, ha, fun z => ?_, Reps.more hp hr⟩
    rcases List.mem_cons.mp z with z | z
    · rw [z, hp] at ha; cases ha
    · exact hs z
  | .dict _, _, h => h
theorem Reps.more {S : List Addr} {H : Hp} {p : Addr} (hp : H p = none) : ∀ {ds : List PyData} {vs : List V}, Reps S H ds vs → Reps (p :: S) H ds vs
  | [], _, h => h
  | d :: ds, _, h => by
    unfold Reps at h ⊢
    obtain ⟨y, r, e, h1, h2⟩ := h
    exact ⟨y, r, e, Rep.more hp h1, Reps.more hp h2⟩
end
/-- a list with another one behind, itself no part of what it holds -/
theorem catL2 {S : List Addr} {H : Hp} {l : Addr} {xs : List V} {D ds : List PyData} {v : V} {Q : VK} (hl : H l = some (.lst xs)) (rD : Reps S H D xs) (r2 : Rep S H (.list ds) v) (hz : D.length + ds.length ≤ sizeLine) 
    (k : ∀ p ys H', Ext [] H H' → H' p = some (.lst ys) → H p = none → Reps (p :: S) H' (D ++ ds) ys → Q (.ref p) H') : rCat (.ref l) v H Q := by
  obtain ⟨b, zs, rfl, hb, _, rz⟩ := r2.of_lst
  exact ⟨l, b, xs, zs, rfl, rfl, hl, hb, by rw [rD.length, rz.length]; exact hz, fun p hp => k p _ _ (.new hp) upd_same hp ((Reps.more hp (rD.append rz)).ext (.new hp))⟩
end L2

set_option Elab.async false
set_option linter.all false
set_option maxRecDepth 100000
/-! while, whatever the test. -/
namespace L2
open PySem PySem.Spec PyProof.Rows
section
variable {X : Cx}
def tMonoT (t : TT) : TT := fun σ H Q => ∃ D : Bool → Hp → Prop, t σ H D ∧ ∀ b H1, D b H1 → Q b H1
theorem QT.mono {e : Expr} {t : TT} (he : QT X e t) : QT X e (tMonoT t) := ⟨fun pins s σ H Q I ⟨D, h, k⟩ => thn (he.run pins s σ H D I h) fun b s1 ⟨H1, I1, q1⟩ => ⟨H1, I1, k b H1 q1⟩⟩
end
end L2

set_option Elab.async false
set_option linter.all false
set_option maxRecDepth 100000
/-! An exception in flight: what is noted of the frames that it leaves. -/
namespace L2
open PySem PySem.Spec PyProof.Rows
/-- an exception at x: its class, its dict, the head of its trace -/
structure ExcAt (h : Heap) (x : Addr) (cls : Value) (od tb : Option Addr) : Prop where
  obj : ∃ oe vs, h.get? x = some oe ∧ oe.cls = cls ∧ oe.dict = od ∧ oe.data = .fields vs ∧ vs[1]? = some (tb.elim Value.none Value.ref)
  hd : ∀ T, tb = some T → T ≠ x ∧ ∃ oT ts, h.get? T = some oT ∧ oT.data = .fields ts ∧ ts[3]? = some .none
/-- what stays while it is noted: all but it, its trace, the frames' slots -/
structure Noted (fs : List Addr) (x : Addr) (tb : Option Addr) (h h' : Heap) : Prop where
  keep : ∀ b o, h.get? b = some o → b ≠ x → tb ≠ some b → b ∉ fs → h'.get? b = some o
  slot : ∀ b o, h.get? b = some o → b ∈ fs → ∃ sl, h'.get? b = some { o with slots := sl }
  there : ∀ b o, h.get? b = some o → ∃ o', h'.get? b = some o'
section
variable {M : Model} {A : Around} {E : Value → Shared → Prop} {s : Shared}
theorem frame_not {h base : Heap} {l : List Env} (hl : h.FunFrames base l) {b : Addr} {o : Obj} {vs : Array Value} (ho : h.get? b = some o) (hd : o.data = .fields vs) : b ∉ frs l := fun hm => by
  obtain ⟨_, o', ho', hn⟩ := hl.mem hm
  rw [ho] at ho'
  cases ho'
  exact hn vs hd
/-- a new entry of the trace, and the flight ends here -/
theorem entry_flight {base : Heap} {env : Env} {outer : List Env} {L x : Addr} {oe : Obj} {vs : Array Value} {head : Value} {had : Bool} {Q : Unit → Shared → Prop}
    (hfr : A.frames = some (env :: outer)) (hl : s.heap.FunFrames base (env :: outer)) (hf : env.frame = some L) (he : s.heap.get? x = some oe) (hd : oe.data = .fields vs) (hsz : 1 < vs.size)
    (h : ∀ h' T, s.heap.objs.size ≤ T → Noted (frs (env :: outer)) x none s.heap h' → ExcAt h' x oe.cls oe.dict (some T) → Q () { s with heap := h' }) :
    wpAny M A (do setField (.ref x) 1 (← EntryCells.newEntry head (← frameOf env) .none (rawInt L) .none (← entryPlaceOf L had))) (fun _ s' => wpAny M A (setFlight (.ref x) none) Q E s') E s := by
  have hxf : x ∉ frs (env :: outer) := frame_not hl he hd
  refine wpAny_bind (wpAny_frameOf_fun hfr hl hf fun g hg => wpAny_bind (wpAny_entryPlaceOf fun pl hpl => ?_))
  unfold EntryCells.newEntry newFields
  refine wpAny_bind (wpAny_newObj_type ?_ (hpl.sizeOk5 _ _ _ _ _))
  have hx1 : g.get? x = some oe := (hg.2.1 x hxf).trans he
  generalize hnew : ([head, Value.ref L, .none, rawInt L, .none] ++ (if pl.isEmpty then List.replicate 6 Value.none else pl)).toArray = fs5
  have h3 : 3 < fs5.size := by
    rw [← hnew]
    simp only [List.size_toArray, List.length_append, List.length_cons]
    omega
  have hx2 := Heap.get?_push_of_some (h := g) { cls := .type "traceback", dict := none, data := .fields fs5 } hx1
  have hT2 : (g.push { cls := .type "traceback", dict := none, data := .fields fs5 }).get? g.objs.size = some { cls := .type "traceback", dict := none, data := .fields fs5 } := Heap.get?_push_size g rfl
  have hTx : g.objs.size ≠ x := Nat.ne_of_gt (Heap.lt_size hx1)
  refine wpAny_setField hx2 hd hsz ?_
  have hd3 := Obj.data_mapFields hd (·.setIfInBounds 1 (Value.ref g.objs.size))
  have hx3 := Heap.get?_update_self (Obj.mapFields (·.setIfInBounds 1 (Value.ref g.objs.size))) hx2 (Obj.isFreed_of_fields hd3)
  have hT3 := (Heap.get?_update_other (g.push { cls := .type "traceback", dict := none, data := .fields fs5 }) (Obj.mapFields (·.setIfInBounds 1 (Value.ref g.objs.size))) hTx.symm).trans hT2
  have ot3 : ∀ b, b ≠ x → ((g.push { cls := .type "traceback", dict := none, data := .fields fs5 }).update x (Obj.mapFields (·.setIfInBounds 1 (Value.ref g.objs.size)))).get? b = (g.push { cls := .type "traceback", dict := none, data := .fields fs5 }).get? b := fun b hb => Heap.get?_update_other _ _ (Ne.symm hb)
  have v1 : (vs.setIfInBounds 1 (Value.ref g.objs.size))[1]? = some (Value.ref g.objs.size) := by simp [hsz]
  have dsame : (Obj.mapFields (·.setIfInBounds 1 (Value.ref g.objs.size)) oe).dict = oe.dict := by
    unfold Obj.mapFields
    split <;> rfl
  generalize (g.push { cls := .type "traceback", dict := none, data := .fields fs5 }).update x (Obj.mapFields (·.setIfInBounds 1 (Value.ref g.objs.size))) = g3 at hx3 hT3 ot3 ⊢
  unfold setFlight
  refine wpAny_bind (wpAny_field hx3 hd3 (x := .ref g.objs.size) v1 ?_)
  rw [if_pos (show (Value.ref g.objs.size != Value.none) = true by simp)]
  refine wpAny_setField hT3 rfl h3 ?_
  have hnone : s.heap.get? g.objs.size = none := by
    rw [hg.1]
    exact Heap.get?_none_of_le (Nat.le_refl _)
  refine h _ g.objs.size (Nat.le_of_eq hg.1.symm) ⟨fun b o hb hbx _ hbf => ?_, fun b o hb hbf => ?_, fun b o hb => ?_⟩ ⟨⟨_, _, (Heap.get?_update_other _ _ hTx).trans hx3, Obj.cls_mapFields _ _, dsame, hd3, v1⟩, fun T eT => ?_⟩
  · have hbT : g.objs.size ≠ b := fun z => by rw [← z, hnone] at hb; cases hb
    have : g.get? b = some o := (hg.2.1 b hbf).trans hb
    exact (Heap.get?_update_other _ _ hbT).trans ((ot3 b hbx).trans (Heap.get?_push_of_some _ this))
  · have hbT : g.objs.size ≠ b := fun z => by rw [← z, hnone] at hb; cases hb
    have hbx : b ≠ x := fun z => hxf (z ▸ hbf)
    obtain ⟨sl, e⟩ := hg.2.2 b o hb
    exact ⟨sl, (Heap.get?_update_other _ _ hbT).trans ((ot3 b hbx).trans (Heap.get?_push_of_some _ e))⟩
  · have hbT : g.objs.size ≠ b := fun z => by rw [← z, hnone] at hb; cases hb
    obtain ⟨sl, e⟩ := hg.2.2 b o hb
    by_cases hbx : b = x
    · exact ⟨_, (Heap.get?_update_other _ _ hbT).trans (hbx ▸ hx3)⟩
    · exact ⟨_, (Heap.get?_update_other _ _ hbT).trans ((ot3 b hbx).trans (Heap.get?_push_of_some _ e))⟩
  · cases eT
    exact ⟨hTx, _, _, Heap.get?_update_self _ hT3 (Obj.isFreed_of_fields (Obj.data_mapFields rfl _)), Obj.data_mapFields rfl _, by simp [h3]⟩
theorem note_flight {base : Heap} {env : Env} {outer : List Env} {L x : Addr} {cls : Value} {od tb : Option Addr} {Q : Unit → Shared → Prop}
    (hfr : A.frames = some (env :: outer)) (hl : s.heap.FunFrames base (env :: outer)) (hf : env.frame = some L) (e : ExcAt s.heap x cls od tb)
    (h : ∀ h' T, s.heap.objs.size ≤ T → Noted (frs (env :: outer)) x tb s.heap h' → ExcAt h' x cls od (some T) → Q () { s with heap := h' }) :
    wpAny M A (noteFrame (.ref x) env) (fun _ s' => wpAny M A (setFlight (.ref x) none) Q E s') E s := by
  obtain ⟨⟨oe, vs, he, rfl, rfl, hd, h1⟩, ht⟩ := e
  have hsz : 1 < vs.size := (Array.getElem?_eq_some_iff.mp h1).1
  unfold noteFrame
  simp only [hf]
  refine wpAny_bind (wpAny_field he hd h1 ?_)
  cases tb with
  | none =>
    rw [if_neg (show ¬ ((none : Option Addr).elim Value.none Value.ref != Value.none) = true by decide)]
    exact entry_flight hfr hl hf he hd hsz h
  | some T =>
    obtain ⟨hTx, oT, ts, hT, hdT, h3⟩ := ht T rfl
    have h3s : 3 < ts.size := (Array.getElem?_eq_some_iff.mp h3).1
    rw [if_pos (show ((some T : Option Addr).elim Value.none Value.ref != Value.none) = true by simp)]
    refine wpAny_bind (wpAny_field hT hdT h3 ?_)
    rw [if_neg (show ¬ (Value.none == rawInt L) = true by simp [rawInt])]
    refine wpAny_bind (wpAny_setField hT hdT h3s ?_)
    have ot : ∀ b, b ≠ T → (s.heap.update T (Obj.mapFields (·.setIfInBounds 3 Value.none))).get? b = s.heap.get? b := fun b hb => Heap.get?_update_other _ _ (Ne.symm hb)
    have hT' := Heap.get?_update_self (Obj.mapFields (·.setIfInBounds 3 Value.none)) hT (Obj.isFreed_of_fields (Obj.data_mapFields hdT _))
    have hTf : T ∉ frs (env :: outer) := frame_not hl hT hdT
    have hgs : (s.heap.update T (Obj.mapFields (·.setIfInBounds 3 Value.none))).objs.size = s.heap.objs.size := Heap.size_after_update ..
    generalize hg : s.heap.update T (Obj.mapFields (·.setIfInBounds 3 Value.none)) = g at ot hT' hgs ⊢
    have hl' : g.FunFrames base (env :: outer) := hl.of_keeps fun b o hb hn => ⟨o, (ot b fun z => by rw [z, hT] at hb; cases hb; exact hn ts hdT).trans hb, rfl⟩
    refine entry_flight (s := { s with heap := g }) hfr hl' hf ((ot x hTx.symm).trans he) hd hsz fun h' T' hn nt ea => h h' T' (hgs ▸ hn) ⟨fun b o hb hbx hbT hbf => ?_, fun b o hb hbf => ?_, fun b o hb => ?_⟩ ea
    · have : b ≠ T := fun z => hbT (by rw [z])
      exact nt.keep b o ((ot b this).trans hb) hbx (by simp) hbf
    · have : b ≠ T := fun z => hTf (z ▸ hbf)
      exact nt.slot b o ((ot b this).trans hb) hbf
    · by_cases z : b = T
      · subst z
        exact nt.there b _ hT'
      · exact nt.there b o ((ot b z).trans hb)
end
end L2

set_option Elab.async false
set_option linter.all false
set_option maxRecDepth 100000
/-! Exceptions that leave a def: how they lie, and how they pass. -/
namespace L2
open PySem PySem.Spec PyProof.Rows
/-- an exception, flying or caught -/
def xfly (x : Addr) (cls : Value) (od : Option Addr) : Heap → Prop := fun h => ∃ oe vs, h.get? x = some oe ∧ oe.cls = cls ∧ oe.dict = od ∧ oe.data = .fields vs
theorem ExcAt.fly {h : Heap} {x : Addr} {cls : Value} {od tb : Option Addr} (e : ExcAt h x cls od tb) : xfly x cls od h := let ⟨oe, vs, a, b, c, d, _⟩ := e.obj; ⟨oe, vs, a, b, c, d⟩
theorem xfly_ok {P : Program} {w : World} {H : Hp} {h : Heap} {x : Addr} {cls : Value} {od : Option Addr} (r : xfly x cls od h) : ObjOk P w H h x (.ext (xfly x cls od)) := by
  refine ⟨r, let ⟨oe, _, e, _⟩ := r; ⟨oe, e⟩, fun h1 h2 ⟨oe, vs, e, r⟩ k => ⟨oe, vs, k _ e, r⟩⟩
/-- behind a call that raised -/
def CX1 (P : Program) (w : World) : CXT := fun outer H s E e s' => ∃ (x : Addr) (cls : Value) (od : Option Addr) (T : Addr) (H' : Hp), e = .ref x ∧ s'.os = s.os ∧ AllBare s'.gens ∧ Un (frs outer) [] H H' s.heap s'.heap ∧ HOk P w H' s'.heap ∧
  H' x = some (.ext (xfly x cls od)) ∧ H' T = none ∧ s.heap.objs.size ≤ x ∧ s.heap.objs.size ≤ T ∧ ExcAt s'.heap x cls od (some T) ∧ E cls od H'
/-- within a body: an exception lies there -/
def XP (X : Cx) (pins : List (Addr × Obj)) (σ : St) (E : XK) (e : Value) (s' : Shared) : Prop := ∃ (x : Addr) (cls : Value) (od tb : Option Addr) (H' : Hp), e = .ref x ∧ Inv X pins σ H' s' ∧ H' x = some (.ext (xfly x cls od)) ∧ X.s₀.heap.objs.size ≤ x ∧ (∀ p ∈ X.pn ++ pins, p.1 ≠ x) ∧
  (∀ T, tb = some T → H' T = none ∧ X.s₀.heap.objs.size ≤ T ∧ ∀ p ∈ X.pn ++ pins, p.1 ≠ T) ∧ ExcAt s'.heap x cls od tb ∧ E cls od H'
/-- it may leave the body -/
def Leaves (X : Cx) (E : XK) : Prop := ∀ (pins : List (Addr × Obj)) (σ : St) (e : Value) (s' : Shared), XP X pins σ E e s' → X.xe e s'
section
variable {X : Cx} {pins : List (Addr × Obj)} {σ : St} {H : Hp} {s s' : Shared} {E : XK} {e : Value}
theorem xp_of (I : Inv X pins σ H s) (h : CX1 X.prog X.w X.stack H s E e s') : XP X pins σ E e s' := by
  obtain ⟨x, cls, od, T, H', rfl, os, bare, un, hok, nx, nT, sx, sT, ea, q⟩ := h
  have sz := I.sz
  have lt : ∀ p ∈ X.pn ++ pins, p.1 < s.heap.objs.size := fun p hp => Heap.lt_size (I.pin p hp).1
  refine ⟨x, cls, od, some T, H', rfl, I.call' os un hok bare (fun b z => absurd z (by simp)), nx, Nat.le_trans sz sx, fun p hp z => absurd (z ▸ lt p hp) (Nat.not_lt.mpr sx), fun T' eT => ?_, ea, q⟩
  cases eT
  exact ⟨nT, Nat.le_trans sz sT, fun p hp z => absurd (z ▸ lt p hp) (Nat.not_lt.mpr sT)⟩
theorem frs_mem {env : Env} {outer : List Env} {L b : Addr} (hf : env.frame = some L) (h : b ∈ frs (env :: outer)) : b = L ∨ b ∈ frs outer := by
  unfold frs at *
  rw [List.filterMap_cons, hf] at h
  exact List.mem_cons.mp h
theorem frs_sub {env : Env} {outer : List Env} {b : Addr} (h : b ∈ frs outer) : b ∈ frs (env :: outer) := by
  unfold frs at *
  rw [List.filterMap_cons]
  split
  · exact h
  · exact List.mem_cons_of_mem _ h
/-- what is tracked stays -/
theorem HOk.noted {P : Program} {w : World} {h h' : Heap} {fs : List Addr} {x : Addr} {cls : Value} {od tb : Option Addr} (ok : HOk P w H h) (nt : Noted fs x tb h h') (nx : H x = some (.ext (xfly x cls od))) (fl : xfly x cls od h') (nT : ∀ T, tb = some T → H T = none) (nf : ∀ b ∈ fs, H b = none) : HOk P w H h' := fun a o e => by
  have key : ∀ b (u : HO), b ≠ x → H b = some u → ∀ v, h.get? b = some v → h'.get? b = some v := fun b u hbx hb v hv =>
    nt.keep b v hv hbx (fun z => by rw [nT b z] at hb; cases hb) fun z => by rw [nf b z] at hb; cases hb
  by_cases hax : a = x
  · subst hax
    rw [nx] at e
    cases e
    exact xfly_ok fl
  · refine (ok a o e).stay (fun b v hb q => ?_) (fun b q => q) fun b xs q => q
    rcases hb with rfl | hb
    · exact key b o hax e v q
    · exact key b _ (fun z => by rw [z, nx] at hb; cases hb) hb v q
end
theorem leaves_cx {P : Program} {w : World} {K : PySem.W.Frag} {mg : Str → Option Value} {base : Heap} {N : List Str} {qual : Str} {scope : Scope} {f : Addr} {cd : Value} {A : Around} {outer : List Env} {s : Shared} {H : Hp} {E : XK} :
    Leaves (cxOf (CX1 P w) P w K mg base N qual scope f cd A outer s H E) E := by
  rintro pins σ e s' ⟨x, cls, od, tb, H', rfl, I, nx, sx, px, hT, ea, q⟩
  have frames := I.ok.frames
  have stack := I.stack
  have free := I.stkFree
  show wpAny _ _ (leaving _ _) _ _ _
  unfold leaving
  have bs : Un (frs outer) [] H H' s.heap s'.heap := I.base
  have above : s.heap.objs.size ≤ s.heap.objs.size := Nat.le_refl _
  refine wpAny_bind (note_flight frames stack rfl ea fun h' T' hn nt ea' => ⟨x, cls, od, T', H', rfl, I.os, I.bare, ?_, I.hok.noted nt nx ea'.fly (fun T e => (hT T e).1) free, nx, ?_, sx, ?_, ea', q⟩)
  · have out : ∀ b (o : Obj), s.heap.get? b = some o → b ≠ x ∧ tb ≠ some b ∧ b ≠ s.heap.objs.size := fun b o hb => by
      have lt := Heap.lt_size hb
      exact ⟨fun z => absurd (z ▸ lt) (Nat.not_lt.mpr sx), fun z => absurd lt (Nat.not_lt.mpr (hT b z).2.1), fun z => absurd (z ▸ lt) (Nat.lt_irrefl _)⟩
    refine ⟨fun b o hb n hf hx => ?_, fun b o hb n hf hx => ?_, bs.free, fun b o hb hx => ?_, bs.tups, bs.frzs, bs.tbls⟩
    · obtain ⟨o1, o2, o3⟩ := out b o hb
      exact nt.keep b o (bs.keep b o hb n hf hx) o1 o2 fun z => (frs_mem rfl z).elim o3 hf
    · obtain ⟨sl, e1⟩ := bs.slot b o hb n hf hx
      obtain ⟨sl', e2⟩ := nt.slot b _ e1 (frs_sub hf)
      exact ⟨sl', e2⟩
    · obtain ⟨o', e1⟩ := bs.there b o hb hx
      exact nt.there b o' e1
  · exact I.hok.fresh hn
  · exact Nat.le_trans I.sz hn
section
variable {P : Program} {w : World} {K : PySem.W.Frag} {mg : Str → Option Value} {base : Heap}
/-- a def that may raise, by its body -/
theorem Fun.okX {x qual : Str} {st : Stmt} {f : Addr} {fd : FuncData} {N ps : List Str} {k : Nat} {sp : Sp} (F : Fun K x qual st f fd) (S : FnScope N ps (defScope st)) (len : ∀ vs H Q E, sp vs H Q E → vs.length = ps.length)
    (hbody : ∀ (cdv : Value) (A : Around) (outer : List Env) (s : Shared) (H : Hp) (vs : List V) (Q : VK) (E : XK), Room k (A.deeper (envOfC qual (defScope st) s.heap.objs.size f cdv)) → sp vs H Q E →
      ∃ t, QSs (cxOf (CX1 P w) P w K mg base N qual (defScope st) f cdv A outer s H E) (defBody st) t ∧ t { nx := fun _ H' => Q .non H', rt := Q } (start N vs) H) : FnOk P w K mg base (CX1 P w) (k + 1) f fd ps sp := by
  obtain ⟨oc, od, kV, doc, pm, an, cdv, ct, osl, rfl, lk, hcd⟩ := F.ex
  refine fn_of lk hcd S len fun A outer s H vs Q E hr hsp => ?_
  obtain ⟨t, h, q⟩ := hbody cdv A outer s H vs Q E hr hsp
  exact ⟨t, h.run, q⟩
/-- a def by its name, one that may raise -/
structure DefX (P : Program) (w : World) (K : PySem.W.Frag) (mg : Str → Option Value) (base : Heap) (k : Nat) (x : Str) (ps : List Str) (sp : Sp) : Prop where
  ex : ∃ (f : Addr) (fd : FuncData), FnOk P w K mg base (CX1 P w) k f fd ps sp ∧ mg x = some (.ref f) ∧ PySem.W.keepIn K (.ref f) = true ∧ Binds K fd ps []
end
def tCallX (sp : Sp) (E : XK) (t : TA) : TE := fun σ H Q => t σ H fun vs H1 => sp vs H1 Q E
theorem tCallX_eq (sp : Sp) (E : XK) (t : TA) : tCall sp [] E t = tCallX sp E t := by
  funext σ H Q
  unfold tCall tCallX
  simp only [List.append_nil]
section
variable {X : Cx} {k : Nat} {x : Str} {ps : List Str} {sp : Sp} {E : XK} {e : Expr} {es : List Expr} {t : TA} {p pos : Pos}
theorem qe_callX (E : XK) (D : DefX X.prog X.w X.K X.mg X.base k x ps sp) (hr : Room k X.A) (hl : Leaves X E) (ha : QA X (e :: es) t) (hg : Gl X x := by rfl) (hdb : (x == ("__debug__" : Str)) = false := by decide) :
    QE X (.Call (.Name x p) (e :: es) [] pos) (tCallX sp E t) := by
  obtain ⟨f, fd, F, hm, hk, hb⟩ := D.ex
  rw [← tCallX_eq]
  exact ⟨pe_call F hr hg hm hk hb .nil (fun pins σ H s e s' I h => hl pins σ e s' (xp_of I h)) ha.run hdb (starEach_ns (ns_hd ha.ns).1) (backTo_ns (ns_hd ha.ns).2)⟩
end
end L2

set_option Elab.async false
set_option linter.all false
set_option maxRecDepth 100000
/-! An exception's attributes: read and written. -/
namespace L2
open PySem PySem.Spec PyProof.Rows
/-- what of the text an own exception's class must have -/
structure ClsX (K : PySem.W.Frag) (C : Addr) : Prop where
  ga : PySem.W.findIn K (.ref C) "__getattribute__" = some (some (.builtin "BaseException.__getattribute__"))
  gh : PySem.W.findIn K (.ref C) "__getattr__" = some none
  sa : PySem.W.findIn K (.ref C) "__setattr__" = some (some (.builtin "object.__setattr__"))
  hd : PySem.W.hasDictIn K C = true
  isx : PySem.W.mroIn K C (.type "BaseException") = some true
  iso : PySem.W.mroIn K C (.type "object") = some true
section
variable {prog : Program} {w : World} {A : Around} {E : Value → Shared → Prop} {K : PySem.W.Frag} {x C dx : Addr} {o : Obj} {mA : Str → Option Value} {name : Str} {v : Value}
theorem gaKind : builtinKind "BaseException.__getattribute__" = some .slot := by decide +kernel
theorem gaSplit : splitId "BaseException.__getattribute__" = some ("BaseException", "__getattribute__") := by decide +kernel
theorem excget_code {s : Shared} {tk : Tok} {R : Result → Shared → Prop} {od : Obj} (X : K.In s.heap) (c : ClsX K C) (I : PySem.W.InstAt s.heap x o C (some od)) (na : PySem.W.findIn K (.ref C) name = some none) (hv : PySem.W.lookIn name od = some (some v))
    (q : R (.ok (.ret v)) s) : codeAny (model prog w) A (.call (.builtin "BaseException.__getattribute__") ⟨[.ref x, .str name tk], []⟩) R s := by
  have L4 := PySem.W.looks_mroIn (M := model prog w) X c.isx
  have L5 := PySem.W.looks_find (M := model prog w) X I (PySem.W.findObj_own (attr := none) c.hd na rfl hv)
  have L0 := I.type (M := model prog w)
  refine codeAny_call_builtin PySem.F.excAttr_ValueError.ga.plain PySem.F.entry_bexc_ga ?_
  refine @PySem.W.check_slot (model prog w) _ _ s "BaseException.__getattribute__" "BaseException" "__getattribute__" (.ref x) [.str name tk] [] _ gaKind gaSplit (L0.andThen L4) (PySem.F.args_bexc_ga _ _) ?_
  show wpAny _ _ (Builtin.«object.__getattribute__» ⟨[.ref x, .str name tk], []⟩) _ _ _
  unfold Builtin.«object.__getattribute__»
  refine wpAny_bind (wpAny_pure ?_)
  exact wpAny_bind (wpAny_pure (wpAny_bind (L0.here (wpAny_bind (L5.here (wpAny_pure q))))))
theorem excget {s : Shared} {expr : Bool} {od : Obj} {Q : Value → Shared → Prop} (X : K.In s.heap) (c : ClsX K C) (I : PySem.W.InstAt s.heap x o C (some od)) (na : PySem.W.findIn K (.ref C) name = some none) (hv : PySem.W.lookIn name od = some (some v)) (hh : handedOut v = pure v)
    (q : Q v { s with toks := s.toks + 1 }) : wpAny (model prog w) A (getAttr (.ref x) name expr) Q E s := by
  obtain ⟨h, g, d, t, os⟩ := s
  have L0 := I.type (M := model prog w)
  have L1 := PySem.W.looks_findIn (M := model prog w) X c.ga
  have L2 := PySem.W.looks_findIn (M := model prog w) X c.gh
  have f3 := PySem.F.excAttr_ValueError.ga.bind (.ref x)
  have hx0 : (expr && onTheHeap (Value.builtin "BaseException.__getattribute__")) = false := by cases expr <;> rfl
  have hx2 : (Value.builtin "BaseException.__getattribute__" == Value.builtin "object.__getattribute__") = false := by decide +kernel
  have hx1 : (onTheHeap (Value.ref C) && Value.builtin "BaseException.__getattribute__" == Value.builtin "object.__getattribute__") = false := by rw [hx2]; rfl
  unfold getAttr getAttrBy
  repeat (first | assumption | with_reducible refine L0.at ?_ | with_reducible refine L1.at ?_ | with_reducible refine L2.at ?_ | wp_step)
  refine excget_code (s := ⟨h, g, d, t + 1, os⟩) X c I na hv ?_
  show wpAny _ _ (handedOut v) _ _ _
  rw [hh]
  exact wpAny_pure q
/-! writing -/
def veTail : List Value → Bool
  | [.type a, .type b, .type c, .type d] => a == "ValueError" && b == "Exception" && c == "BaseException" && d == "object"
  | .ref _ :: r => veTail r
  | _ => false
theorem ve_refuse (self : Value) : ∀ {l : List Value}, veTail l = true → refuseLoop self "__setattr__" l = pure ()
  | [.type a, .type b, .type c, .type d], e => by
    simp only [veTail, Bool.and_eq_true, beq_iff_eq] at e
    obtain ⟨⟨⟨rfl, rfl⟩, rfl⟩, rfl⟩ := e
    exact PySem.F.store_ValueError.passes self
  | .ref c :: r, e => by
    rw [refuseLoop_ref]
    exact ve_refuse self (by cases r <;> first | exact e | cases e)
theorem excset_code {s : Shared} {tk : Tok} {R : Result → Shared → Prop} {od : Option Obj} {cd : ClassData} (X : K.In s.heap) (c : ClsX K C) (hcd : PySem.W.clsIn K C = some cd) (hve : veTail cd.mro = true) (I : PySem.W.InstAt s.heap x o C od) (na : PySem.W.findIn K (.ref C) name = some none)
    (q : wpAny (model prog w) A.in1 (Builtin.ObjectAttr.storeInOwnDict (.ref x) (.ref C) (.str name tk) name v false) (fun fin s' => match fin with | .done f => R (.ok f) s' | .again c' => c'.quiet = true ∧ codeAny (model prog w) A c' R s') (fun e s' => R (.error e) s') s) :
    codeAny (model prog w) A (.call (.builtin "object.__setattr__") ⟨[.ref x, .str name tk, v], []⟩) R s := by
  have SF := PySem.F.store_object
  have L0 := I.type (M := model prog w)
  have L3 := PySem.W.looks_findIn (M := model prog w) X na
  have L4 := PySem.W.looks_mroIn (M := model prog w) X c.iso
  have L6 : PySem.W.Looks (model prog w) s.heap (mroOf (.ref C)) cd.mro := (PySem.W.looks_clsIn X hcd).andThen .now
  refine codeAny_call_builtin SF.slot.plain SF.entry ?_
  refine @PySem.W.check_slot (model prog w) _ _ s "object.__setattr__" "object" "__setattr__" (.ref x) [.str name tk, v] [] _ SF.kind SF.split (L0.andThen L4) (SF.args (.ref x) (.str name tk) v) ?_
  show wpAny _ _ (Builtin.«object.__setattr__» ⟨[.ref x, .str name tk, v], []⟩) _ _ _
  rw [PySem.W.osa_eq, refuse_eq]
  refine wpAny_bind (wpAny_bind (L0.here (wpAny_bind (L6.here ?_))))
  rw [ve_refuse _ hve]
  refine wpAny_pure (wpAny_bind (L0.here (wpAny_bind (L3.here ?_))))
  exact wpAny_bind (wpAny_pure q)
/-- the first attribute: the dict is made -/
theorem excset_new {s : Shared} {Q : Unit → Shared → Prop} {cd : ClassData} {vs : Array Value} (X : K.In s.heap) (c : ClsX K C) (hcd : PySem.W.clsIn K C = some cd) (hve : veTail cd.mro = true) (hx : s.heap.get? x = some o) (hc : o.cls = .ref C) (hd : o.dict = none) (hf : o.data = .fields vs) (na : PySem.W.findIn K (.ref C) name = some none)
    (q : ∀ h' tk, h'.get? x = some { o with dict := some s.heap.objs.size } → h'.Ns1 s.heap.objs.size (fun y => if y = name then some v else none) → (∀ b u, b ≠ x → s.heap.get? b = some u → h'.get? b = some u) → Q () { s with heap := h', toks := tk }) :
    wpAny (model prog w) A (setAttr (.ref x) name v) Q E s := by
  have I : PySem.W.InstAt s.heap x o C none := ⟨hx, hc, by unfold PySem.W.notCls; rw [hf], by rw [hd]; trivial⟩
  have hhd : cd.hasDict = true := by
    obtain ⟨cd', e1, e2⟩ := PySem.W.any_some c.hd
    rw [hcd] at e1
    cases e1
    exact e2
  have hxs : x ≠ s.heap.objs.size := Nat.ne_of_lt (Heap.lt_size hx)
  refine PySem.W.set_plain X I c.sa (excset_code (s := { s with toks := s.toks + 1 }) X c hcd hve I na ?_)
  unfold Builtin.ObjectAttr.storeInOwnDict
  refine wpAny_bind (wpAny_pure ?_)
  show wpAny _ _ (Builtin.ObjectAttr.ownDictForStores (.ref x) >>= _) _ _ _
  refine wpAny_bind ?_
  show wpAny _ _ (instanceDict x true) _ _ _
  unfold instanceDict
  refine wpAny_bind (wpAny_loadPart hx ?_)
  rw [hc, hd, hf]
  refine wpAny_bind (PySem.W.Looks.here (s := { s with toks := s.toks + 1 }) (PySem.W.looks_clsIn X hcd) ?_)
  rw [hhd]
  show wpAny _ _ (alloc { cls := .type "dict", data := .dict #[] } >>= _) _ _ _
  have hx1 : (s.heap.push { cls := .type "dict", data := .dict #[] }).get? x = some o := Heap.get?_push_of_some _ hx
  have hfree : ({ o with dict := some s.heap.objs.size } : Obj).isFreed = false := Obj.isFreed_of_fields (vs := vs) hf
  refine wpAny_bind (wpAny_alloc' ?_)
  refine wpAny_bind (wpAny_update' hx1 ?_)
  refine wpAny_pure ?_
  have hg1 : ((s.heap.push { cls := .type "dict", data := .dict #[] }).update x (fun o => { o with dict := some s.heap.objs.size })).get? s.heap.objs.size = some { cls := .type "dict", data := .dict #[] } := (Heap.get?_update_ne _ _ _ _ hxs.symm).trans (Heap.get?_push_at rfl rfl)
  have hx2 := Heap.get?_update_self (fun o => { o with dict := some s.heap.objs.size }) hx1 hfree
  have ot : ∀ b u, b ≠ x → s.heap.get? b = some u → ((s.heap.push { cls := .type "dict", data := .dict #[] }).update x (fun o => { o with dict := some s.heap.objs.size })).get? b = some u := fun b u hb hu => (Heap.get?_update_ne _ _ _ _ hb).trans (Heap.get?_push_of_some _ hu)
  generalize (s.heap.push { cls := .type "dict", data := .dict #[] }).update x (fun o => { o with dict := some s.heap.objs.size }) = g at hg1 hx2 ot ⊢
  have hn0 : g.Ns s.heap.objs.size (fun _ => none) := ⟨_, #[], _, hg1, rfl, fun e he => absurd he (by simp), fun _ => rfl⟩
  show wpAny _ _ (Builtin.ObjectAttr.storeInDict s.heap.objs.size (.str name s.toks) name v) _ _ _
  unfold Builtin.ObjectAttr.storeInDict Builtin.ObjectAttr.newKeyGuard
  refine wpAny_bind (wpAny_pure (wpAny_bind (wpAny_nsSet1 (Heap.Ns1.of_empty hn0) fun h' hn' hs => ?_)))
  obtain ⟨oD, esD, epD, hoD, hdD, hcD⟩ := hn'.count (PySem.Within.cons name v PySem.Within.nil)
  refine wpAny_bind (wpAny_lookBehind hoD (by rw [hdD]; exact pastItsLine_dict (Nat.le_trans hcD (by rw [List.length_cons, List.length_nil, sizeLine_eq]; omega))) ?_)
  refine wpAny_pure ?_
  exact q h' _ ((hs.2 x hxs).trans hx2) hn' fun b u hb hu => (hs.2 b (Nat.ne_of_lt (Heap.lt_size hu))).trans (ot b u hb hu)
/-- a further attribute -/
theorem excset_more {s : Shared} {Q : Unit → Shared → Prop} {cd : ClassData} {vs : Array Value} {ns : List Str} (X : K.In s.heap) (c : ClsX K C) (hcd : PySem.W.clsIn K C = some cd) (hve : veTail cd.mro = true) (hx : s.heap.get? x = some o) (hc : o.cls = .ref C) (hd : o.dict = some dx) (hf : o.data = .fields vs) (hn : s.heap.Ns1 dx mA) (na : PySem.W.findIn K (.ref C) name = some none)
    (hw : PySem.Within mA ns) (hz : ns.length ≤ 1000) (q : ∀ h' tk, h'.Ns1 dx (fun y => if y = name then some v else mA y) → Heap.SameBut dx s.heap h' → Q () { s with heap := h', toks := tk }) :
    wpAny (model prog w) A (setAttr (.ref x) name v) Q E s := by
  obtain ⟨od, hod, _⟩ := lookIn_ns hn
  have I : PySem.W.InstAt s.heap x o C (some od) := ⟨hx, hc, by unfold PySem.W.notCls; rw [hf], by rw [hd]; exact hod⟩
  have hhd : cd.hasDict = true := by
    obtain ⟨cd', e1, e2⟩ := PySem.W.any_some c.hd
    rw [hcd] at e1
    cases e1
    exact e2
  refine PySem.W.set_plain X I c.sa (excset_code (s := { s with toks := s.toks + 1 }) X c hcd hve I na ?_)
  unfold Builtin.ObjectAttr.storeInOwnDict
  refine wpAny_bind (wpAny_pure ?_)
  show wpAny _ _ (Builtin.ObjectAttr.ownDictForStores (.ref x) >>= _) _ _ _
  refine wpAny_bind ?_
  show wpAny _ _ (instanceDict x true) _ _ _
  unfold instanceDict
  refine wpAny_bind (wpAny_loadPart hx ?_)
  rw [hc, hd, hf]
  refine wpAny_bind (PySem.W.Looks.here (s := { s with toks := s.toks + 1 }) (PySem.W.looks_clsIn X hcd) ?_)
  rw [hhd]
  refine wpAny_pure (a := some dx) ?_
  show wpAny _ _ (Builtin.ObjectAttr.storeInDict dx (.str name s.toks) name v) _ _ _
  unfold Builtin.ObjectAttr.storeInDict Builtin.ObjectAttr.newKeyGuard
  refine wpAny_bind (wpAny_pure (wpAny_bind (wpAny_nsSet1 (s := { s with toks := s.toks + 1 }) hn fun h' hn' hs => ?_)))
  obtain ⟨oD, esD, epD, hoD, hdD, hcD⟩ := hn'.count (PySem.Within.cons name v hw)
  refine wpAny_bind (wpAny_lookBehind hoD (by rw [hdD]; exact pastItsLine_dict (Nat.le_trans hcD (by rw [List.length_cons, sizeLine_eq]; omega))) ?_)
  exact wpAny_pure (q h' _ hn' hs)
end
end L2

set_option Elab.async false
set_option linter.all false
set_option maxRecDepth 100000
set_option maxHeartbeats 4000000
/-! An own exception is made: its __new__, then its own __init__. -/
namespace L2
open PySem PySem.Spec PyProof.Rows
abbrev veMro : List Value := [.type "ValueError", .type "Exception", .type "BaseException", .type "object"]
section
variable {prog : Program} {w : World} {A : Around} {E : Value → Shared → Prop} {u : Heap} {gs : Array GenState} {dr : Drawn} {tk : Nat} {ost : OsState}
variable {nm qn : Str} {C N fI : Addr} {bs bm : List Value} {hdct : Bool} {sn : List Str} {sub : List Value} {ab : Bool} {col : Option Bool} {dd : Option Addr} {k0 k1 k2 k3 k5 : Option Value} {us : List Value}
/-- the tuple of the arguments, and the exception -/
abbrev made2 (u : Heap) (C : Addr) (us : List Value) : Heap := (u.push { cls := .type "tuple", data := .seq us.toArray }).push { cls := .ref C, data := .fields #[.ref u.objs.size, .none, .none, .none, .bool false, .none] }
theorem made2_keep {b : Addr} {o : Obj} (h : u.get? b = some o) : (made2 u C us).get? b = some o := Heap.get?_push_of_some _ (Heap.get?_push_of_some _ h)
theorem made2_at : (made2 u C us).get? (u.objs.size + 1) = some { cls := .ref C, data := .fields #[.ref u.objs.size, .none, .none, .none, .bool false, .none] } := by heap_get
theorem xtype_call {Q : Fin → Shared → Prop} (hK : u.get? C = some (excClassObj nm qn C N bs bm hdct sn sub ab col dd k0 k1 k2 k3 k5 "ValueError.__new__")) (tl : OwnTail u veMro bm) (LI : PySem.W.Looks (model prog w) u (typeLookup (.ref C) "__init__") (some (.ref fI))) (LF : PySem.W.Looks (model prog w) u (typeOf (.ref fI)) (.type "function")) (hl : us.length ≤ sizeLine)
    (q : wpAny (model prog w) A (call (.ref fI) (.ref (u.objs.size + 1) :: us)) (fun r s' => r = .none ∧ Q (.done (.ret (.ref (u.objs.size + 1)))) s') E ⟨made2 u C us, gs, dr, tk, ost⟩) :
    wpAny (model prog w) A (Builtin.«type.__call__» ⟨.ref C :: us, []⟩) Q E ⟨u, gs, dr, tk, ost⟩ := by
  have F := PySem.F.excBase_ValueError
  have hK1 : (made2 u C us).get? C = some (excClassObj nm qn C N bs bm hdct sn sub ab col dd k0 k1 k2 k3 k5 "ValueError.__new__") := made2_keep hK
  have LI1 := LI.keeps (h' := made2 u C us) fun b o hb => made2_keep hb
  have LF1 := LF.keeps (h' := made2 u C us) fun b o hb => made2_keep hb
  have hCC : (Value.ref C :: bm).contains (.ref C) = true := by simp
  have hX := made2_at (u := u) (C := C) (us := us)
  repeat (first | (with_reducible refine wpAny_loadPart_at hK ?_) | (with_reducible refine wpAny_madeBy_exc hK ?_) | wp_step)
  refine codeAny_call_builtin_code (Code.quiet_builtin _ F.quiet) ?_
  refine wpAny_check_new_subT F tl hK (codeAny_exc_new_subT F tl hK ?_ hl)
  show wpAny _ _ _ _ _ ⟨made2 u C us, gs, dr, tk, ost⟩
  unfold isInstance
  repeat (first | (with_reducible refine wpAny_loadPart_at hX ?_) | ((with_reducible refine wpAny_isSubtype_exc hK1 ?_); rw [hCC]) | wp_step)
  show wpAny _ _ (typeLookup (.ref C) "__init__") _ _ _
  refine LI1.at (wpAny_holding (wpAny_bind ?_))
  unfold bindSpecial
  refine wpAny_bind (LF1.at ?_)
  rw [if_pos (by decide)]
  refine wpAny_pure (wpAny_bind (wpAny_mono q (fun r s' hr => ?_) fun _ _ z => z))
  obtain ⟨rfl, hQ⟩ := hr
  wp_walk
  exact hQ
theorem xcall_init {Q : Value → Shared → Prop} (hK : u.get? C = some (excClassObj nm qn C N bs bm hdct sn sub ab col dd k0 k1 k2 k3 k5 "ValueError.__new__")) (tl : OwnTail u veMro bm) (LI : PySem.W.Looks (model prog w) u (typeLookup (.ref C) "__init__") (some (.ref fI))) (LF : PySem.W.Looks (model prog w) u (typeOf (.ref fI)) (.type "function")) (hl : us.length ≤ sizeLine)
    (q : wpAny (model prog w) (A.under (.builtin "type.__call__" ⟨.ref C :: us, []⟩)) (call (.ref fI) (.ref (u.objs.size + 1) :: us)) (fun r s' => r = .none ∧ Q (.ref (u.objs.size + 1)) s') E ⟨made2 u C us, gs, dr, tk, ost⟩) :
    wpAny (model prog w) A (call (.ref C) us) Q E ⟨u, gs, dr, tk, ost⟩ := by
  have g1 := tc_lookup
  have g2 := tc_bind (.ref C)
  have hTy : (⟨u, gs, dr, tk, ost⟩ : Shared).TypeIs (.ref C) "type" := ⟨_, hK, rfl⟩
  refine wpAny_call (codeAny_of_tree ?_)
  show wpAny _ _ (callAny (.ref C) _) _ _ _
  repeat (any_goals (first | assumption | (with_reducible refine wpAny_loadPart_at hK ?_) | wp_step))
  refine ⟨rfl, codeAny_call_builtin_at (Code.quiet_builtin _ (by decide +kernel)) entry_typeCall ?_⟩
  exact wpAny_check_type_call_sub hK (xtype_call hK tl LI LF hl q)
end
end L2

set_option Elab.async false
set_option linter.all false
set_option maxRecDepth 100000
set_option maxHeartbeats 4000000
/-! An own exception's __init__: self.f = value. -/
namespace L2
open PySem PySem.Spec PyProof.Rows
/-- an exception that has not flown yet -/
def xraw (x C : Addr) (od : Option Addr) : Heap → Prop := fun h => ∃ (oe : Obj) (t : Addr), h.get? x = some oe ∧ oe.cls = .ref C ∧ oe.dict = od ∧ oe.data = .fields #[.ref t, .none, .none, .none, .bool false, .none]
/-- an exception's dict -/
def xdict (d : Addr) (fs : List (Str × V)) : Heap → Prop := fun h => ∃ mA, h.Ns1 d mA ∧ ∀ g, RelO (fs.lookup g) (mA g)
theorem xraw_ok {P : Program} {w : World} {H : Hp} {h : Heap} {x C : Addr} {od : Option Addr} (r : xraw x C od h) : ObjOk P w H h x (.ext (xraw x C od)) := by
  refine ⟨r, let ⟨oe, _, e, _⟩ := r; ⟨oe, e⟩, fun h1 h2 ⟨oe, vs, e, r⟩ k => ⟨oe, vs, k _ e, r⟩⟩
theorem xdict_ok {P : Program} {w : World} {H : Hp} {h : Heap} {d : Addr} {fs : List (Str × V)} (r : xdict d fs h) : ObjOk P w H h d (.ext (xdict d fs)) := by
  refine ⟨r, let ⟨_, ⟨o, _, _, e, _⟩, _⟩ := r; ⟨o, e⟩, fun h1 h2 ⟨mA, ⟨o, es, ep, e, c⟩, r⟩ k => ⟨mA, ⟨o, es, ep, k _ e, c⟩, r⟩⟩
theorem ext_of {P : Program} {w : World} {H : Hp} {h : Heap} {a : Addr} {φ : Heap → Prop} (ok : HOk P w H h) (e : H a = some (.ext φ)) : φ h := (show ObjOk P w H h a (.ext φ) from ok a _ e).1
/-- an own exception's class, with its object -/
structure ExcCls (K : PySem.W.Frag) (C : Addr) : Prop where
  cls : ClsX K C
  ve : ∃ cd, PySem.W.clsIn K C = some cd ∧ veTail cd.mro = true
  ty : ∃ o, K.lookup C = some o ∧ o.cls = .type "type"
section
variable {X : Cx} {pins : List (Addr × Obj)} {σ : St} {H : Hp} {s : Shared} {x C dx : Addr} {f : Str} {y : V} {v : Value} {fs : List (Str × V)}
theorem setx_new {Q : Unit → Shared → Prop} (I : Inv X pins σ H s) (c : ExcCls X.K C) (na : PySem.W.findIn X.K (.ref C) f = some none) (e : H x = some (.ext (xraw x C none))) (r : RelV y v)
    (q : ∀ d s', H d = none → d ≠ x → Inv X pins σ (upd (upd H x (.ext (xraw x C (some d)))) d (.ext (xdict d [(f, y)]))) s' → Q () s') : wpAny (model X.prog X.w) X.A (setAttr (.ref x) f v) Q X.xe s := by
  obtain ⟨oe, t, hx, hc, hd, hf⟩ := ext_of I.hok e
  obtain ⟨cd, hcd, hve⟩ := c.ve
  have hxs : s.heap.objs.size ≠ x := Nat.ne_of_gt (Heap.lt_size hx)
  have hfr : H s.heap.objs.size = none := I.hok.fresh (Nat.le_refl _)
  refine excset_new I.kIn c.cls hcd hve hx hc hd hf na fun h' tk hx' hn' kp => q s.heap.objs.size _ hfr hxs ?_
  have raw : xraw x C (some s.heap.objs.size) h' := ⟨_, t, hx', hc, rfl, hf⟩
  have I1 : Inv X pins σ (upd H x (.ext (xraw x C (some s.heap.objs.size)))) { s with heap := h', toks := tk } :=
    I.write (x := x) (e := x) (by rw [e]; trivial) (.inl rfl) (fun b u hb hu => kp b u hb hu) ⟨_, hx'⟩ (xraw_ok raw)
  obtain ⟨od, es, ep, hod, rest⟩ := id hn'
  have sz := I.sz
  refine I1.track (a := s.heap.objs.size) hod ?_ (Nat.ne_of_gt I.lt) (.inr sz) (fun z cl hz e' => ?_) (fun p hp e' => ?_) (xdict_ok ⟨_, hn', fun g => ?_⟩)
  · rw [upd_ne hxs]
    exact hfr
  · obtain ⟨vv, ob, hb, _⟩ := I.cell z cl hz
    exact absurd (e' ▸ Heap.lt_size hb) (Nat.lt_irrefl _)
  · exact absurd (e' ▸ Heap.lt_size (I.pin p hp).1) (Nat.lt_irrefl _)
  · by_cases hg : g = f
    · subst hg
      simp only [List.lookup_cons, beq_self_eq_true, if_true]
      exact r
    · have hb : (g == f) = false := by simpa using hg
      simp only [List.lookup_cons, hb, if_neg hg, List.lookup_nil]
      trivial
theorem setx_more {Q : Unit → Shared → Prop} (I : Inv X pins σ H s) (c : ExcCls X.K C) (na : PySem.W.findIn X.K (.ref C) f = some none) (e : H x = some (.ext (xraw x C (some dx)))) (ed : H dx = some (.ext (xdict dx fs))) (hl : fs.length ≤ 900) (r : RelV y v)
    (q : ∀ s', Inv X pins σ (upd H dx (.ext (xdict dx (putF f y fs)))) s' → Q () s') : wpAny (model X.prog X.w) X.A (setAttr (.ref x) f v) Q X.xe s := by
  obtain ⟨oe, t, hx, hc, hd, hf⟩ := ext_of I.hok e
  obtain ⟨mA, hn, rm⟩ := ext_of I.hok ed
  obtain ⟨cd, hcd, hve⟩ := c.ve
  have hw : PySem.Within mA (fs.map (·.1)) := fun g hg => by
    cases hk : fs.lookup g with
    | none =>
      have := rm g
      rw [hk] at this
      cases hm : mA g with
      | none => exact absurd hm hg
      | some u => rw [hm] at this; exact this.elim
    | some z => exact List.mem_map.mpr ⟨(g, z), PySem.mem_of_lookup hk, rfl⟩
  refine excset_more I.kIn c.cls hcd hve hx hc hd hf hn na hw (by rw [List.length_map]; omega) fun h' tk hn' sb => q _ ?_
  obtain ⟨od, es, ep, hod, rest⟩ := id hn'
  refine I.write (x := dx) (e := dx) (by rw [ed]; trivial) (.inl rfl) (fun b u hb hu => (sb.2 b hb).trans hu) ⟨_, hod⟩ (xdict_ok ⟨_, hn', fun g => ?_⟩)
  rw [lookup_putF]
  by_cases hg : g = f
  · rw [if_pos hg, if_pos hg]; exact r
  · rw [if_neg hg, if_neg hg]; exact rm g
/-- self.f = value, of an exception -/
def sFldX (K : PySem.W.Frag) (C : Addr) (ta tv : TE) (f : Str) : TS := fun D σ H => tv σ H fun y H1 => ta σ H1 fun u H2 => ∃ x, u = .ref x ∧ ExcCls K C ∧ PySem.W.findIn K (.ref C) f = some none ∧
  ((H2 x = some (.ext (xraw x C none)) ∧ ∀ d, H2 d = none → d ≠ x → D.nx σ (upd (upd H2 x (.ext (xraw x C (some d)))) d (.ext (xdict d [(f, y)])))) ∨
  ∃ dx fs, H2 x = some (.ext (xraw x C (some dx))) ∧ H2 dx = some (.ext (xdict dx fs)) ∧ fs.length ≤ 900 ∧ D.nx σ (upd H2 dx (.ext (xdict dx (putF f y fs)))))
theorem qs_fldX {oe value : Expr} {pos pos' : Pos} {ta tv : TE} (K : PySem.W.Frag) (C : Addr) (ha : QE X oe ta) (hv : QE X value tv) (hs : swapsWith value (some (.Attribute oe f pos')) pos.line X.env = pure false := by rfl) (hk : X.K = K := by rfl) : QS X (.Assign [.Attribute oe f pos'] value pos) (sFldX K C ta tv f) := by
  subst hk
  refine ⟨fun pins s σ H D I h => ?_⟩
  refine plainObj_wpAny_Assign_Attribute (thn (hv.run pins s σ H _ I h) fun u s1 ⟨y, H1, I1, ry, q⟩ => thn (ha.run pins s1 σ H1 _ I1 q) fun ov s2 ⟨z, H2, I2, rz, x, ez, c, na, way⟩ => ?_) hs
  subst ez
  obtain rfl : ov = Value.ref x := rz
  rcases way with ⟨e, q2⟩ | ⟨dx, fs, e, ed, hl, q2⟩
  · exact setx_new I2 c na e ry fun d s3 hd hdx I3 => ⟨σ, _, I3, q2 d hd hdx⟩
  · exact setx_more I2 c na e ed hl ry fun s3 I3 => ⟨σ, _, I3, q2⟩
end
/-- an __init__ of one parameter, of two -/
def spX1 (C : Addr) (f : Str) : Sp := fun vs H Q _ => ∃ (x : Addr) (a : V), vs = [.ref x, a] ∧ H x = some (.ext (xraw x C none)) ∧ ∀ d, H d = none → d ≠ x → Q .non (upd (upd H x (.ext (xraw x C (some d)))) d (.ext (xdict d [(f, a)])))
end L2

set_option Elab.async false
set_option linter.all false
set_option maxRecDepth 100000
set_option maxHeartbeats 4000000
/-! raise C(..), C an own exception with an __init__ of its own. -/
namespace L2
open PySem PySem.Spec PyProof.Rows
/-- the base of the own exceptions -/
structure JOk (K : PySem.W.Frag) (J : Addr) : Prop where
  ex : ∃ c0 dd cd sl c1 d1 es n sl1, K.lookup J = some ⟨c0, dd, .cls cd, sl⟩ ∧ K.lookup cd.ns = some ⟨c1, d1, .dict es n, sl1⟩ ∧ StrKeys es ∧ nsFind es "__init__" = none
theorem JOk.tail {K : PySem.W.Frag} {J : Addr} {h : Heap} (j : JOk K J) (X : K.In h) : OwnTail h veMro (.ref J :: veMro) := by
  obtain ⟨c0, dd, cd, sl, c1, d1, es, n, sl1, e1, e2, e3, e4⟩ := j.ex
  exact .own (X _ _ e1) ⟨_, es, n, X _ _ e2, rfl, e3, fun _ => rfl⟩ e4 .base
/-- an own exception that can be made -/
structure XMk (K : PySem.W.Frag) (C fI : Addr) : Prop where
  obj : ∃ J nm qn N bs hdct sn sub ab col dd k0 k1 k2 k3 k5, K.lookup C = some (excClassObj nm qn C N bs (.ref J :: veMro) hdct sn sub ab col dd k0 k1 k2 k3 k5 "ValueError.__new__") ∧ JOk K J
  init : PySem.W.findIn K (.ref C) "__init__" = some (some (.ref fI))
  fn : PySem.W.isFn K (.ref fI) = true
  kp : PySem.W.keepIn K (.ref C) = true
  cls : ClsX K C
theorem XMk.ec {K : PySem.W.Frag} {C fI : Addr} (m : XMk K C fI) : ExcCls K C := by
  obtain ⟨J, nm, qn, N, bs, hdct, sn, sub, ab, col, dd, k0, k1, k2, k3, k5, e, _⟩ := m.obj
  refine ⟨m.cls, ⟨{ name := nm, bases := bs, mro := .ref C :: .ref J :: veMro, ns := N, qualname := qn, hasDict := hdct, slotNames := sn, subclasses := sub, abstract := ab, collection := col, hasDel := false }, ?_, by simp [veTail]⟩, _, e, rfl⟩
  unfold PySem.W.clsIn
  rw [e]
section
variable {X : Cx} {pins : List (Addr × Obj)} {σ : St} {H : Hp} {s : Shared} {C fI : Addr} {k : Nat} {fd : FuncData} {ps : List Str} {sp : Sp} {E : XK}
theorem Inv.madeX {us : List Value} (I : Inv X pins σ H s) : Inv X pins σ (upd H (s.heap.objs.size + 1) (.ext (xraw (s.heap.objs.size + 1) C none))) { s with heap := made2 s.heap C us } := by
  have sz : (s.heap.push { cls := .type "tuple", data := .seq us.toArray }).objs.size = s.heap.objs.size + 1 := Heap.size_push _ _
  exact I.laid (a := s.heap.objs.size + 1) (t' := s.toks) (fun b u q => made2_keep q) (Nat.le_succ _) (xraw_ok ⟨_, _, made2_at, rfl, rfl, rfl⟩)
theorem run_makeX {R : Hp → Prop} {us : List Value} {vs : List V} (M : XMk X.K C fI) (F : FnOk X.prog X.w X.K X.mg X.base CX0 k fI fd ps sp) (hr : Room (k + 1) X.A) (hb : Binds X.K fd ps []) (I : Inv X pins σ H s) (r : Vals vs us) (hl : vs.length ≤ 100)
    (hq : sp (.ref (s.heap.objs.size + 1) :: vs) (upd H (s.heap.objs.size + 1) (.ext (xraw (s.heap.objs.size + 1) C none))) (fun v H2 => v = .non ∧ R H2) E0) :
    wpAny (model X.prog X.w) X.A (call (.ref C) us) (fun u s' => u = .ref (s.heap.objs.size + 1) ∧ ∃ H', Inv X pins σ H' s' ∧ R H') X.xe s := by
  have I2 := Inv.madeX (C := C) (us := us) I
  have r2 : Vals (V.ref (s.heap.objs.size + 1) :: vs) (Value.ref (s.heap.objs.size + 1) :: us) := .cons rfl r
  have hps : ((Value.ref (s.heap.objs.size + 1) :: us) ++ []).length = ps.length := by
    rw [List.append_nil, ← r2.length]
    exact F.len _ _ _ _ hq
  obtain ⟨J, nm, qn, N, bs, hdct, sn, sub, ab, col, dd, k0, k1, k2, k3, k5, e, hj⟩ := M.obj
  have X0 := I.kIn
  have hul : us.length ≤ sizeLine := by rw [← r.length]; exact Nat.le_trans hl (by decide)
  have hbt := hb _ (Value.ref (s.heap.objs.size + 1) :: us) I2.kIn hps
  rw [List.append_nil] at hbt
  refine xcall_init (X0 _ _ e) (hj.tail X0) (PySem.W.looks_findIn X0 M.init) (PySem.W.looks_typeIn X0 (beq_iff_eq.mp M.fn)) hul ?_
  refine wpAny_call (codeAny_mono (F.run _ X.stack _ _ ⟨Value.ref (s.heap.objs.size + 1) :: us, []⟩ (Value.ref (s.heap.objs.size + 1) :: us) _ (fun v H2 => v = .non ∧ R H2) E0 (hr.make C us []) (I2.env0.make C us []) hbt r2 hq) fun rr s' hq' => ?_)
  cases rr with
  | error e => exact False.elim hq'
  | ok fl =>
    cases fl with
    | ret u =>
      obtain ⟨v, H', I3, rv, ev, q3⟩ := I2.after hq'
      subst ev
      exact ⟨rv, rfl, _, I3, q3⟩
    | next => exact False.elim hq'
    | brk => exact False.elim hq'
    | cont => exact False.elim hq'
/-- raise C(..) -/
def tRaise (C : Addr) (sp : Sp) (E : XK) (t : TA) : TS := fun _ σ H => t σ H fun vs H1 => vs.length ≤ 100 ∧ ∀ x, H1 x = none → sp (.ref x :: vs) (upd H1 x (.ext (xraw x C none))) (fun v H2 => v = .non ∧ ∃ od, H2 x = some (.ext (xraw x C od)) ∧ E (.ref C) od (upd H2 x (.ext (xfly x (.ref C) od)))) E0
theorem qs_raise {x : Str} {e : Expr} {es : List Expr} {t : TA} {p cpos pos : Pos} (E : XK) (M : XMk X.K C fI) (F : FnOk X.prog X.w X.K X.mg X.base CX0 k fI fd ps sp) (hr : Room (k + 1) X.A) (hm : X.mg x = some (.ref C)) (hb : Binds X.K fd ps []) (hlv : Leaves X E) (hc : X.calm = true) (ha : QA X (e :: es) t) (hg : Gl X x := by rfl) (hdb : (x == ("__debug__" : Str)) = false := by decide) :
    QS X (.Raise (some (.Call (.Name x p) (e :: es) [] cpos)) none pos) (tRaise C sp E t) := by
  refine ⟨fun pins s σ H D I h => ?_⟩
  rw [arm_exec_Raise]
  show wpAny _ _ (standAt pos >>= fun _ => raiseStmt X.env (some (eval (.Call (.Name x p) (e :: es) [] cpos) X.env >>= fun v => standAt pos >>= fun _ => pure v)) none) _ _ _
  refine wpAny_bind (wpAny_standAt ?_)
  unfold raiseStmt
  have ev : wpAny (model X.prog X.w) X.A (eval (.Call (.Name x p) (e :: es) [] cpos) X.env) (fun u s2 => ∃ (a : Addr) (H2 : Hp) (od : Option Addr), u = .ref a ∧ X.s₀.heap.objs.size ≤ a ∧ (∀ p ∈ X.pn ++ pins, p.1 ≠ a) ∧ Inv X pins σ H2 s2 ∧ H2 a = some (.ext (xraw a C od)) ∧ E (.ref C) od (upd H2 a (.ext (xfly a (.ref C) od)))) X.xe s := by
    refine wpAny_Call_Name_kw (ld_glob I hg hm ?_ hdb)
    refine PySem.W.callWith_K (h₀ := X.base) I.ok.mod.kin M.kp (thn (ha.run cpos pins s σ H _ I h) fun us s1 ⟨vs, H1, I1, r, hl, q⟩ => ⟨I1.kIn, ?_⟩) (starEach_ns (ns_hd ha.ns).1) (backTo_ns (ns_hd ha.ns).2)
    refine thn (run_makeX M F hr hb I1 r hl (q (s1.heap.objs.size + 1) (I1.hok.fresh (Nat.le_succ _)))) fun u s2 ⟨eu, H2, I2, od, e2, q2⟩ => ⟨_, H2, od, eu, Nat.le_trans I1.sz (Nat.le_succ _), fun p hp z => ?_, I2, e2, q2⟩
    exact absurd (z ▸ Heap.lt_size (I1.pin p hp).1) (Nat.not_lt.mpr (Nat.le_succ _))
  refine wpAny_bind (wpAny_bind (thn ev fun u s1 ⟨a, H1, od, eu, sa, pa, I1, ex, q⟩ => wpAny_bind (wpAny_standAt (wpAny_pure ?_))))
  subst eu
  obtain ⟨oe, t, hx, hcl, hod, hdt⟩ := ext_of I1.hok ex
  have L := PySem.W.looks_mroIn (M := model X.prog X.w) I1.kIn M.cls.isx
  obtain ⟨oC, hoC, hoT⟩ := M.ec.ty
  have hC := I1.kIn _ _ hoC
  obtain ⟨oc, od', odt, osl⟩ := oe
  dsimp only at hcl hod hdt
  subst hcl hod hdt
  have fin : X.xe (.ref a) s1 := by
    have I2 : Inv X pins σ (upd H1 a (.ext (xfly a (.ref C) od'))) s1 :=
      I1.write (x := a) (e := a) (h' := s1.heap) (t' := s1.toks) (o := .ext (xfly a (.ref C) od')) (by rw [ex]; trivial) (.inl rfl) (fun b u _ hu => hu) ⟨_, hx⟩ (xfly_ok ⟨_, _, hx, rfl, rfl, rfl⟩)
    exact hlv pins σ _ s1 ⟨a, .ref C, od', none, _, rfl, I2, upd_same, sa, pa, (fun T e => nomatch e), ⟨⟨_, _, hx, rfl, rfl, rfl, rfl⟩, fun T e => nomatch e⟩, q⟩
  have hh := I1.ok.hd hc
  obtain ⟨hp, g, d, tk, os⟩ := s1
  repeat (first | (with_reducible refine wpAny_loadPart_at hx ?_) | ((with_reducible refine wpAny_loadPart_at hC ?_); rw [hoT]) | (with_reducible refine L.at ?_) | wp_step)
  exact wpAny_raiseNew_none hh fin
end
end L2

set_option Elab.async false
set_option linter.all false
set_option maxRecDepth 100000
set_option maxHeartbeats 4000000
/-! isinstance of an exception. -/
namespace L2
open PySem PySem.Spec PyProof.Rows
/-- what isinstance asks of an exception's class -/
structure ClsI (K : PySem.W.Frag) (C : Addr) : Prop where
  cx : ClsX K C
  ha : PySem.W.findIn K (.ref C) "__class__" = some (some (.builtin "object.__class__"))
  hn : PySem.W.specialIn K (.builtin "object.__class__") "__get__" = some (some (.builtin "getset_descriptor.__get__"))
  tk : PySem.W.takesIn K (.builtin "object.__class__") = some true
section
variable {prog : Program} {w : World} {A : Around} {E : Value → Shared → Prop} {K : PySem.W.Frag} {x C : Addr} {o od : Obj} {s : Shared}
theorem excclass_code {tk : Tok} {R : Result → Shared → Prop} (X : K.In s.heap) (c : ClsI K C) (I : PySem.W.InstAt s.heap x o C (some od)) (q : R (.ok (.ret (.ref C))) s) :
    codeAny (model prog w) A (.call (.builtin "BaseException.__getattribute__") ⟨[.ref x, .str "__class__" tk], []⟩) R s := by
  have L4 := PySem.W.looks_mroIn (M := model prog w) X c.cx.isx
  have hf : PySem.W.findObj K C (some od) "__class__" = some (.bind (.builtin "getset_descriptor.__get__") (.builtin "object.__class__")) := PySem.W.findObj_data (by obtain ⟨cd, hc, _⟩ := PySem.W.any_some c.cx.hd; rw [hc]; rfl) c.ha c.hn c.tk
  have L5 := PySem.W.looks_find (M := model prog w) X I hf
  have L0 := I.type (M := model prog w)
  refine codeAny_call_builtin PySem.F.excAttr_ValueError.ga.plain PySem.F.entry_bexc_ga ?_
  refine @PySem.W.check_slot (model prog w) _ _ s "BaseException.__getattribute__" "BaseException" "__getattribute__" (.ref x) [.str "__class__" tk] [] _ gaKind gaSplit (L0.andThen L4) (PySem.F.args_bexc_ga _ _) ?_
  show wpAny _ _ (Builtin.«object.__getattribute__» ⟨[.ref x, .str "__class__" tk], []⟩) _ _ _
  unfold Builtin.«object.__getattribute__»
  refine wpAny_bind (wpAny_pure (wpAny_bind (wpAny_pure (wpAny_bind (L0.here (wpAny_bind (L5.here ?_)))))))
  show wpAny _ _ (holding [.builtin "object.__class__"] (call (.builtin "getset_descriptor.__get__") [.builtin "object.__class__", .ref x, .ref C]) >>= ret) _ _ _
  exact wpAny_bind (wpAny_holding (wpAny_call (PySem.W.class_get (ox := o) (od := some od) X I c.cx.iso (wpAny_pure q))))
theorem excclass {Q : Option Value → Shared → Prop} (X : K.In s.heap) (c : ClsI K C) (I : PySem.W.InstAt s.heap x o C (some od)) (q : Q (some (.ref C)) { s with toks := s.toks + 1 }) : wpAny (model prog w) A (getAttr? (.ref x) "__class__") Q E s := by
  obtain ⟨h, g, d, t, os⟩ := s
  have L0 := I.type (M := model prog w)
  have L1 := PySem.W.looks_findIn (M := model prog w) X c.cx.ga
  have L2 := PySem.W.looks_findIn (M := model prog w) X c.cx.gh
  have f3 := PySem.F.excAttr_ValueError.ga.bind (.ref x)
  have hx0 : (false && onTheHeap (Value.builtin "BaseException.__getattribute__")) = false := rfl
  have hx2 : (Value.builtin "BaseException.__getattribute__" == Value.builtin "object.__getattribute__") = false := by decide +kernel
  have hx1 : (onTheHeap (Value.ref C) && Value.builtin "BaseException.__getattribute__" == Value.builtin "object.__getattribute__") = false := by rw [hx2]; rfl
  unfold getAttr? getAttrBy? getAttrBy
  repeat (first | assumption | with_reducible refine L0.at ?_ | with_reducible refine L1.at ?_ | with_reducible refine L2.at ?_ | wp_step)
  refine excclass_code (s := ⟨h, g, d, t + 1, os⟩) X c I ?_
  exact PySem.W.handed_on (v := .ref C) rfl (wpAny_pure q)
theorem kitx_exc (c : ClsI K C) : PySem.W.KitX K (.ref x) (.ref C) (fun h => ∃ o od, PySem.W.InstAt h x o C (some od)) where
  ty := fun _ _ _ ⟨_, _, I⟩ => I.type
  it := fun _ _ X _ => by
    obtain ⟨cd, e, _⟩ := PySem.W.any_some c.cx.hd
    unfold PySem.W.clsIn at e
    split at e
    · rename_i c1 d1 cd1 sl1 e1
      exact fun A' Q' E' s' k q => by
        unfold isType loadHead
        exact wpAny_bind (wpAny_loadPart (k _ _ (X _ _ e1)) (wpAny_pure q))
    · cases e
  ne := fun h tp dd its n sl X htp => by
    obtain ⟨cd, e, _⟩ := PySem.W.any_some c.cx.hd
    refine Bool.eq_false_iff.mpr fun q => ?_
    have e1 : C = tp := Value.ref.inj (beq_iff_eq.mp q)
    subst e1
    unfold PySem.W.clsIn at e
    split at e
    · rename_i c1 d1 cd1 sl1 e2
      have z := (X _ _ e2).symm.trans htp
      cases z
    · cases e
  ca := fun X ⟨_, _, I⟩ k => excclass X c I k
end
/-- the classes that isinstance is asked for -/
inductive Asked (K : PySem.W.Frag) (H : Hp) (C : Addr) : V → Bool → Prop where
  | own {D : Addr} {b : Bool} (e : PySem.W.kitOne K (.ref C) (.ref D) = some b) : Asked K H C (.ref D) b
  | ty {T : String} {b : Bool} (e : PySem.W.kitOne K (.ref C) (.type T) = some b) : Asked K H C (.ty T) b
  | tup {t : Addr} {ds : List Addr} {b : Bool} (h : H t = some (.tup (ds.map V.ref))) (e : PySem.W.kitAny K (.ref C) (ds.map Value.ref) = some b) : Asked K H C (.ref t) b
theorem vals_refs : ∀ {ds : List Addr} {us : List Value}, Vals (ds.map V.ref) us → us = ds.map Value.ref
  | [], _, .nil => rfl
  | d :: ds, _, .cons r t => by
    have e := vals_refs t
    subst e
    have : _ = Value.ref d := r
    subst this
    rfl
section
variable {X : Cx}
def rIsiX (K : PySem.W.Frag) : List V → Hp → VK → Prop := fun xs H Q => ∃ (x C dx : Addr) (fs : List (Str × V)) (y : V) (b : Bool), xs = [.ref x, y] ∧ H x = some (.ext (xfly x (.ref C) (some dx))) ∧ H dx = some (.ext (xdict dx fs)) ∧ ClsI K C ∧ Asked K H C y b ∧ Q (.bl b) H
theorem isi_inst {P : Program} {w : World} {H : Hp} {h : Heap} {x C dx : Addr} {fs : List (Str × V)} (ok : HOk P w H h) (e1 : H x = some (.ext (xfly x (.ref C) (some dx)))) (e2 : H dx = some (.ext (xdict dx fs))) : ∃ (o od : Obj) (mA : Str → Option Value), PySem.W.InstAt h x o C (some od) ∧ (∀ name, PySem.W.lookIn name od = some (mA name)) ∧ ∀ g, RelO (fs.lookup g) (mA g) := by
  obtain ⟨oe, vs, hx, hc, hd, hf⟩ := ext_of ok e1
  obtain ⟨mA, hn, rm⟩ := ext_of ok e2
  obtain ⟨od, hod, hl⟩ := lookIn_ns hn
  exact ⟨oe, od, mA, ⟨hx, hc, by unfold PySem.W.notCls; rw [hf], by rw [hd]; exact hod⟩, hl, rm⟩
theorem call_isiX (K : PySem.W.Frag) (hk : X.K = K := by rfl) : CallR X (.builtin "isinstance") (rIsiX K) := by
  subst hk
  intro pins s σ H xs us Q I r h
  obtain ⟨x, C, dx, fs, y, b, rfl, e1, e2, c, a, q⟩ := h
  obtain ⟨o, od, mA, In, _, _⟩ := isi_inst I.hok e1 e2
  obtain ⟨u1, u2, rfl, r1, r2⟩ := r.two
  obtain rfl : u1 = Value.ref x := r1
  have fin : ∀ tk, EP X pins σ Q (.bool b) { s with toks := tk } := fun tk => ⟨.bl b, H, I.tok tk, rfl, q⟩
  cases a with
  | own e =>
    obtain rfl := (show u2 = Value.ref _ from r2)
    exact PySem.W.kia_one (kitx_exc c) I.kIn ⟨_, _, In⟩ e (fun z => nomatch z) fin
  | ty e =>
    obtain rfl := (show u2 = Value.type _ from r2)
    exact PySem.W.kia_one (kitx_exc c) I.kIn ⟨_, _, In⟩ e (fun z => nomatch z) fin
  | tup h e =>
    obtain rfl := (show u2 = Value.ref _ from r2)
    obtain ⟨_, its, rv, ob, ho, hcl, n, hdt, _⟩ := (show ObjOk X.prog X.w H s.heap _ (.tup _) from I.hok _ _ h)
    have := vals_refs rv
    subst this
    obtain ⟨oc, od1, odt, osl⟩ := ob
    dsimp only at hcl hdt
    subst hcl hdt
    exact PySem.W.kia_tup (kitx_exc c) I.kIn ⟨_, _, In⟩ ho e (fun z => nomatch z) fin
/-- e.f of an exception -/
def tFldX (K : PySem.W.Frag) (ta : TE) (f : Str) : TE := fun σ H Q => ta σ H fun u H1 => ∃ (x C dx : Addr) (fs : List (Str × V)) (v : V), u = .ref x ∧ H1 x = some (.ext (xfly x (.ref C) (some dx))) ∧ H1 dx = some (.ext (xdict dx fs)) ∧ ClsX K C ∧ PySem.W.findIn K (.ref C) f = some none ∧ fs.lookup f = some v ∧ Q v H1
theorem qe_fldX {e : Expr} {ta : TE} {f : Str} {pos : Pos} (K : PySem.W.Frag) (he : QE X e ta) (hb : attributeBase e f X.env (eval e X.env) = eval e X.env := by rfl) (hk : X.K = K := by rfl) : QE X (.Attribute e f pos) (tFldX K ta f) := by
  subst hk
  refine ⟨fun pins s σ H Q I h => attr_of hb (thn (he.run pins s σ H _ I h) fun u s1 ⟨z, H1, I1, rz, x, C, dx, fs, v, ez, e1, e2, c, na, l, q⟩ => ?_)⟩
  subst ez
  obtain rfl : u = Value.ref x := rz
  obtain ⟨o, od, mA, In, hl, rm⟩ := isi_inst I1.hok e1 e2
  obtain ⟨u', hu, ru⟩ := RelO.some_of (v := v) (o := mA f) (by rw [← l]; exact rm f)
  exact excget I1.kIn c In na (by rw [hl, hu]) (PySem.W.handedOut_of (handed_of ru)) ⟨v, H1, I1.tok _, ru, q⟩
end
end L2

set_option Elab.async false
set_option linter.all false
set_option maxRecDepth 100000
set_option maxHeartbeats 4000000
/-! try: one statement; except C as e: a suite that raises nothing. -/
namespace L2
open PySem PySem.Spec PyProof.Rows
/-- an expression that may raise: what is wanted of the exception is its own -/
structure QEx (X : Cx) (e : Expr) (t : XK → TE) : Prop where
  run : ∀ (E : XK) (pins : List (Addr × Obj)) (s : Shared) (σ : St) (H : Hp) (Q : VK), Inv X pins σ H s → t E σ H Q → wpAny (model X.prog X.w) X.A (eval e X.env) (EP X pins σ Q) (XP X pins σ E) s
section
variable {X : Cx} {pins : List (Addr × Obj)} {σ : St} {H : Hp} {s : Shared} {E : XK}
theorem EP.unwish {Ex : Value → Shared → Prop} {Q : VK} {u : Value} {s' : Shared} (h : EP (X.wish Ex) pins σ Q u s') : EP X pins σ Q u s' := let ⟨v, H', I, r, q⟩ := h; ⟨v, H', I.unwish, r, q⟩
theorem run_fnX {k : Nat} {f : Addr} {fd : FuncData} {ps : List Str} {sp : Sp} {Q : VK} {us : List Value} {vs : List V} (F : FnOk X.prog X.w X.K X.mg X.base (CX1 X.prog X.w) k f fd ps sp) (hr : Room k X.A) (hb : Binds X.K fd ps []) (I : Inv X pins σ H s) (r : Vals vs us) (h : sp vs H Q E) :
    wpAny (model X.prog X.w) X.A (call (.ref f) us) (EP X pins σ Q) (XP X pins σ E) s := by
  have hl : (us ++ []).length = ps.length := by rw [List.append_nil, ← r.length]; exact F.len _ _ _ _ h
  have hbt := hb s us I.kIn hl
  rw [List.append_nil] at hbt
  refine wpAny_call (codeAny_mono (F.run X.A X.stack s H ⟨us, []⟩ us vs Q E hr I.env0 hbt r h) fun rr s' hq => ?_)
  cases rr with
  | error e => exact xp_of I hq
  | ok fl =>
    cases fl with
    | ret u => exact I.after hq
    | next => exact False.elim hq
    | brk => exact False.elim hq
    | cont => exact False.elim hq
theorem qx_call {k : Nat} {x : Str} {ps : List Str} {sp : Sp} {e : Expr} {es : List Expr} {t : TA} {p pos : Pos} (D : DefX X.prog X.w X.K X.mg X.base k x ps sp) (hr : Room k X.A) (ha : ∀ Ex, QA (X.wish Ex) (e :: es) t) (hg : Gl X x := by rfl) (hdb : (x == ("__debug__" : Str)) = false := by decide) :
    QEx X (.Call (.Name x p) (e :: es) [] pos) (fun E => tCallX sp E t) := by
  obtain ⟨f, fd, F, hm, hk, hb⟩ := D.ex
  refine ⟨fun E pins s σ H Q I h => wpAny_Call_Name_kw (ld_glob I hg hm ?_ hdb)⟩
  have hA := ha (XP X pins σ E)
  refine PySem.W.callWith_K (h₀ := X.base) I.ok.mod.kin hk (thn (hA.run pos pins s σ H _ (I.wish _) h) fun us s1 ⟨vs, H1, I1, r, q⟩ => ⟨I1.unwish.kIn, ?_⟩) (starEach_ns (ns_hd hA.ns).1) (backTo_ns (ns_hd hA.ns).2)
  exact run_fnX F hr hb I1.unwish r q
/-- what an exception is not -/
theorem fly_not {x : Addr} {cls : Value} {od : Option Addr} (I : Inv X pins σ H s) (f : xfly x cls od s.heap) : x ≠ X.env.locals ∧ ∀ y c, X.env.cells.lookup y = some c → c ≠ x := by
  obtain ⟨oe, vs, hx, _, _, hd⟩ := f
  refine ⟨fun z => ?_, fun y c hc z => ?_⟩
  · obtain ⟨m, ⟨o, es, ep, ho, hd', _⟩, _⟩ := I.loc
    rw [← z, hx] at ho
    cases ho
    rw [hd] at hd'
    cases hd'
  · obtain ⟨v, o, ho, hd'⟩ := I.cell y c hc
    rw [z, hx] at ho
    cases ho
    rw [hd] at hd'
    cases hd'
theorem Inv.noted {h' : Heap} {x : Addr} {cls : Value} {od tb : Option Addr} (I : Inv X pins σ H s) (nt : Noted (frs X.stack) x tb s.heap h') (ex : H x = some (.ext (xfly x cls od))) (fl : xfly x cls od h') (sx : X.s₀.heap.objs.size ≤ x) (px : ∀ p ∈ X.pn ++ pins, p.1 ≠ x)
    (hT : ∀ T, tb = some T → H T = none ∧ X.s₀.heap.objs.size ≤ T ∧ ∀ p ∈ X.pn ++ pins, p.1 ≠ T) (tT : ∀ T, tb = some T → ∃ oT ts, s.heap.get? T = some oT ∧ oT.data = .fields ts) : Inv X pins σ H { s with heap := h' } := by
  have fx := fly_not I (ext_of I.hok ex)
  refine I.call (g' := s.gens) (t' := s.toks) (d' := s.drawn) (ch := x :: tb.toList) ⟨fun b o hb n hf hc => ?_, fun b o hb n hf hc => nt.slot b o hb hf, fun b o hb n _ => n, fun b o hb _ => nt.there b o hb, fun _ _ e => e, fun _ _ _ e => e, fun b ps e => ⟨#[], by rw [e]; simp⟩⟩ (I.hok.noted nt ex fl (fun T e => (hT T e).1) I.stkFree) I.bare fun b hb => ?_
  · refine nt.keep b o hb (fun z => hc (by rw [z]; exact List.mem_cons_self ..)) (fun z => hc (List.mem_cons_of_mem _ (by rw [z]; simp))) hf
  · rcases List.mem_cons.mp hb with rfl | hb
    · exact ⟨.inr sx, fx.1, fx.2, px⟩
    · have e : tb = some b := by
        cases tb with
        | none => cases hb
        | some T => simp at hb; rw [hb]
      obtain ⟨oT, ts, h1, h2⟩ := tT b e
      have fT := fly_not (x := b) (cls := oT.cls) (od := oT.dict) I ⟨oT, ts, h1, rfl, rfl, h2⟩
      exact ⟨.inr (hT b e).2.1, fT.1, fT.2, (hT b e).2.2⟩
/-- a name is gone -/
theorem Inv.gone {h' : Heap} {tk : Nat} {j : Nat} {n : Str} {m : Str → Option Value} {v : Option Value} (I : Inv X pins σ H s) (hN : X.N.Nodup) (hj : X.N[j]? = some n) (hl : ∀ (i : Nat) (x : Str) (w : V), X.N[i]? = some x → σ[i]? = some (some w) → Vis X.env.scope x → ∃ u, RelV w u ∧ Look X.env s.heap m x u)
    (hn' : h'.Ns X.env.locals (fun y => if y = n then v else m y)) (hs : Heap.SameBut X.env.locals s.heap h') : Inv X pins (σ.set j none) H { s with heap := h', toks := tk } := by
  have cne := I.cne
  have up := I.ok.above
  have old : ∀ b (o : Obj), X.s₀.heap.get? b = some o → b ≠ X.env.locals := fun b o e => Nat.ne_of_lt (Nat.lt_of_lt_of_le (Heap.lt_size e) up)
  refine ⟨I.ok, I.os, I.bare, ⟨fun b o e n' hb hx => ?_, fun b o e n' hb hx => ?_, I.base.free, fun b o e hx => ?_, I.base.tups, I.base.frzs, I.base.tbls⟩, ⟨_, hn', fun i y w e1 e2 e3 => ?_⟩, fun y c e => ?_, I.free, I.freeC, fun p hp => ?_, fun b ob e => ?_, by simpa using I.len⟩
  · exact (hs.2 b (old b o e)).trans (I.base.keep b o e n' hb hx)
  · obtain ⟨sl, e1⟩ := I.base.slot b o e n' hb hx
    exact ⟨sl, (hs.2 b (old b o e)).trans e1⟩
  · obtain ⟨o', e1⟩ := I.base.there b o e hx
    exact ⟨o', (hs.2 b (old b o e)).trans e1⟩
  · have hij : i ≠ j := fun z => by
      subst z
      by_cases hlt : i < σ.length
      · rw [List.getElem?_set_self hlt] at e2
        cases e2
      · rw [List.getElem?_eq_none (by rw [List.length_set]; omega)] at e2
        cases e2
    rw [List.getElem?_set_ne (Ne.symm hij)] at e2
    obtain ⟨u, r, q⟩ := hl i y w e1 e2 e3
    refine ⟨u, r, ?_⟩
    rcases q with ⟨k, e⟩ | ⟨k, c, e, ob, hob, hdc⟩
    · have hyn : y ≠ n := fun z => hij (nodup_ix hN e1 (z ▸ hj))
      exact .inl ⟨k, by simp [hyn, e]⟩
    · exact .inr ⟨k, c, e, ob, (hs.2 c (cne y c e)).trans hob, hdc⟩
  · obtain ⟨w, ob, hob, hdc⟩ := I.cell y c e
    exact ⟨w, ob, (hs.2 c (cne y c e)).trans hob, hdc⟩
  · obtain ⟨p1, p2, p3, p4, p5⟩ := I.pin p hp
    exact ⟨(hs.2 p.1 p3).trans p1, p2, p3, p4, p5⟩
  · have free := I.free
    refine (I.hok b ob e).stay (fun c w' hc q => (hs.2 c fun z => ?_).trans q) (fun _ q => q) fun _ _ q => q
    rcases hc with rfl | hc
    · rw [z, free] at e; cases e
    · rw [z, free] at hc; cases hc
end
/-- within an except suite -/
def hctx (X : Cx) (x : Addr) : Cx := { X with A := X.A.mark (some (.ref x)), calm := false, xe := fun _ _ => False }
theorem Inv.hctx {X : Cx} {pins : List (Addr × Obj)} {σ : St} {H : Hp} {s : Shared} (I : Inv X pins σ H s) (x : Addr) : Inv (hctx X x) pins σ H s :=
  ⟨⟨I.ok.mod, I.ok.kind, I.ok.glob, I.ok.blt, I.ok.above, I.ok.inj, I.ok.has, I.ok.cab, fun z => (by cases z), I.ok.frames, I.ok.stk, I.ok.exf, I.ok.bs, I.ok.bsz, I.ok.noex, I.ok.exfs, I.ok.funs, I.ok.frf⟩, I.os, I.bare, I.base, I.loc, I.cell, I.free, I.freeC, I.pin, I.hok, I.len⟩
theorem Inv.unhctx {X : Cx} {pins : List (Addr × Obj)} {σ : St} {H : Hp} {s : Shared} {x : Addr} (ok : X.Ok) (I : Inv (L2.hctx X x) pins σ H s) : Inv X pins σ H s :=
  ⟨ok, I.os, I.bare, I.base, I.loc, I.cell, I.free, I.freeC, I.pin, I.hok, I.len⟩
end L2

set_option Elab.async false
set_option linter.all false
set_option maxRecDepth 100000
set_option maxHeartbeats 4000000
namespace L2
open PySem PySem.Spec PyProof.Rows
theorem flight_again {M : Model} {A : Around} {Ex : Value → Shared → Prop} {s : Shared} {base : Heap} {l : List Env} {x T : Addr} {cls : Value} {od : Option Addr} {Q : Unit → Shared → Prop} (hl : s.heap.FunFrames base l) (ea : ExcAt s.heap x cls od (some T))
    (h : ∀ h', Noted (frs l) x (some T) s.heap h' → ExcAt h' x cls od (some T) → Q () { s with heap := h' }) : wpAny M A (setFlight (.ref x) none) Q Ex s := by
  obtain ⟨⟨oe, vs, he, hc, hod, hd, h1⟩, ht⟩ := ea
  obtain ⟨hTx, oT, ts, hT, hdT, h3⟩ := ht T rfl
  have h3s : 3 < ts.size := (Array.getElem?_eq_some_iff.mp h3).1
  unfold setFlight
  refine wpAny_bind (wpAny_field he hd h1 ?_)
  rw [if_pos (show ((some T : Option Addr).elim Value.none Value.ref != Value.none) = true by simp)]
  refine wpAny_setField hT hdT h3s ?_
  have ot : ∀ b, b ≠ T → (s.heap.update T (Obj.mapFields (·.setIfInBounds 3 ((none : Option Addr).elim Value.none fun f => rawInt f)))).get? b = s.heap.get? b := fun b hb => Heap.get?_update_other _ _ (Ne.symm hb)
  have hT' := Heap.get?_update_self (Obj.mapFields (·.setIfInBounds 3 ((none : Option Addr).elim Value.none fun f => rawInt f))) hT (Obj.isFreed_of_fields (Obj.data_mapFields hdT _))
  have hTf : T ∉ frs l := frame_not hl hT hdT
  refine h _ ⟨fun b o hb _ hbT _ => ?_, fun b o hb hbf => ?_, fun b o hb => ?_⟩ ⟨⟨oe, vs, (ot x hTx.symm).trans he, hc, hod, hd, h1⟩, fun T' e => ?_⟩
  · exact (ot b fun z => hbT (by rw [z])).trans hb
  · exact ⟨o.slots, (ot b fun z => hTf (z ▸ hbf)).trans hb⟩
  · by_cases z : b = T
    · subst z
      exact ⟨_, hT'⟩
    · exact ⟨o, (ot b z).trans hb⟩
  · cases e
    exact ⟨hTx, _, _, hT', Obj.data_mapFields hdT _, by simp [h3s]⟩
/-- behind a suite the name is gone -/
def Ends.after (D : Ends) (j : Nat) : Ends := { nx := fun σ H => D.nx (σ.set j none) H, rt := D.rt, bk := fun σ H => D.bk (σ.set j none) H, ct := fun σ H => D.ct (σ.set j none) H }
section
variable {X : Cx} {pins : List (Addr × Obj)} {σ : St} {H : Hp} {s : Shared} {D : Ends} {th : TS} {cn n : Str} {C0 : Addr} {np hpos : Pos} {b0 : Stmt} {suite : List Stmt} {j : Nat} {e : Value}
/-- what a clause wants of the exception -/
def clauseAs (K : PySem.W.Frag) (C0 : Addr) (j : Nat) (th : TS) (D : Ends) (σ : St) : XK := fun cls od H' => PySem.W.exmOne K cls (.ref C0) = some true ∧ ∀ x, H' x = some (.ext (xfly x cls od)) → th (D.after j) (σ.set j (some (.ref x))) H'
theorem looks_fly {M : Model} {h : Heap} {x : Addr} {cls : Value} {od tb : Option Addr} (ea : ExcAt h x cls od tb) : PySem.W.Looks M h (typeOf (.ref x)) cls := by
  obtain ⟨oe, vs, hx, hc, _⟩ := ea.obj
  exact hc ▸ (PySem.W.Looks.ld hx).andThen .now
theorem handle_as (hst : X.stack = X.env :: X.outer) (hfr : X.env.frame = some X.env.locals) (hm : X.mg cn = some (.ref C0)) (hg : Gl X cn) (hdb : (cn == ("__debug__" : Str)) = false) (hN : X.N.Nodup) (hj : X.N[j]? = some n) (hloc : X.env.scope.names.lookup n = some .local) (hs : ∀ x, QSs (hctx X x) (b0 :: suite) th)
    (h : XP X pins σ (clauseAs X.K C0 j th D σ) e s) :
    wpAny (model X.prog X.w) X.A (noteFrame e X.env) (fun _ s₂ => wpAny (model X.prog X.w) X.A (setFlight e none) (fun _ s₃ => wpAny (model X.prog X.w) X.A (handleBy e X.env [.ExceptHandler (some (.Name cn np)) (some n) (b0 :: suite) hpos]) (SP X pins D) X.xe s₃) X.xe s₂) X.xe s := by
  obtain ⟨x, cls, od, tb, H', rfl, I, ex, sx, px, hT, ea, he, q⟩ := h
  have frames := I.ok.frames
  have stack := I.stack
  rw [hst] at frames stack
  refine note_flight frames stack hfr ea fun h2 T2 hsz nt ea2 => ?_
  have I2 : Inv X pins σ H' { s with heap := h2 } := I.noted (by rw [hst]; exact nt) ex ea2.fly sx px hT fun T eT => let ⟨_, oT, ts, a, b, _⟩ := ea.hd T eT; ⟨oT, ts, a, b⟩
  have hT2 : ∀ T, some T2 = some T → H' T = none ∧ X.s₀.heap.objs.size ≤ T ∧ ∀ p ∈ X.pn ++ pins, p.1 ≠ T := fun T eT => by
    cases eT
    exact ⟨I.hok.fresh hsz, Nat.le_trans I.sz hsz, fun p hp z => absurd (z ▸ Heap.lt_size (I.pin p hp).1) (Nat.not_lt.mpr hsz)⟩
  refine wpAny_handleBy_cons (codeAny_handlers_test ?_) (by intro z; cases z)
  refine ld_glob (X := hctx X x) (I2.hctx x) hg hm ?_ hdb
  refine (PySem.W.exm_one (h := h2) I2.kIn (looks_fly ea2) he).here ?_
  show codeAny _ _ (.handlers (.ref x) [.ExceptHandler none (some n) (b0 :: suite) hpos] X.env) _ _
  refine codeAny_handlers_suite_as ?_
  have stack2 := I2.stack
  refine flight_again (T := T2) stack2 ea2 fun h3 nt3 ea3 => ?_
  have I3 : Inv X pins σ H' { s with heap := h3 } := I2.noted nt3 ex ea3.fly sx px hT2 fun T eT => let ⟨_, oT, ts, a, b, _⟩ := ea2.hd T eT; ⟨oT, ts, a, b⟩
  refine store_ok (X := hctx X x) (v := .ref x) (I3.hctx x) hN hj (.inl hloc) rfl (fun s4 I4 => ?_) (.inr hloc)
  refine wpAny_mono ((hs x).run pins s4 (σ.set j (some (.ref x))) H' (D.after j) I4 (q x ex)) (fun f s5 hsp => ?_) fun _ _ z => z.elim
  have hk : (X.env.scope.kind == .class || (X.env.scope.kind == .module && X.env.locals != X.env.globals)) = false := by rw [I.ok.kind]; rfl
  have go : ∀ {σ5 : St} {H5 : Hp} {R : Shared → Prop}, Inv (hctx X x) pins σ5 H5 s5 → (∀ s6, Inv X pins (σ5.set j none) H5 s6 → R s6) → wpAny (model X.prog X.w) X.A (do bindName X.env n .none; unbindBehindTheSuite X.env n hpos) (fun _ s6 => R s6) X.xe s5 := fun {σ5 H5 R} I5 k => by
    have J := Inv.unhctx I.ok I5
    obtain ⟨m, hn, hl⟩ := id J.loc
    exact wpAny_nameGoes_keeps hloc hn hk fun h6 v hn' hs' => k _ (J.gone hN hj hl hn' hs')
  cases f with
  | next => obtain ⟨σ5, H5, I5, q5⟩ := hsp; exact go I5 fun s6 I6 => ⟨_, H5, I6, q5⟩
  | brk => obtain ⟨σ5, H5, I5, q5⟩ := hsp; exact go I5 fun s6 I6 => ⟨_, H5, I6, q5⟩
  | cont => obtain ⟨σ5, H5, I5, q5⟩ := hsp; exact go I5 fun s6 I6 => ⟨_, H5, I6, q5⟩
  | ret u => obtain ⟨v, σ5, H5, I5, r5, q5⟩ := hsp; exact go I5 fun s6 I6 => ⟨v, _, H5, I6, r5, q5⟩
/-- try: x = e; except C as n: suite -/
def tTrySet (K : PySem.W.Frag) (C0 : Addr) (i j : Nat) (te : XK → TE) (th : TS) : TS := fun D σ H => te (clauseAs K C0 j th D σ) σ H fun v H1 => D.nx (σ.set i (some v)) H1
variable {i : Nat} {x : Str} {ex : Expr} {te : XK → TE} {px apos pos : Pos}
theorem qs_trySet (K : PySem.W.Frag) (hm : X.mg cn = some (.ref C0)) (hN : X.N.Nodup) (hi : X.N[i]? = some x) (hx : Loc X.env.scope x) (hj : X.N[j]? = some n) (hloc : X.env.scope.names.lookup n = some .local) (he : QEx X ex te) (hs : ∀ x, QSs (hctx X x) (b0 :: suite) th)
    (hst : X.stack = X.env :: X.outer := by rfl) (hfr : X.env.frame = some X.env.locals := by rfl) (hg : Gl X cn := by rfl) (hdb : (cn == ("__debug__" : Str)) = false := by decide) (hsw : swapsWith ex (some (.Name x px)) apos.line X.env = pure false := by rfl) (hf : X.fn x = true ∨ X.env.scope.names.lookup x = some .local := by first | exact .inl rfl | exact .inr rfl | assumption) (hk : X.K = K := by rfl) :
    QS X (.Try [.Assign [.Name x px] ex apos] [.ExceptHandler (some (.Name cn np)) (some n) (b0 :: suite) hpos] [] [] pos) (tTrySet K C0 i j te th) := by
  subst hk
  refine ⟨fun pins s σ H D I h => wpAny_Try_except (wpAny_execs_cons (wpAny_mono (wpAny_Assign_Name (E := XP X pins σ (clauseAs X.K C0 j th D σ)) (thn (he.run _ pins s σ H _ I h) fun v s1 ⟨y, H1, I1, r1, q1⟩ => store_ok I1 hN hi hx r1 (fun s2 I2 => ?_) hf) hsw) (fun f s1 q => q) fun e s1 q => handle_as hst hfr hm hg hdb hN hj hloc hs q))⟩
  exact wpAny_execs_nil (wpAny_execs_nil ⟨_, H1, I2, q1⟩)
end
end L2

set_option Elab.async false
set_option linter.all false
set_option maxRecDepth 100000
set_option maxHeartbeats 4000000
/-! In short: an own exception by its name. -/
namespace L2
open PySem PySem.Spec PyProof.Rows
/-- an own exception that may be raised: its name, its class, its __init__ -/
structure RaiseOk (P : Program) (w : World) (K : PySem.W.Frag) (mg : Str → Option Value) (base : Heap) (x : Str) (C : Addr) (sp : Sp) : Prop where
  ex : ∃ (fI : Addr) (fd : FuncData) (ps : List Str), XMk K C fI ∧ FnOk P w K mg base CX0 1 fI fd ps sp ∧ mg x = some (.ref C) ∧ Binds K fd ps []
theorem qs_raiseD {X : Cx} {C : Addr} {sp : Sp} {x : Str} {e : Expr} {es : List Expr} {t : TA} {p cpos pos : Pos} (E : XK) (R : RaiseOk X.prog X.w X.K X.mg X.base x C sp) (hr : Room 2 X.A) (hlv : Leaves X E) (hc : X.calm = true) (ha : QA X (e :: es) t) (hg : Gl X x := by rfl) (hdb : (x == ("__debug__" : Str)) = false := by decide) :
    QS X (.Raise (some (.Call (.Name x p) (e :: es) [] cpos)) none pos) (tRaise C sp E t) := by
  obtain ⟨fI, fd, ps, M, F, hm, hb⟩ := R.ex
  exact qs_raise E M F hr hm hb hlv hc ha hg hdb
/-- what is known of an exception of one field, of two -/
def Raised1 (C : Addr) (f : Str) (a : V) (H : Hp) (E : XK) : Prop := ∀ d H', H' d = some (.ext (xdict d [(f, a)])) → Ext [] H H' → E (.ref C) (some d) H'
theorem raise1 {C x : Addr} {f : Str} {a : V} {H0 H : Hp} {E : XK} (r : Raised1 C f a H0 E) (x0 : Ext [] H0 H) (hx : H x = none) : spX1 C f [.ref x, a] (upd H x (.ext (xraw x C none))) (fun v H2 => v = .non ∧ ∃ od, H2 x = some (.ext (xraw x C od)) ∧ E (.ref C) od (upd H2 x (.ext (xfly x (.ref C) od)))) E0 := by
  refine ⟨x, a, rfl, upd_same, fun d hd hdx => ⟨rfl, some d, ?_, r d _ ?_ ?_⟩⟩
  · rw [upd_ne hdx.symm, upd_same]
  · rw [upd_ne hdx, upd_same]
  · have hd0 : H d = none := by rw [upd_ne hdx] at hd; exact hd
    refine x0.trans ⟨fun b o _ hb => ?_, fun b xs hb => ?_⟩
    · rw [upd_ne (ne_of_none hb hx), upd_ne (ne_of_none hb hd0), upd_ne (ne_of_none hb hx), upd_ne (ne_of_none hb hx)]
      exact hb
    · rw [upd_ne (ne_of_none hb hx), upd_ne (ne_of_none hb hd0), upd_ne (ne_of_none hb hx), upd_ne (ne_of_none hb hx)]
      exact hb
/-- the defs of a class -/
def clsFn (s : Stmt) (i : Nat) : Stmt := match s with
  | .ClassDef _ _ _ b _ _ _ _ _ _ _ => b.getD i (.Pass ⟨0, 0, 0, 0⟩)
  | _ => .Pass ⟨0, 0, 0, 0⟩
end L2

set_option Elab.async false
set_option linter.all false
set_option maxRecDepth 100000
set_option maxHeartbeats 4000000
/-! What a text's own exception classes are, in the words that a text's part answers. -/
namespace L2
open PySem PySem.Spec PyProof.Rows
structure OwnC (K : PySem.W.Frag) (mg : Str → Option Value) (x : Str) (D : Addr) : Prop where
  nm : mg x = some (.ref D)
  ty : PySem.W.typeIn K (.ref D) = some (.type "type")
  cl : (PySem.W.clsIn K D).isSome = true
structure ExcI (K : PySem.W.Frag) (C J : Addr) : Prop where
  ci : ClsI K C
  own : PySem.W.mroIn K C (.ref C) = some true
  val : PySem.W.mroIn K C (.type "ValueError") = some true
  up : PySem.W.mroIn K C (.ref J) = some true
  jx : PySem.W.mroIn K J (.type "BaseException") = some true
section
variable {K : PySem.W.Frag} {mg : Str → Option Value} {x : Str} {C D J : Addr} {b : Bool}
theorem OwnC.kit (o : OwnC K mg x D) : PySem.W.kitCls K (.ref C) (.ref D) = PySem.W.mroIn K C (.ref D) := by
  show (if ((PySem.W.clsIn K D).isSome && PySem.W.typeIn K (.ref D) == some (.type "type")) = true then PySem.W.subIn K (.ref C) (.ref D) else none) = _
  rw [o.cl, o.ty]
  rw [if_pos (by simp)]
  rfl
theorem ExcI.exm (e : ExcI K C J) (o : OwnC K mg x J) : PySem.W.exmOne K (.ref C) (.ref J) = some true := by
  unfold PySem.W.exmOne
  have h : PySem.W.subIn K (.ref J) (.type "BaseException") = some true := e.jx
  rw [h, if_pos (by simp), o.kit]
  exact e.up
theorem ExcI.one (e : ExcI K C J) (o : OwnC K mg x D) (h : PySem.W.mroIn K C (.ref D) = some b) : PySem.W.kitOne K (.ref C) (.ref D) = some b := by
  unfold PySem.W.kitOne
  by_cases q : C = D
  · subst q
    have := e.own
    rw [h] at this
    rw [if_pos (by simp), ← this]
  · rw [if_neg (by simpa using q), o.kit]
    exact h
theorem ExcI.isVal (e : ExcI K C J) : PySem.W.kitOne K (.ref C) (.type "ValueError") = some true := by
  unfold PySem.W.kitOne
  rw [if_neg (by simp)]
  show (if PySem.W.kitMeta "ValueError" = true then PySem.W.subIn K (.ref C) (.type "ValueError") else none) = _
  rw [if_pos (by decide +kernel)]
  exact e.val
theorem kitAny_no : ∀ {ds : List Addr}, (∀ d ∈ ds, PySem.W.kitOne K (.ref C) (.ref d) = some false) → PySem.W.kitAny K (.ref C) (ds.map Value.ref) = some false
  | [], _ => rfl
  | d :: ds, h => by
    show (match PySem.W.kitOne K (.ref C) (.ref d) with | some true => some true | some false => PySem.W.kitAny K (.ref C) (ds.map Value.ref) | none => none) = _
    rw [h d (List.mem_cons_self ..)]
    exact kitAny_no fun e he => h e (List.mem_cons_of_mem _ he)
end
def strKeysB (es : Array DictEntry) : Bool := es.toList.all fun e => match e.key with | .str _ _ => true | _ => false
theorem strKeys_of {es : Array DictEntry} (h : strKeysB es = true) : StrKeys es := fun e he => by
  have := List.all_eq_true.mp h e (by simpa using he)
  revert this
  cases e.key <;> simp
theorem own_mk {K : PySem.W.Frag} {h : Heap} {mg : Str → Option Value} {x : Str} {D : Addr} {cd : ClassData} (X : K.In h) (G : h.Ns mainGlobals mg) (a : PySem.W.nsIn K mainGlobals x = some (some (.ref D))) (t : PySem.W.typeIn K (.ref D) = some (.type "type")) (c : PySem.W.clsIn K D = some cd) : OwnC K mg x D :=
  ⟨PySem.W.mg_of X G a, t, by rw [c]; rfl⟩
/-- the facts of a class that is raised -/
structure RF (K : PySem.W.Frag) (C J fI : Addr) : Prop where
  obj : ∃ nm qn N bs hdct sn sub ab col dd k0 k1 k2 k3 k5, K.lookup C = some (excClassObj nm qn C N bs (.ref J :: veMro) hdct sn sub ab col dd k0 k1 k2 k3 k5 "ValueError.__new__")
  init : PySem.W.findIn K (.ref C) "__init__" = some (some (.ref fI))
  fn : PySem.W.isFn K (.ref fI) = true
  kp : PySem.W.keepIn K (.ref C) = true
  ei : ExcI K C J
theorem RF.mk' {K : PySem.W.Frag} {C J fI : Addr} (r : RF K C J fI) (j : JOk K J) : XMk K C fI :=
  let ⟨nm, qn, N, bs, hdct, sn, sub, ab, col, dd, k0, k1, k2, k3, k5, e⟩ := r.obj
  ⟨⟨J, nm, qn, N, bs, hdct, sn, sub, ab, col, dd, k0, k1, k2, k3, k5, e, j⟩, r.init, r.fn, r.kp, r.ei.ci.cx⟩
section
variable {P : Program} {w : World} {K : PySem.W.Frag} {mg : Str → Option Value} {base : Heap} {C J fI : Addr} {fd : FuncData} {x q f g : Str} {st : Stmt} {sp : Sp} {ps : List Str}
theorem raise_mk (r : RF K C J fI) (j : JOk K J) (m : mg x = some (.ref C)) (F : FnOk P w K mg base CX0 1 fI fd ps sp) (b : Binds K fd ps []) : RaiseOk P w K mg base x C sp := ⟨fI, fd, ps, r.mk' j, F, m, b⟩
end
end L2

open PySem
namespace Odj
def isIntD : PyData → Bool | .int _ => true | _ => false
def risingFrom : Int → List PyData → Bool
  | _, [] => true
  | a, .int i :: ds => !decide (i ≤ a) && risingFrom i ds
  | _, _ :: _ => false
def lastBelow (bound : Int) : List PyData → Bool
  | [] => true
  | [.int i] => decide (i < bound)
  | [_] => false
  | _ :: d :: ds => lastBelow bound (d :: ds)
def belowD (bound : Int) : PyData → Bool
  | .tuple ds => risingFrom (-1) ds && lastBelow bound ds
  | _ => false
def wholeD (lo hi : Int) : PyData → Bool
  | .int i => decide (lo ≤ i) && decide (i ≤ hi)
  | _ => false
end Odj

set_option linter.all false
open PySem
namespace Odj
/-- numbers, each with whether it stood there an odd number of times so far -/
abbrev Odd := List (Int × Bool)
def isOdd (o : Odd) (k : Int) : Bool := ((o.find? fun p => decide (p.1 = k)).map (·.2)).getD false
def turnOdd (o : Odd) (k : Int) : Odd := if o.any (fun p => decide (p.1 = k)) then o.map (fun p => if p.1 = k then (p.1, !(isOdd o k)) else p) else o ++ [(k, !(isOdd o k))]
def oddsOf (row : List Int) : Odd := row.foldl turnOdd []
def trues (o : Odd) : List Int := (o.filter (·.2)).map (·.1)
def keysOf (o : Odd) : List Int := o.map (·.1)
/-- what is asked of the pair's second, of a key -/
theorem odd_at {o : Odd} (h : (keysOf o).Nodup) {i : Nat} {p : Int × Bool} (hp : o[i]? = some p) : isOdd o p.1 = p.2 := by
  induction o generalizing i with
  | nil => cases hp
  | cons q o ih =>
    unfold keysOf at h
    rw [List.map_cons, List.nodup_cons] at h
    cases i with
    | zero =>
      have : q = p := by simpa using hp
      subst this
      simp [isOdd]
    | succ i =>
      have hp' : o[i]? = some p := by simpa using hp
      have hm : p.1 ∈ o.map (·.1) := List.mem_map.mpr ⟨p, List.mem_of_getElem? hp', rfl⟩
      have hne : ¬ q.1 = p.1 := fun z => h.1 (z ▸ hm)
      have := ih h.2 hp'
      unfold isOdd at this ⊢
      rw [List.find?_cons]
      simp only [hne, decide_false]
      exact this
end Odj

namespace Odj
/-! the parts of a web, by calling places alike -/
def nameAt (ns : List Int) (i : Int) : Int := ns.getD i.toNat 0
/-- each is called by one that is called by itself -/
structure Called (m : Nat) (ns : List Int) : Prop where
  len : ns.length = m
  own : ∀ n ∈ ns, 0 ≤ n ∧ n < (m : Int) ∧ nameAt ns n = n
end Odj

set_option linter.all false
open PySem
namespace Odj
/-- of strictly rising lists with the same numbers: one -/
theorem rising_one : ∀ {l1 l2 : List Int}, l1.Pairwise (· < ·) → l2.Pairwise (· < ·) → (∀ k, k ∈ l1 ↔ k ∈ l2) → l1 = l2
  | [], [], _, _, _ => rfl
  | [], b :: l2, _, _, h => absurd ((h b).mpr (List.mem_cons_self ..)) (by simp)
  | a :: l1, [], _, _, h => absurd ((h a).mp (List.mem_cons_self ..)) (by simp)
  | a :: l1, b :: l2, h1, h2, h => by
    obtain ⟨q1, r1⟩ := List.pairwise_cons.mp h1
    obtain ⟨q2, r2⟩ := List.pairwise_cons.mp h2
    have e : a = b := by
      rcases List.mem_cons.mp ((h a).mp (List.mem_cons_self ..)) with z | z
      · exact z
      · rcases List.mem_cons.mp ((h b).mpr (List.mem_cons_self ..)) with y | y
        · exact y.symm
        · have := q2 a z
          have := q1 b y
          omega
    subst e
    rw [rising_one r1 r2 fun k => ?_]
    constructor
    · intro hk
      rcases List.mem_cons.mp ((h k).mp (List.mem_cons_of_mem _ hk)) with z | z
      · have := q1 k hk
        omega
      · exact z
    · intro hk
      rcases List.mem_cons.mp ((h k).mpr (List.mem_cons_of_mem _ hk)) with z | z
      · have := q2 k hk
        omega
      · exact z
/-- ns: the numbers that stand in row an odd number of times, rising -/
def OddSet (row ns : List Int) : Prop := ns.Pairwise (· < ·) ∧ ∀ k, k ∈ ns ↔ row.count k % 2 = 1
theorem OddSet.one {r1 r2 n1 n2 : List Int} (h1 : OddSet r1 n1) (h2 : OddSet r2 n2) (h : ∀ k, r1.count k % 2 = r2.count k % 2) : n1 = n2 :=
  rising_one h1.1 h2.1 fun k => by rw [h1.2, h2.2, h k]
theorem OddSet.same {r1 r2 n1 : List Int} (h1 : OddSet r1 n1) (h : ∀ k, r1.count k % 2 = r2.count k % 2) : OddSet r2 n1 := ⟨h1.1, fun k => by rw [h1.2, h k]⟩
theorem nodup_lt {l : List Int} (h : l.Pairwise (· < ·)) : l.Nodup := h.imp fun hab z => by omega
/-- a rising list: each once -/
theorem OddSet.self {l : List Int} (h : l.Pairwise (· < ·)) : OddSet l l := ⟨h, fun k => by
  have hn := nodup_lt h
  by_cases hk : k ∈ l
  · have := List.count_pos_iff.mpr hk
    have h1 := List.nodup_iff_count.mp hn k
    constructor
    · intro _; omega
    · intro _; exact hk
  · have := List.count_eq_zero.mpr hk
    constructor
    · intro z; exact absurd z hk
    · intro z; omega⟩
theorem OddSet.count {r n : List Int} (h : OddSet r n) (k : Int) : n.count k % 2 = r.count k % 2 := by
  have h1 := (OddSet.self h.1).2 k
  have h2 := h.2 k
  have a1 := Nat.mod_two_eq_zero_or_one (n.count k)
  have a2 := Nat.mod_two_eq_zero_or_one (r.count k)
  by_cases hk : k ∈ n
  · rw [h1.mp hk, h2.mp hk]
  · have b1 : ¬ n.count k % 2 = 1 := fun z => hk (h1.mpr z)
    have b2 : ¬ r.count k % 2 = 1 := fun z => hk (h2.mpr z)
    omega
/-- a walk along ties -/
def otherEnd (t : Int × Int × Int) (x : Int) : Int := if t.1 = x then t.2.1 else t.1
def Walk (ts : List (Int × Int × Int)) : Int → List Int → Int → Prop
  | x, [], y => x = y
  | x, n :: row, y => ∃ t, 0 ≤ n ∧ ts[n.toNat]? = .some t ∧ (t.1 = x ∨ t.2.1 = x) ∧ Walk ts (otherEnd t x) row y
theorem Walk.append {ts : List (Int × Int × Int)} : ∀ {a b : List Int} {x y z : Int}, Walk ts x a y → Walk ts y b z → Walk ts x (a ++ b) z
  | [], b, x, y, z, h1, h2 => by
    have e : x = y := h1
    subst e
    exact h2
  | n :: a, b, x, y, z, h1, h2 => by
    obtain ⟨t, h0, ht, hx, hw⟩ := h1
    exact ⟨t, h0, ht, hx, hw.append h2⟩
theorem Walk.bounds {ts : List (Int × Int × Int)} : ∀ {a : List Int} {x y : Int}, Walk ts x a y → ∀ n ∈ a, 0 ≤ n ∧ n < (ts.length : Int)
  | [], _, _, _, n, hn => by cases hn
  | m :: a, x, y, h, n, hn => by
    obtain ⟨t, h0, ht, hx, hw⟩ := h
    rcases List.mem_cons.mp hn with e | e
    · subst e
      have := (List.getElem?_eq_some_iff.mp ht).1
      omega
    · exact hw.bounds n e
end Odj

set_option Elab.async false
set_option linter.all false
set_option maxRecDepth 100000
namespace Odj
open PySem L2
def top (i : Nat) : Stmt := PySem.Challenge.pw_oddjoins_k06_rows_walked.main.body.getD i (.Pass ⟨0, 0, 0, 0⟩)
/-- the built-ins are not called otherwise -/
structure Bt (mg : Str → Option Value) : Prop where
  isinstance : mg "isinstance" = none
  int : mg "int" = none
  bool : mg "bool" = none
  tuple : mg "tuple" = none
  len : mg "len" = none
section
variable {P : Program} {w : World} {K : PySem.W.Frag} {mg : Str → Option Value} {base : Heap}
theorem kit1 (d : PyData) : PySem.W.kitOne K (.type (tyD d)) (.type "int") = some (match d with | .int _ => true | .bool _ => true | _ => false) := by
  cases d <;> rfl
theorem kit2 (d : PyData) : PySem.W.kitOne K (.type (tyD d)) (.type "bool") = some (match d with | .bool _ => true | _ => false) := by
  cases d <;> rfl
theorem kit3 (d : PyData) : PySem.W.kitOne K (.type (tyD d)) (.type "tuple") = some (match d with | .tuple _ => true | _ => false) := by
  cases d <;> rfl
end
end Odj

set_option Elab.async false
set_option linter.all false
set_option maxRecDepth 100000
namespace Odj
open PySem L2
def spIsWhole : Sp := fun vs H Q _ => ∃ S d v, vs = [v] ∧ Rep S H d v ∧ Q (.bl (isIntD d)) H
def risingD : PyData → Bool
  | .tuple ds => risingFrom (-1) ds
  | _ => false
def spIsRising : Sp := fun vs H Q _ => ∃ S d v, vs = [v] ∧ Rep S H d v ∧ Q (.bl (risingD d)) H
section
variable {P : Program} {w : World} {K : PySem.W.Frag} {mg : Str → Option Value} {base : Heap} {f : Addr} {fd : FuncData}
theorem d_is_whole (F : Fun K "is_whole" "is_whole" (top 10) f fd) (hm : mg "is_whole" = some (.ref f)) (B : Bt mg) : DefOk P w K mg base 1 "is_whole" ["thing"] spIsWhole := by
  refine ⟨f, fd, ?_, hm, F.kp, F.binds fun _ _ _ _ _ _ us hl => match us, hl with | [_], _ => rfl⟩
  have sc : FnScope ["thing"] ["thing"] (defScope (top 10)) := ⟨rfl, rfl, rfl, by decide +kernel, rfl, by decide +kernel, by decide +kernel⟩
  refine F.okQ sc (fun vs H Q E h => ?_) (fun cdv A outer s H vs Q E hr h => ?_)
  · obtain ⟨S, d, v, rfl, _⟩ := h
    rfl
  · obtain ⟨S, d, v, rfl, rp, q⟩ := h
    refine ⟨_, (qss_one (qs_ret (qe_and (qe_callB call_isi (by rfl) B.isinstance (by decide +kernel) (qa_c (qv 0) (qa_c (qe_ty "int" (by rfl) B.int (by decide +kernel)) qa_nil))) (qe_one (qe_not (qe_callB call_isi (by rfl) B.isinstance (by decide +kernel) (qa_c (qv 0) (qa_c (qe_ty "bool" (by rfl) B.bool (by decide +kernel)) qa_nil)))))))), ?_⟩
    refine ⟨v, rfl, v, _, _, _, rfl, rp.ty, kit1 d, _, rfl, ?_⟩
    cases d with
    | int i => exact iteT ⟨v, rfl, v, _, _, _, rfl, rp.ty, kit2 _, _, rfl, q⟩
    | bool b => exact iteT ⟨v, rfl, v, _, _, _, rfl, rp.ty, kit2 _, _, rfl, q⟩
    | _ => exact iteF q
theorem d_is_rising (F : Fun K "is_rising" "is_rising" (top 11) f fd) (hm : mg "is_rising" = some (.ref f)) (B : Bt mg) (D_is_whole : DefOk P w K mg base 1 "is_whole" ["thing"] spIsWhole) : DefOk P w K mg base 2 "is_rising" ["thing"] spIsRising := by
  refine ⟨f, fd, ?_, hm, F.kp, F.binds fun _ _ _ _ _ _ us hl => match us, hl with | [_], _ => rfl⟩
  have sc : FnScope ["thing", "ahead", "number"] ["thing"] (defScope (top 11)) := ⟨rfl, rfl, rfl, by decide +kernel, rfl, by decide +kernel, by decide +kernel⟩
  refine F.okQ sc (fun vs H Q E h => ?_) (fun cdv A outer s H vs Q E hr h => ?_)
  · obtain ⟨S, d, v, rfl, _⟩ := h
    rfl
  · obtain ⟨S, d, v, rfl, rp, q⟩ := h
    refine ⟨_, (qss_cons (qs_if (qt_not (qt_val (qe_callB call_isi (by rfl) B.isinstance (by decide +kernel) (qa_c (qv 0) (qa_c (qe_ty "tuple" (by rfl) B.tuple (by decide +kernel)) qa_nil))))) (qss_one (qs_ret qe_bl)) qss_nil)
      (qss_cons (qs_set (i := 1) sc.nd rfl (Or.inl rfl) (qe_un un_neg qe_int))
      (qss_cons (qs_for PassesOwn.never rfl (qi_tup (qv 0)) (qg_name (i := 2) sc.nd rfl (Or.inl rfl)) (qss_cons (qs_if (QW.pt (qw_or (qt_not (qt_val (qe_callD D_is_whole (hr.mono (by decide)) (qa_c (qv 2) qa_nil)))) (qw_or1 (qt_cmpR op_le (qv 2) (qv 1) (nomark _))))) (qss_one (qs_ret qe_bl)) qss_nil)
      (qss_one (qs_set (i := 1) sc.nd rfl (Or.inl rfl) (qv 2)))))
      (qss_one (qs_ret qe_bl))))), ?_⟩
    refine ⟨v, rfl, v, _, _, _, rfl, rp.ty, kit3 d, _, rfl, ?_⟩
    cases d with
    | tuple ds =>
      obtain ⟨a, xs, rfl, ha, hr'⟩ := rp.of_tup
      refine iteF ⟨1, rfl, _, rfl, a, rfl, ⟨_, SqT.of ha⟩, for_tup (K := K) (a := a) (xs := xs) (fun i σ H' => H' = H ∧ ∃ z y, σ = [some (.ref a), some (.int z), y] ∧ risingFrom (-1) ds = risingFrom z (ds.drop i)) ⟨rfl, -1, none, rfl, rfl⟩ (fun i σ H' _ e => by rw [e.1]; exact SqT.of ha) ?_ ?_⟩
      · rintro i x σ H' hx ⟨rfl, z, y, rfl, hz⟩
        obtain ⟨d, hd, rd⟩ := hr'.get hx
        have hlt : i < ds.length := (List.getElem?_eq_some_iff.mp hd).1
        have hdr : ds.drop i = d :: ds.drop (i + 1) := by
          rw [List.drop_eq_getElem_cons hlt]
          congr
          exact (List.getElem?_eq_some_iff.mp hd).2
        rw [hdr] at hz
        refine ⟨x, rfl, S, d, x, rfl, rd, _, rfl, ?_⟩
        cases d with
        | int j =>
          cases rd.of_int
          refine iteF ⟨_, rfl, _, rfl, j, z, rfl, rfl, _, rfl, ?_⟩
          refine ite2 (fun h => ?_) (fun h => ?_)
          · have h' : j ≤ z := of_decide_eq_true h
            have e : risingD (.tuple ds) = false := by
              show risingFrom (-1) ds = false
              rw [hz]
              simp [risingFrom, h']
            rw [e] at q
            exact q
          · have h' : ¬ j ≤ z := fun g => h (decide_eq_true g)
            refine ⟨_, rfl, rfl, j, _, rfl, ?_⟩
            rw [hz]
            simp [risingFrom, h']
        | _ =>
          refine iteT ?_
          have e : risingD (.tuple ds) = false := by
            show risingFrom (-1) ds = false
            rw [hz]
            rfl
          rw [e] at q
          exact q
      · rintro σ H' ⟨rfl, z, y, rfl, hz⟩
        have e : risingD (.tuple ds) = true := by
          show risingFrom (-1) ds = true
          rw [hz, List.drop_of_length_le (by rw [hr'.length]; exact Nat.le_refl _)]
          rfl
        rw [e] at q
        exact q
    | _ => exact iteT q
end
end Odj

set_option Elab.async false
set_option linter.all false
set_option maxRecDepth 100000
namespace Odj
open PySem L2
/-- the feed at fa, its script at sa, asked n times so far -/
structure Feed (H : Hp) (fa sa : Addr) (n : Int) : Prop where
  ex : ∃ (ns : List Int) (i c : Int), H fa = some (.lst [.ref sa, .int i, .int c, .int n]) ∧ H sa = some (.lst (ns.map V.int))
  ne : sa ≠ fa
  lo : 0 ≤ n
theorem Feed.ext {S : List Addr} {H H' : Hp} {fa sa : Addr} {n : Int} (f : Feed H fa sa n) (x : Ext S H H') (h1 : fa ∉ S) (h2 : sa ∉ S) : Feed H' fa sa n := by
  obtain ⟨ns, i, c, e1, e2⟩ := f.ex
  exact ⟨⟨ns, i, c, x.keep _ _ h1 e1, x.keep _ _ h2 e2⟩, f.ne, f.lo⟩
theorem Feed.put {H : Hp} {fa sa : Addr} {n : Int} (f : Feed H fa sa n) (i c n' : Int) (h : 0 ≤ n') : Feed (upd H fa (.lst [.ref sa, .int i, .int c, .int n'])) fa sa n' ∧ Ext [fa] H (upd H fa (.lst [.ref sa, .int i, .int c, .int n'])) := by
  obtain ⟨ns, i0, c0, e1, e2⟩ := f.ex
  exact ⟨⟨⟨ns, i, c, upd_same, by rw [upd_ne f.ne]; exact e2⟩, f.ne, h⟩, .set (by simp) e1⟩
def most : Int := 1099511627776
/-- a draw below many -/
def spDraw : Sp := fun vs H Q _ => ∃ (fa sa : Addr) (n many : Int), vs = [.ref fa, .int many] ∧ Feed H fa sa n ∧ 0 < many ∧ many < 1073741824 ∧ n < most ∧
  ∀ (r : Int) (H' : Hp), 0 ≤ r → r < many → Feed H' fa sa (n + 1) → Ext [fa] H H' → Q (.int r) H'
theorem canLay_ints (ns : List Int) : PyData.canLayAll0 (ns.map PyData.int) = true := by
  induction ns with
  | nil => rfl
  | cons n ns ih => simpa [PyData.canLayAll0, PyData.canLay0] using ih
theorem depth_ints (ns : List Int) : PyData.depthAll (ns.map PyData.int) = 0 := by
  induction ns with
  | nil => rfl
  | cons n ns ih => simpa [PyData.depthAll, PyData.depth] using ih
section
variable {P : Program} {w : World} {K : PySem.W.Frag} {mg : Str → Option Value} {base : Heap} {f : Addr} {fd : FuncData}
theorem d_draw (F : Fun K "_law_draw" "_law_draw" (top 23) f fd) (hm : mg "_law_draw" = some (.ref f)) (B : Bt mg) : DefOk P w K mg base 1 "_law_draw" ["_law_feed_here", "_law_many"] spDraw := by
  refine ⟨f, fd, ?_, hm, F.kp, F.binds fun _ _ _ _ _ _ us hl => match us, hl with | [_, _], _ => rfl⟩
  have sc : FnScope ["_law_feed_here", "_law_many", "_law_found", "_law_cell", "_law_mixed"] ["_law_feed_here", "_law_many"] (defScope (top 23)) := ⟨rfl, rfl, rfl, by decide +kernel, rfl, by decide +kernel, by decide +kernel⟩
  refine F.okQ sc (fun vs H Q E h => ?_) (fun cdv A outer s H vs Q E hr h => ?_)
  · obtain ⟨fa, sa, n, many, rfl, _⟩ := h
    rfl
  · obtain ⟨fa, sa, n, many, rfl, fe, m0, m1, nm, q⟩ := h
    refine ⟨_, (qss_cons (qs_asg (qe_op op_add (qe_ix ix_list (qv 0) qe_int (fun _ _ => rfl)) qe_int) (qg_sub (qv 0) qe_int set_list))
      (qss_cons (qs_if (qt_cmpR op_gt (qe_ix ix_list (qv 0) qe_int (fun _ _ => rfl)) qe_int (nomark _)) (qss_cons (qs_set (i := 2) sc.nd rfl (Or.inl rfl) (qe_op op_mod (qe_ix ix_list (qv 0) qe_int (fun _ _ => rfl)) (qv 1)))
      (qss_cons (qs_asg (qe_op op_fdiv (qe_ix ix_list (qv 0) qe_int (fun _ _ => rfl)) (qv 1)) (qg_sub (qv 0) qe_int set_list))
      (qss_one (qs_ret (qv 2))))) qss_nil)
      (qss_cons (qs_set (i := 3) sc.nd rfl (Or.inl rfl) qe_int)
      (qss_cut (qs_if (qt_cmpR (op_neD hr) (qe_ix ix_list (qv 0) qe_int (fun _ _ => rfl)) (qe_lst qa_nil) (nomark _)) (qss_one (qs_set (i := 3) sc.nd rfl (Or.inl rfl) (qe_ix ix_list (qe_ix ix_list (qv 0) qe_int (fun _ _ => rfl)) (qe_op op_mod (qe_ix ix_list (qv 0) qe_int (fun _ _ => rfl)) (qe_callB call_len_seq (by rfl) B.len (by decide +kernel) (qa_c (qe_ix ix_list (qv 0) qe_int (fun _ _ => rfl)) qa_nil))) (fun _ _ => rfl)))) qss_nil)
      (qss_cons (qs_asg (qe_op op_add (qe_ix ix_list (qv 0) qe_int (fun _ _ => rfl)) qe_int) (qg_sub (qv 0) qe_int set_list))
      (qss_cut (qs_if (QW.pt (qw_and (qt_cmpR op_ge (qv 3) (qe_op op_pow qe_int qe_int) (nomark _)) (qw_and1 (qt_cmpR op_le (qe_ix ix_list (qv 0) qe_int (fun _ _ => rfl)) (qe_callB call_len_seq (by rfl) B.len (by decide +kernel) (qa_c (qe_ix ix_list (qv 0) qe_int (fun _ _ => rfl)) qa_nil)) (nomark _))))) (qss_cons (qs_asg (qe_op op_fdiv (qv 3) (qv 1)) (qg_sub (qv 0) qe_int set_list))
      (qss_one (qs_ret (qe_op op_mod (qv 3) (qv 1))))) qss_nil)
      (qss_cons (qs_set (i := 4) sc.nd rfl (Or.inl rfl) (qe_op op_mod (qe_op op_mul (qe_op op_add (qe_op op_mod (qv 3) qe_int) (qe_op op_mul qe_int (qe_ix ix_list (qv 0) qe_int (fun _ _ => rfl)))) qe_int) qe_int))
      (qss_cons (qs_set (i := 4) sc.nd rfl (Or.inl rfl) (qe_op op_mod (qe_op op_mul (qe_op op_add (qe_op op_fdiv (qv 4) qe_int) (qe_op op_mul (qe_op op_mul qe_int (qe_ix ix_list (qv 0) qe_int (fun _ _ => rfl))) (qe_ix ix_list (qv 0) qe_int (fun _ _ => rfl)))) qe_int) qe_int))
      (qss_one (qs_ret (qe_op op_mod (qe_op op_fdiv (qv 4) qe_int) (qv 1)))))))))))), ?_⟩
    obtain ⟨ns, i, c, e1, e2⟩ := fe.ex
    have n0 := fe.lo
    obtain ⟨f1, x1⟩ := fe.put i c (n + 1) (by omega)
    refine ⟨_, rfl, fa, _, 3, _, rfl, rfl, SqL.of e1, rfl, n, 1, rfl, rfl, _, rfl, fa, _, 3, 3, rfl, rfl, e1, rfl, ?_⟩
    refine ⟨_, rfl, fa, _, 2, _, rfl, rfl, SqL.of upd_same, rfl, c, 0, rfl, rfl, _, rfl, ite2 (fun hc => ?_) (fun hc => ?_)⟩
    · refine ⟨_, rfl, fa, _, 2, _, rfl, rfl, SqL.of upd_same, rfl, _, rfl, c, many, rfl, rfl, m0, ?_⟩
      refine ⟨_, rfl, fa, _, 2, _, rfl, rfl, SqL.of upd_same, rfl, _, rfl, c, many, rfl, rfl, ⟨m0, m1⟩, _, rfl, fa, _, 2, 2, rfl, rfl, upd_same, rfl, ?_⟩
      obtain ⟨f2, x2⟩ := f1.put i (c / many) (n + 1) (by omega)
      exact ⟨_, rfl, q _ _ (Int.emod_nonneg _ (by omega)) (Int.emod_lt_of_pos _ m0) f2 (x1.trans x2)⟩
    · -- the cell
      refine ⟨fun σ' H' => ∃ cell : Int, σ' = [some (.ref fa), some (.int many), none, some (.int cell), none] ∧ Feed H' fa sa (n + 1) ∧ Ext [fa] H H', ?_, ?_⟩
      · refine ⟨_, rfl, fa, _, 0, _, rfl, rfl, SqL.of upd_same, rfl, Nat.zero_le _, fun p hp => ?_⟩
        have hpf : p ≠ fa := fun z => by rw [z, upd_same] at hp; cases hp
        have x2 : Ext [] (upd H fa (.lst [.ref sa, .int i, .int c, .int (n + 1)])) (upd (upd H fa (.lst [.ref sa, .int i, .int c, .int (n + 1)])) p (.lst [])) := .new hp
        have f2 := f1.ext x2 (by simp) (by simp)
        have x3 := x1.trans (x2.mono (S' := [fa]) (by simp))
        have a2 : (upd (upd H fa (.lst [.ref sa, .int i, .int c, .int (n + 1)])) p (.lst [])) sa = some (.lst (ns.map V.int)) := x2.keep _ _ (by simp) (by rw [upd_ne fe.ne]; exact e2)
        have a1 : (upd (upd H fa (.lst [.ref sa, .int i, .int c, .int (n + 1)])) p (.lst [])) fa = some (.lst [.ref sa, .int i, .int c, .int (n + 1)]) := x2.keep _ _ (by simp) upd_same
        refine ⟨[], .list (ns.map .int), .list [], .lst a2 (by simp) (.ints ns), .lst upd_same (by simp) .nil, canLay_ints ns, rfl, by simp [PyData.depth, depth_ints], _, rfl, ?_⟩
        cases ns with
        | nil => exact iteF ⟨7, rfl, f2, x3⟩
        | cons k ns =>
          refine iteT ?_
          have hl : (0 : Int) < (((k :: ns).map V.int).length : Nat) := by simp
          obtain ⟨v, hv, hv2⟩ := atI_ex (xs := (k :: ns).map V.int) (Int.emod_nonneg i (by omega)) (Int.emod_lt_of_pos i hl)
          obtain ⟨z, rfl⟩ : ∃ z, v = V.int z := by
            rw [List.getElem?_map] at hv2
            cases e : (k :: ns)[(i % (((k :: ns).map V.int).length : Nat)).toNat]? with
            | none => rw [e] at hv2; cases hv2
            | some z => rw [e] at hv2; exact ⟨z, (Option.some.inj hv2).symm⟩
          refine ⟨_, rfl, fa, _, 0, _, rfl, rfl, SqL.of a1, rfl, _, rfl, fa, _, 1, _, rfl, rfl, SqL.of a1, rfl, _, rfl, fa, _, 0, _, rfl, rfl, SqL.of a1, rfl, sa, _, rfl, .inl (SqL.of a2), i, _, rfl, rfl, hl, sa, _, _, _, rfl, rfl, SqL.of a2, hv, z, rfl, f2, x3⟩
      · rintro σ' H' ⟨cell, rfl, f2, x2⟩
        obtain ⟨ns2, i2, c2, b1, b2⟩ := f2.ex
        obtain ⟨f3, x3⟩ := f2.put (i2 + 1) c2 (n + 1) (by omega)
        have b3 : (upd H' fa (.lst [.ref sa, .int (i2 + 1), .int c2, .int (n + 1)])) sa = some (.lst (ns2.map V.int)) := by rw [upd_ne fe.ne]; exact b2
        refine ⟨_, rfl, fa, _, 1, _, rfl, rfl, SqL.of b1, rfl, i2, 1, rfl, rfl, _, rfl, fa, _, 1, 1, rfl, rfl, b1, rfl, ?_⟩
        refine ⟨fun σ' H2 => σ' = [some (.ref fa), some (.int many), none, some (.int cell), none] ∧ H2 = upd H' fa (.lst [.ref sa, .int (i2 + 1), .int c2, .int (n + 1)]), ?_, ?_⟩
        · refine ⟨_, rfl, 10, 18, rfl, rfl, ⟨by decide, by decide, by decide⟩, cell, _, rfl, rfl, _, rfl, ite2 (fun hb => ?_) (fun hb => ?_)⟩
          · refine ⟨_, rfl, fa, _, 1, _, rfl, rfl, SqL.of upd_same, rfl, _, rfl, fa, _, 0, _, rfl, rfl, SqL.of upd_same, rfl, sa, _, rfl, .inl (SqL.of b3), _, _, rfl, rfl, _, rfl, ite2 (fun hd => ?_) (fun hd => ?_)⟩
            · refine ⟨_, rfl, _, rfl, cell, many, rfl, rfl, ⟨m0, m1⟩, _, rfl, fa, _, 2, 2, rfl, rfl, upd_same, rfl, ?_⟩
              obtain ⟨f4, x4⟩ := f3.put (i2 + 1) (cell / many) (n + 1) (by omega)
              exact ⟨_, rfl, _, rfl, cell, many, rfl, rfl, m0, q _ _ (Int.emod_nonneg _ (by omega)) (Int.emod_lt_of_pos _ m0) f4 ((x2.trans x3).trans x4)⟩
            · exact ⟨rfl, rfl⟩
          · exact iteF ⟨rfl, rfl⟩
        · rintro σ' H2 ⟨rfl, rfl⟩
          have nb : -(2 ^ 64) < n + 1 ∧ n + 1 < 2 ^ 64 := by
            have : most = 1099511627776 := rfl
            constructor <;> omega
          refine ⟨_, rfl, _, _, rfl, rfl, (by show (0 : Int) < 1000000007; decide), _, rfl, fa, _, 3, _, rfl, rfl, SqL.of upd_same, rfl, _, _, rfl, rfl, .inl ⟨by decide, by decide⟩, _, _, rfl, rfl, _, _, rfl, rfl, .inr ⟨by decide, by decide⟩, _, _, rfl, rfl, (by show (0 : Int) < 2147483629; decide), ?_⟩
          refine ⟨_, rfl, _, _, rfl, rfl, ⟨by decide, by decide⟩, _, rfl, fa, _, 3, _, rfl, rfl, SqL.of upd_same, rfl, _, _, rfl, rfl, .inl ⟨by decide, by decide⟩, _, rfl, fa, _, 3, _, rfl, rfl, SqL.of upd_same, rfl, _, _, rfl, rfl, .inr nb, _, _, rfl, rfl, _, _, rfl, rfl, .inr ⟨by decide, by decide⟩, _, _, rfl, rfl, (by show (0 : Int) < 2147483587; decide), ?_⟩
          exact ⟨_, rfl, _, _, rfl, rfl, ⟨by decide, by decide⟩, _, rfl, _, _, rfl, rfl, m0, q _ _ (Int.emod_nonneg _ (by omega)) (Int.emod_lt_of_pos _ m0) f3 (x2.trans x3)⟩
end
end Odj

set_option Elab.async false
set_option linter.all false
set_option maxRecDepth 100000
set_option maxHeartbeats 4000000
namespace Odj
open PySem L2
theorem rising_ints : ∀ (ds : List PyData) (a : Int), risingFrom a ds = true → ∀ d ∈ ds, ∃ i, d = .int i
  | [], _, _, d, hd => by cases hd
  | .int j :: ds, a, h, d, hd => by
    rcases List.mem_cons.mp hd with e | e
    · exact ⟨j, e⟩
    · refine rising_ints ds j ?_ d e
      simp only [risingFrom, Bool.and_eq_true] at h
      exact h.2
  | .none :: ds, a, h, d, hd => by cases h
  | .bool _ :: ds, a, h, d, hd => by cases h
  | .str _ :: ds, a, h, d, hd => by cases h
  | .list _ :: ds, a, h, d, hd => by cases h
  | .tuple _ :: ds, a, h, d, hd => by cases h
  | .dict _ :: ds, a, h, d, hd => by cases h
theorem lastBelow_at (b : Int) : ∀ (ds : List PyData) (i : Int), ds[ds.length - 1]? = some (.int i) → lastBelow b ds = decide (i < b)
  | [], i, h => by cases h
  | [d], i, h => by
    have : d = .int i := Option.some.inj h
    subst this
    rfl
  | d :: e :: ds, i, h => by
    rw [show lastBelow b (d :: e :: ds) = lastBelow b (e :: ds) from by simp [lastBelow]]
    exact lastBelow_at b (e :: ds) i (by simpa using h)
theorem atI_neg1 {α : Type} {xs : List α} {x : α} (h : xs[xs.length - 1]? = some x) : atI xs (-1) = some x := by
  have hl : xs.length - 1 < xs.length := (List.getElem?_eq_some_iff.mp h).1
  unfold atI ixN
  rw [if_neg (by decide), if_pos (by omega)]
  show xs[(-1 + (xs.length : Int)).toNat]? = some x
  rw [show (-1 + (xs.length : Int)).toNat = xs.length - 1 by omega]
  exact h
def spBelow : Sp := fun vs H Q _ => ∃ S d v b, vs = [v, .int b] ∧ Rep S H d v ∧ Q (.bl (belowD b d)) H
/-- a web's own shape -/
def webD (many : Int) (ts : List PyData) : PyData := .tuple [.int many, .tuple ts]
def spSet : Sp := fun vs H Q _ => ∃ S d v many ts w, vs = [w, v] ∧ Rep S H (webD many ts) w ∧ Rep S H d v ∧ Q (.bl (belowD (ts.length : Nat) d)) H
def spWhole : Sp := fun vs H Q _ => ∃ S d v lo hi, vs = [v, .int lo, .int hi] ∧ Rep S H d v ∧ Q (.bl (wholeD lo hi d)) H
theorem web_of {S : List Addr} {H : Hp} {many : Int} {ts : List PyData} {v : V} (h : Rep S H (webD many ts) v) : ∃ a t xs, v = .ref a ∧ H a = some (.tup [.int many, .ref t]) ∧ H t = some (.tup xs) ∧ Reps S H ts xs := by
  obtain ⟨a, xs, e, ha, r⟩ := h.of_tup
  obtain ⟨x, r1, e1, h1, h2⟩ := r.of_cons
  obtain ⟨y, r2, e2, h3, h4⟩ := h2.of_cons
  have e3 := h4.of_nil
  have e4 := h1.of_int
  subst e1 e2 e3 e4
  obtain ⟨t, ys, e5, ht, h5⟩ := h3.of_tup
  subst e5
  exact ⟨a, t, ys, e, ha, ht, h5⟩
def spFeed (K : PySem.W.Frag) : Sp := fun vs H Q _ => ∃ (a : Addr) (ns : List Int), vs = [.ref a] ∧ SqL K H a (ns.map V.int) ∧ ∀ (fa sa : Addr) (H' : Hp), Feed H' fa sa 0 → Ext [] H H' → H fa = none → H sa = none → Q (.ref fa) H'
def spPrice : Sp := fun vs H Q _ => ∃ (fa sa : Addr) (n : Int) (b : Bool), vs = [.ref fa, .bl b] ∧ Feed H fa sa n ∧ n + 3 ≤ most ∧
  ∀ (p n' : Int) (H' : Hp), -99 ≤ p → p ≤ 99 → n ≤ n' → n' ≤ n + 3 → Feed H' fa sa n' → Ext [fa] H H' → Q (.int p) H'
theorem Feed.has {H : Hp} {fa sa : Addr} {n : Int} (f : Feed H fa sa n) {l : Addr} (h : H l = none) : l ≠ fa ∧ l ≠ sa := by
  obtain ⟨ns, i, c, e1, e2⟩ := f.ex
  exact ⟨(ne_of_none e1 h).symm, (ne_of_none e2 h).symm⟩
section
variable {P : Program} {w : World} {K : PySem.W.Frag} {mg : Str → Option Value} {base : Heap} {f : Addr} {fd : FuncData}
theorem d_is_rising_below (F : Fun K "is_rising_below" "is_rising_below" (top 12) f fd) (hm : mg "is_rising_below" = some (.ref f)) (B : Bt mg) (D_is_rising : DefOk P w K mg base 2 "is_rising" ["thing"] spIsRising) : DefOk P w K mg base 3 "is_rising_below" ["thing", "bound"] spBelow := by
  refine ⟨f, fd, ?_, hm, F.kp, F.binds fun _ _ _ _ _ _ us hl => match us, hl with | [_, _], _ => rfl⟩
  have sc : FnScope ["thing", "bound"] ["thing", "bound"] (defScope (top 12)) := ⟨rfl, rfl, rfl, by decide +kernel, rfl, by decide +kernel, by decide +kernel⟩
  refine F.okQ sc (fun vs H Q E h => ?_) (fun cdv A outer s H vs Q E hr h => ?_)
  · obtain ⟨S, d, v, b, rfl, _⟩ := h
    rfl
  · obtain ⟨S, d, v, b, rfl, rp, q⟩ := h
    refine ⟨_, (qss_one (qs_ret (qe_and (qe_callD D_is_rising (hr.mono (by decide)) (qa_c (qv 0) qa_nil)) (qe_one (qe_or (qe_cmpR op_eq (qe_callB (lenK K) (by rfl) B.len (by decide +kernel) (qa_c (qv 0) qa_nil)) qe_int (nomark _)) (qe_one (qe_cmpR op_lt (qe_ix (ixT K) (qv 0) (qe_un un_neg qe_int) (fun _ _ => rfl)) (qv 1) (nomark _)))))))), ?_⟩
    refine ⟨v, rfl, S, d, v, rfl, rp, _, rfl, ?_⟩
    cases d with
    | tuple ds =>
      obtain ⟨a, xs, rfl, ha, r⟩ := rp.of_tup
      cases hd : risingFrom (-1) ds with
      | false =>
        have e : belowD b (.tuple ds) = false := by show (risingFrom (-1) ds && lastBelow b ds) = false; rw [hd]; rfl
        rw [e] at q
        show if risingFrom (-1) ds = true then _ else _
        rw [hd]
        exact iteF q
      | true =>
        have e : belowD b (.tuple ds) = lastBelow b ds := by show (risingFrom (-1) ds && lastBelow b ds) = _; rw [hd]; rfl
        rw [e] at q
        show if risingFrom (-1) ds = true then _ else _
        rw [hd]
        refine iteT ⟨_, rfl, a, xs, rfl, .inr (SqT.of ha), rfl, _, rfl, ite2 (fun h0 => ?_) (fun h0 => ?_)⟩
        · have h1 : V.int (xs.length : Nat) = V.int 0 := of_decide_eq_true h0
          have h2 : ds = [] := by
            have := V.int.inj h1
            rw [r.length] at this
            exact List.length_eq_zero_iff.mp (by omega)
          subst h2
          exact q
        · have h1 : ds.length ≠ 0 := fun z => h0 (decide_eq_true (by rw [r.length, z]; rfl))
          have hl : ds.length - 1 < ds.length := by omega
          obtain ⟨i, hi⟩ := rising_ints ds _ hd ds[ds.length - 1] (List.getElem_mem hl)
          have hi' : ds[ds.length - 1]? = some (.int i) := by rw [List.getElem?_eq_getElem hl, hi]
          obtain ⟨x, hx, rx⟩ := r.at hi'
          have e2 := rx.of_int
          subst e2
          rw [lastBelow_at b ds i hi'] at q
          exact ⟨_, rfl, 1, rfl, a, xs, -1, _, rfl, rfl, SqT.of ha, atI_neg1 (by rw [r.length]; exact hx), _, rfl, i, b, rfl, rfl, q⟩
    | _ => exact iteF q
theorem d_is_set (F : Fun K "is_set" "is_set" (top 14) f fd) (hm : mg "is_set" = some (.ref f)) (B : Bt mg) (D_is_rising_below : DefOk P w K mg base 3 "is_rising_below" ["thing", "bound"] spBelow) : DefOk P w K mg base 4 "is_set" ["web", "thing"] spSet := by
  refine ⟨f, fd, ?_, hm, F.kp, F.binds fun _ _ _ _ _ _ us hl => match us, hl with | [_, _], _ => rfl⟩
  have sc : FnScope ["web", "thing"] ["web", "thing"] (defScope (top 14)) := ⟨rfl, rfl, rfl, by decide +kernel, rfl, by decide +kernel, by decide +kernel⟩
  refine F.okQ sc (fun vs H Q E h => ?_) (fun cdv A outer s H vs Q E hr h => ?_)
  · obtain ⟨S, d, v, many, ts, w, rfl, _⟩ := h
    rfl
  · obtain ⟨S, d, v, many, ts, w, rfl, rw', rp, q⟩ := h
    obtain ⟨a, t, xs, rfl, ha, ht, r⟩ := web_of rw'
    refine ⟨_, (qss_one (qs_ret (qe_callD D_is_rising_below (hr.mono (by decide)) (qa_c (qv 1) (qa_c (qe_callB (lenK K) (by rfl) B.len (by decide +kernel) (qa_c (qe_ix (ixT K) (qv 0) qe_int (fun _ _ => rfl)) qa_nil)) qa_nil))))), ?_⟩
    exact ⟨v, rfl, _, rfl, a, _, 1, _, rfl, rfl, SqT.of ha, rfl, t, xs, rfl, .inr (SqT.of ht), S, d, v, _, rfl, rp, by rw [r.length]; exact q⟩
theorem d_whole (F : Fun K "_law_whole" "_law_whole" (top 26) f fd) (hm : mg "_law_whole" = some (.ref f)) (B : Bt mg) : DefOk P w K mg base 1 "_law_whole" ["_law_thing", "_law_least", "_law_most"] spWhole := by
  refine ⟨f, fd, ?_, hm, F.kp, F.binds fun _ _ _ _ _ _ us hl => match us, hl with | [_, _, _], _ => rfl⟩
  have sc : FnScope ["_law_thing", "_law_least", "_law_most"] ["_law_thing", "_law_least", "_law_most"] (defScope (top 26)) := ⟨rfl, rfl, rfl, by decide +kernel, rfl, by decide +kernel, by decide +kernel⟩
  refine F.okQ sc (fun vs H Q E h => ?_) (fun cdv A outer s H vs Q E hr h => ?_)
  · obtain ⟨S, d, v, lo, hi, rfl, _⟩ := h
    rfl
  · obtain ⟨S, d, v, lo, hi, rfl, rp, q⟩ := h
    refine ⟨_, (qss_one (qs_ret (qe_and (qe_callB (isiK K) (by rfl) B.isinstance (by decide +kernel) (qa_c (qv 0) (qa_c (qe_ty "int" (by rfl) B.int (by decide +kernel)) qa_nil))) (qe_and (qe_not (qe_callB (isiK K) (by rfl) B.isinstance (by decide +kernel) (qa_c (qv 0) (qa_c (qe_ty "bool" (by rfl) B.bool (by decide +kernel)) qa_nil)))) (qe_one (qe_chain op_le op_le (qv 1) (qv 0) (qv 2))))))), ?_⟩
    refine ⟨v, rfl, v, _, _, _, rfl, rp.ty, kit1 d, _, rfl, ?_⟩
    cases d with
    | int i =>
      have ev := rp.of_int
      refine iteT ⟨v, rfl, v, _, _, _, rfl, rp.ty, kit2 _, _, rfl, _, rfl, iteT ⟨_, rfl, _, rfl, lo, i, rfl, ev, _, rfl, ite2 (fun h => ?_) (fun h => ?_)⟩⟩
      · refine ⟨_, rfl, i, hi, ev, rfl, ?_⟩
        have e : wholeD lo hi (.int i) = decide (i ≤ hi) := by show (decide (lo ≤ i) && decide (i ≤ hi)) = _; rw [h]; rfl
        rw [e] at q
        exact q
      · have e : wholeD lo hi (.int i) = false := by show (decide (lo ≤ i) && decide (i ≤ hi)) = _; rw [Bool.not_eq_true _ |>.mp h]; rfl
        rw [e] at q
        exact q
    | bool b => exact iteT ⟨v, rfl, v, _, _, _, rfl, rp.ty, kit2 _, _, rfl, _, rfl, iteF q⟩
    | _ => exact iteF q
theorem d_feed (F : Fun K "_law_feed" "_law_feed" (top 22) f fd) (hm : mg "_law_feed" = some (.ref f)) : DefOk P w K mg base 1 "_law_feed" ["_law_script"] (spFeed K) := by
  refine ⟨f, fd, ?_, hm, F.kp, F.binds fun _ _ _ _ _ _ us hl => match us, hl with | [_], _ => rfl⟩
  have sc : FnScope ["_law_script"] ["_law_script"] (defScope (top 22)) := ⟨rfl, rfl, rfl, by decide +kernel, rfl, by decide +kernel, by decide +kernel⟩
  refine F.okQ sc (fun vs H Q E h => ?_) (fun cdv A outer s H vs Q E hr h => ?_)
  · obtain ⟨a, ns, rfl, _⟩ := h
    rfl
  · obtain ⟨a, ns, rfl, hs, q⟩ := h
    refine ⟨_, (qss_one (qs_ret (qe_lst (qa_c (qe_slice (slL K) (qv 0) qo_none (qo_some qe_int)) (qa_c qe_int (qa_c qe_int (qa_c qe_int qa_nil))))))), ?_⟩
    refine ⟨_, rfl, 63, rfl, a, _, rfl, hs, fun p hp => ⟨by show 4 ≤ sizeLine; decide, fun l hl => ?_⟩⟩
    have hpl : p ≠ l := fun z => by rw [← z, upd_same] at hl; cases hl
    have hl0 : H l = none := by rw [upd_ne hpl.symm] at hl; exact hl
    have x : Ext [] H (upd (upd H p (.lst (cutV (ns.map V.int) none (some 63)))) l (.lst [.ref p, .int 0, .int 0, .int 0])) := (Ext.new hp).trans (.new hl)
    refine q l p _ ⟨⟨(ns.drop (HT.sIx (ns.map V.int).length 0 none)).take (HT.sIx (ns.map V.int).length (ns.map V.int).length (some 63) - HT.sIx (ns.map V.int).length 0 none), 0, 0, upd_same, ?_⟩, hpl, by decide⟩ x hl0 hp
    rw [upd_ne hpl, upd_same]
    unfold cutV
    rw [List.map_take, List.map_drop]
theorem d_price (F : Fun K "_law_price" "_law_price" (top 24) f fd) (hm : mg "_law_price" = some (.ref f)) (D_law_draw : DefOk P w K mg base 1 "_law_draw" ["_law_feed_here", "_law_many"] spDraw) : DefOk P w K mg base 2 "_law_price" ["_law_feed_here", "_law_signed"] spPrice := by
  refine ⟨f, fd, ?_, hm, F.kp, F.binds fun _ _ _ _ _ _ us hl => match us, hl with | [_, _], _ => rfl⟩
  have sc : FnScope ["_law_feed_here", "_law_signed", "_law_price_here"] ["_law_feed_here", "_law_signed"] (defScope (top 24)) := ⟨rfl, rfl, rfl, by decide +kernel, rfl, by decide +kernel, by decide +kernel⟩
  refine F.okQ sc (fun vs H Q E h => ?_) (fun cdv A outer s H vs Q E hr h => ?_)
  · obtain ⟨fa, sa, n, b, rfl, _⟩ := h
    rfl
  · obtain ⟨fa, sa, n, b, rfl, fe, nm, q⟩ := h
    refine ⟨_, (qss_cons (qs_set (i := 2) sc.nd rfl (Or.inl rfl) (qe_ix (ixL K) (qe_lst (qa_c qe_int (qa_c qe_int (qa_c qe_int (qa_c qe_int (qa_c qe_int (qa_c qe_int (qa_c qe_int (qa_c (qe_callD D_law_draw (hr.mono (by decide)) (qa_c (qv 0) (qa_c qe_int qa_nil))) qa_nil))))))))) (qe_callD D_law_draw (hr.mono (by decide)) (qa_c (qv 0) (qa_c qe_int qa_nil))) (fun _ _ => rfl)))
      (qss_one (qs_ret (qe_ifExp (QW.pt (qw_and (qt_val (qv 1)) (qw_and1 (qt_cmpR op_eq (qe_callD D_law_draw (hr.mono (by decide)) (qa_c (qv 0) (qa_c qe_int qa_nil))) qe_int (nomark _))))) (qe_un un_neg (qv 2)) (qv 2))))), ?_⟩
    refine ⟨_, rfl, fa, sa, n, 100, rfl, fe, by decide, by decide, by omega, fun r H1 h0 h1 f1 x1 => ⟨by show 8 ≤ sizeLine; decide, fun l hl => ?_⟩⟩
    have f1' := f1.ext (Ext.new (S := []) (o := .lst [.int 1, .int 2, .int 3, .int 0, .int 5, .int 1, .int 99, .int r]) hl) (by simp) (by simp)
    refine ⟨_, rfl, fa, sa, n + 1, 8, rfl, f1', by decide, by decide, by omega, fun r2 H2 g0 g1 f2 x2 => ?_⟩
    have hlf := (f1.has hl).1
    have hl2 : H2 l = some (.lst [.int 1, .int 2, .int 3, .int 0, .int 5, .int 1, .int 99, .int r]) := x2.keep l _ (by simpa using hlf) upd_same
    obtain ⟨v, hv, hv2⟩ := atI_ex (xs := [V.int 1, .int 2, .int 3, .int 0, .int 5, .int 1, .int 99, .int r]) g0 (by simpa using g1)
    obtain ⟨p, rfl, p0, p1⟩ : ∃ p, v = V.int p ∧ 0 ≤ p ∧ p ≤ 99 := by
      have hm := List.mem_of_getElem? hv2
      simp only [List.mem_cons, List.not_mem_nil, or_false] at hm
      rcases hm with e | e | e | e | e | e | e | e <;> exact ⟨_, e, by omega, by omega⟩
    have xx : Ext [fa] H H2 := (x1.trans (.new hl)).trans x2
    refine ⟨l, _, r2, _, rfl, rfl, SqL.of hl2, hv, ?_⟩
    refine ⟨_, rfl, b, rfl, ?_⟩
    cases b with
    | false => exact iteF (iteF ⟨_, rfl, q p _ H2 (by omega) (by omega) (by omega) (by omega) f2 xx⟩)
    | true =>
      refine iteT ⟨_, rfl, fa, sa, n + 1 + 1, 3, rfl, f2, by decide, by decide, by omega, fun r3 H3 k0 k1 f3 x3 => ⟨rfl, _, rfl, ite2 (fun hz => ?_) (fun hz => ?_)⟩⟩
      · exact ⟨_, rfl, p, rfl, q (-p) _ H3 (by omega) (by omega) (by omega) (by omega) f3 (xx.trans x3)⟩
      · exact ⟨_, rfl, q p _ H3 (by omega) (by omega) (by omega) (by omega) f3 (xx.trans x3)⟩
end
end Odj

set_option Elab.async false
set_option linter.all false
set_option maxRecDepth 100000
set_option maxHeartbeats 4000000
namespace L2
open PySem
/-! ### comprehensions by a word -/
section
variable {mp : List (Option Nat)} {g : TG} {tc : TT} {te : TE} {σ : St} {H : Hp} {R : List V → Hp → Prop}
theorem comp_range {lo : Int} {n : Nat} (Pv : Nat → List V → St → Hp → Prop) (h0 : Pv 0 [] (seed mp σ) H)
    (hs : ∀ i ys σ' H', i < n → Pv i ys σ' H' → ys.length < sizeLine ∧ g (.int (lo + i)) σ' H' fun σ2 H2 => tc σ2 H2 fun b H3 => if b = true then te σ2 H3 fun y H4 => Pv (i + 1) (ys ++ [y]) σ2 H4 else Pv (i + 1) ys σ2 H3)
    (hd : ∀ ys σ' H', Pv n ys σ' H' → ys.length ≤ sizeLine ∧ R ys H') :
    ∃ W : Nat → Nat → List V → St → Hp → Prop, (∃ m, W 0 m [] (seed mp σ) H) ∧ ∀ i m ys σ' H', W i m ys σ' H' →
      ((Itr lo n).stop i H' ∧ ys.length ≤ sizeLine ∧ R ys H') ∨
      ((Itr lo n).go i H' ∧ ys.length < sizeLine ∧ ∀ x H'', (Itr lo n).yld i H' x H'' → g x σ' H'' fun σ2 H2 => tc σ2 H2 fun b H3 =>
        if b = true then te σ2 H3 fun y H4 => ∃ m', m' < m ∧ W (i + 1) m' (ys ++ [y]) σ2 H4 else ∃ m', m' < m ∧ W (i + 1) m' ys σ2 H3) := by
  refine ⟨fun i m ys σ H => m = n - i ∧ i ≤ n ∧ Pv i ys σ H, ⟨n, by simp, Nat.zero_le _, h0⟩, ?_⟩
  rintro i m ys σ' H' ⟨rfl, hi, p⟩
  by_cases hlt : i < n
  · obtain ⟨hl, q⟩ := hs i ys σ' H' hlt p
    refine .inr ⟨hlt, hl, fun x H'' y => ?_⟩
    obtain ⟨e, y⟩ := y
    subst e y
    have e : ∀ ys σ H, (∃ m', m' < n - i ∧ m' = n - (i + 1) ∧ i + 1 ≤ n ∧ Pv (i + 1) ys σ H) = Pv (i + 1) ys σ H := fun ys σ H => propext ⟨fun ⟨_, _, _, _, z⟩ => z, fun z => ⟨_, by omega, rfl, hlt, z⟩⟩
    simp only [e]
    exact q
  · have e : i = n := by omega
    subst e
    obtain ⟨hl, q⟩ := hd ys σ' H' p
    exact .inl ⟨Nat.le_refl _, hl, q⟩
end
end L2
namespace Odj
open PySem L2
structure Bt2 (mg : Str → Option Value) : Prop where
  range : mg "range" = none
section
variable {P : Program} {w : World} {K : PySem.W.Frag} {mg : Str → Option Value} {base : Heap} {f : Addr} {fd : FuncData}
end
end Odj

set_option Elab.async false
set_option linter.all false
set_option maxRecDepth 100000
set_option maxHeartbeats 4000000
namespace Odj
open PySem L2
theorem truN {i : Nat} {x : V} {σ : St} {H : Hp} {A B : St → Hp → Prop} (h : A (σ.set i (some x)) H) : gName i x σ H fun σ2 H2 => tTrue σ2 H2 fun b H3 => if b = true then A σ2 H3 else B σ2 H3 := by
  show if true = true then A (σ.set i (some x)) H else B (σ.set i (some x)) H
  exact iteT h
def lenD : PyData → Nat
  | .tuple ds => ds.length
  | _ => 0
section
variable {P : Program} {w : World} {K : PySem.W.Frag} {mg : Str → Option Value} {base : Heap} {f : Addr} {fd : FuncData}
end
end Odj

set_option Elab.async false
set_option linter.all false
set_option maxRecDepth 100000
set_option maxHeartbeats 8000000
namespace Odj
open PySem L2
abbrev Tie := Int × Int × Int
def tieD (t : Tie) : PyData := .tuple [.int t.1, .int t.2.1, .int t.2.2]
structure TieOk (many : Int) (t : Tie) : Prop where
  a0 : 0 ≤ t.1
  ab : t.1 < t.2.1
  bm : t.2.1 < many
  p0 : -99 ≤ t.2.2
  p1 : t.2.2 ≤ 99
/-- ties stand so in H, whatever lists change -/
def Ties (H : Hp) (ts : List Tie) (xs : List V) : Prop := ∀ S, Reps S H (ts.map tieD) xs
theorem Ties.ext {S : List Addr} {H H' : Hp} {ts : List Tie} {xs : List V} (h : Ties H ts xs) (x : Ext S H H') : Ties H' ts xs := fun S' => ((h (S' ++ S)).ext (x.mono fun b hb => List.mem_append_right _ hb)).less fun b hb => List.mem_append_left _ hb
theorem Ties.nil {H : Hp} : Ties H [] [] := fun _ => .nil
theorem Ties.append {H : Hp} {ts us : List Tie} {xs ys : List V} (h : Ties H ts xs) (k : Ties H us ys) : Ties H (ts ++ us) (xs ++ ys) := fun S => by rw [List.map_append]; exact (h S).append (k S)
theorem Ties.one {H : Hp} {t : Tie} {p : Addr} (h : H p = some (.tup [.int t.1, .int t.2.1, .int t.2.2])) : Ties H [t] [.ref p] := fun S => .cons (.tup h (.cons (.int _) (.cons (.int _) (.cons (.int _) .nil)))) .nil
theorem Ties.take {H : Hp} {ts : List Tie} {xs : List V} (h : Ties H ts xs) (n : Nat) : Ties H (ts.take n) (xs.take n) := fun S => by rw [List.map_take]; exact (h S).take n
theorem Ties.drop {H : Hp} {ts : List Tie} {xs : List V} (h : Ties H ts xs) (n : Nat) : Ties H (ts.drop n) (xs.drop n) := fun S => by rw [List.map_drop]; exact (h S).drop n
theorem Ties.length {H : Hp} {ts : List Tie} {xs : List V} (h : Ties H ts xs) : xs.length = ts.length := by have := (h []).length; rw [List.length_map] at this; exact this
theorem Ties.at {H : Hp} {ts : List Tie} {xs : List V} (h : Ties H ts xs) {i : Nat} {x : V} (hx : xs[i]? = some x) : ∃ t, ts[i]? = some t ∧ Ties H [t] [x] := by
  have hi : i < xs.length := (List.getElem?_eq_some_iff.mp hx).1
  have hi' : i < ts.length := by rw [← h.length]; exact hi
  refine ⟨ts[i], by simp [hi'], fun S => ?_⟩
  obtain ⟨d, hd, r⟩ := (h S).get hx
  rw [List.getElem?_map] at hd
  have : ts[i]? = some ts[i] := by simp [hi']
  rw [this] at hd
  have hd' : tieD ts[i] = d := Option.some.inj hd
  subst hd'
  exact .cons r .nil
/-- the list of ties under work: at l, new since H0 -/
structure Found (H0 H : Hp) (fa sa l : Addr) (many : Int) (ts : List Tie) : Prop where
  ex : ∃ xs, H l = some (.lst xs) ∧ Ties H ts xs
  ok : ∀ t ∈ ts, TieOk many t
  nf : l ≠ fa
  ns : l ≠ sa
  new : H0 l = none
  ext : Ext [fa] H0 H
section
variable {H0 H H' : Hp} {fa sa l : Addr} {many n : Int} {ts : List Tie}
theorem Found.step (f : Found H0 H fa sa l many ts) (x : Ext [fa] H H') : Found H0 H' fa sa l many ts := by
  obtain ⟨xs, h1, h2⟩ := f.ex
  exact ⟨⟨xs, x.keep _ _ (by simpa using f.nf) h1, h2.ext x⟩, f.ok, f.nf, f.ns, f.new, f.ext.trans x⟩
theorem Found.set (f : Found H0 H fa sa l many ts) {ys : List V} {us : List Tie} (h : Ties H us ys) (hk : ∀ t ∈ us, TieOk many t) : Found H0 (upd H l (.lst ys)) fa sa l many us := by
  obtain ⟨xs, h1, h2⟩ := f.ex
  exact ⟨⟨ys, upd_same, h.ext (.set (S := [l]) (by simp) h1)⟩, hk, f.nf, f.ns, f.new, f.ext.set' f.new h1⟩
theorem Found.feed (f : Found H0 H fa sa l many ts) (fe : Feed H fa sa n) {o : HO} : Feed (upd H l o) fa sa n := by
  obtain ⟨xs, h1, _⟩ := f.ex
  exact fe.ext (.set (S := [l]) (by simp) h1) (by simpa using f.nf.symm) (by simpa using f.ns.symm)
end
def spWeb : Sp := fun vs H Q _ => ∃ (fa sa : Addr) (n mp ties : Int) (b : Bool), vs = [.ref fa, .int mp, .int ties, .bl b] ∧ Feed H fa sa n ∧ 0 < mp ∧ mp ≤ 60 ∧ 0 ≤ ties ∧ ties ≤ 200 ∧ n + 3000 ≤ most ∧
  ∀ (many : Int) (ts : List Tie) (v : V) (n' : Int) (H' : Hp), Rep [fa] H' (webD many (ts.map tieD)) v → 1 ≤ many → many ≤ mp → ts.length ≤ ties.toNat → (∀ t ∈ ts, TieOk many t) → n ≤ n' → n' ≤ n + 3000 → Feed H' fa sa n' → Ext [fa] H H' → Q v H'
section
variable {P : Program} {w : World} {K : PySem.W.Frag} {mg : Str → Option Value} {base : Heap} {f : Addr} {fd : FuncData}
theorem d_web (F : Fun K "_law_web" "_law_web" (top 25) f fd) (hm : mg "_law_web" = some (.ref f)) (B : Bt mg) (B2 : Bt2 mg) (D_law_draw : DefOk P w K mg base 1 "_law_draw" ["_law_feed_here", "_law_many"] spDraw)
    (D_law_price : DefOk P w K mg base 2 "_law_price" ["_law_feed_here", "_law_signed"] spPrice) : DefOk P w K mg base 3 "_law_web" ["_law_feed_here", "_law_most", "_law_ties", "_law_signed"] spWeb := by
  refine ⟨f, fd, ?_, hm, F.kp, F.binds fun _ _ _ _ _ _ us hl => match us, hl with | [_, _, _, _], _ => rfl⟩
  have sc : FnScope ["_law_feed_here", "_law_most", "_law_ties", "_law_signed", "_law_many", "_law_way", "_law_found", "_law_k", "_law_a", "_law_tie"] ["_law_feed_here", "_law_most", "_law_ties", "_law_signed"] (defScope (top 25)) := ⟨rfl, rfl, rfl, by decide +kernel, rfl, by decide +kernel, by decide +kernel⟩
  refine F.okQ sc (fun vs H Q E h => ?_) (fun cdv A outer s H vs Q E hr h => ?_)
  · obtain ⟨fa, sa, n, mp, ties, b, rfl, _⟩ := h
    rfl
  · obtain ⟨fa, sa, n, mp, ties, b, rfl, fe, m0, m1, t0, t1, nm, q⟩ := h
    have hsz : sizeLine = 16777216 := by decide
    have hmo : most = 1099511627776 := rfl
    refine ⟨_, (qss_cons (qs_set (i := 4) sc.nd rfl (Or.inl rfl) (qe_op op_add qe_int (qe_callD D_law_draw (hr.mono (by decide)) (qa_c (qv 0) (qa_c (qv 1) qa_nil)))))
      (qss_cons (qs_set (i := 5) sc.nd rfl (Or.inl rfl) (qe_callD D_law_draw (hr.mono (by decide)) (qa_c (qv 0) (qa_c qe_int qa_nil))))
      (qss_cons (qs_set (i := 6) sc.nd rfl (Or.inl rfl) (qe_lst qa_nil))
      (qss_cut (qs_if (qt_cmpR op_lt (qv 5) qe_int (nomark _)) (qss_one (qs_comp (i := 6) sc.nd rfl rfl (N := ["_law_k", "_law_feed_here", "_law_signed"]) (mp := [none, some 0, some 3]) rfl (qi_range1 (by rfl) B2.range (qa_c (qe_op op_sub (qv 4) qe_int) qa_nil)) rfl (by show compOk ["_law_feed_here", "_law_most", "_law_ties", "_law_signed", "_law_many", "_law_way", "_law_found", "_law_k", "_law_a", "_law_tie"] (defScope (top 25)) _ _ _ = true; decide +kernel) fun _ _ _ _ _ => ⟨(qg_name (i := 0) (by show List.Nodup [("_law_k" : Str), ("_law_feed_here" : Str), ("_law_signed" : Str)]; decide +kernel) rfl (Or.inl rfl)), qk_nil, (qe_tup (qa_c (qv 0) (qa_c (qe_op op_add (qv 0) qe_int) (qa_c (qe_callD D_law_price (hr.mono (by decide)) (qa_c (qv 1) (qa_c (qv 2) qa_nil))) qa_nil))))⟩)) qss_nil)
      (qss_cut (qs_if (QW.pt (qw_and (qt_cmpR op_eq (qv 5) qe_int (nomark _)) (qw_and1 (qt_cmpR op_gt (qv 4) qe_int (nomark _))))) (qss_one (qs_expr (qe_bmK K PySem.F.plainAttrs_list PySem.F.slot_list_append PySem.F.type_list_append mt_append (qv 6) (qa_c (qe_tup (qa_c qe_int (qa_c (qe_op op_sub (qv 4) qe_int) (qa_c (qe_callD D_law_price (hr.mono (by decide)) (qa_c (qv 0) (qa_c (qv 3) qa_nil))) qa_nil)))) qa_nil)))) qss_nil)
      (qss_cons (qs_for PassesOwn.never rfl (qi_range1 (by rfl) B2.range (qa_c (qe_op op_mul (qe_callD D_law_draw (hr.mono (by decide)) (qa_c (qv 0) (qa_c (qe_op op_add (qv 2) qe_int) qa_nil))) (qe_callTy call_int1 (by rfl) B.int (by decide +kernel) (qa_c (qe_cmpR op_gt (qv 4) qe_int (nomark _)) qa_nil))) qa_nil)) (qg_name (i := 7) sc.nd rfl (Or.inl rfl)) (qss_cons (qs_set (i := 8) sc.nd rfl (Or.inl rfl) (qe_callD D_law_draw (hr.mono (by decide)) (qa_c (qv 0) (qa_c (qe_op op_sub (qv 4) qe_int) qa_nil))))
      (qss_cons (qs_set (i := 9) sc.nd rfl (Or.inl rfl) (qe_tup (qa_c (qv 8) (qa_c (qe_op op_add (qe_op op_add (qv 8) qe_int) (qe_callD D_law_draw (hr.mono (by decide)) (qa_c (qv 0) (qa_c (qe_op op_sub (qe_op op_sub (qv 4) qe_int) (qv 8)) qa_nil)))) (qa_c (qe_callD D_law_price (hr.mono (by decide)) (qa_c (qv 0) (qa_c (qv 3) qa_nil))) qa_nil)))))
      (qss_cut (qs_if (QW.pt (qw_and (qt_cmpR (op_neD hr) (qv 6) (qe_lst qa_nil) (nomark _)) (qw_and1 (qt_cmpR op_eq (qe_callD D_law_draw (hr.mono (by decide)) (qa_c (qv 0) (qa_c qe_int qa_nil))) qe_int (nomark _))))) (qss_one (qs_set (i := 9) sc.nd rfl (Or.inl rfl) (qe_ix (ixL K) (qv 6) (qe_callD D_law_draw (hr.mono (by decide)) (qa_c (qv 0) (qa_c (qe_callB (lenK K) (by rfl) B.len (by decide +kernel) (qa_c (qv 6) qa_nil)) qa_nil))) (fun _ _ => rfl)))) qss_nil)
      (qss_one (qs_expr (qe_bmK K PySem.F.plainAttrs_list PySem.F.slot_list_insert PySem.F.type_list_insert mt_insert (qv 6) (qa_c (qe_callD D_law_draw (hr.mono (by decide)) (qa_c (qv 0) (qa_c (qe_op op_add (qe_callB (lenK K) (by rfl) B.len (by decide +kernel) (qa_c (qv 6) qa_nil)) qe_int) qa_nil))) (qa_c (qv 9) qa_nil)))))))))
      (qss_one (qs_ret (qe_tup (qa_c (qv 4) (qa_c (qe_callTy (tupleK K) (by rfl) B.tuple (by decide +kernel) (qa_c (qe_slice (slL K) (qv 6) qo_none (qo_some (qv 2))) qa_nil)) qa_nil))))))))))), ?_⟩
    have n0 := fe.lo
    refine ⟨_, rfl, _, rfl, fa, sa, n, mp, rfl, fe, by omega, by omega, by omega, fun r H1 r0 r1 f1 x1 => ⟨_, _, rfl, rfl, ?_⟩⟩
    refine ⟨_, rfl, fa, sa, n + 1, 4, rfl, f1, by decide, by decide, by omega, fun way H2 w0 w1 f2 x2 => ?_⟩
    refine ⟨Nat.zero_le _, fun l hl => ?_⟩
    have hmany : 1 ≤ 1 + r ∧ 1 + r ≤ mp := by omega
    dsimp only
    generalize (1 + r) = many at hmany ⊢
    have hlf := f2.has hl
    have x12 := x1.trans x2
    have g0 : Found H (upd H2 l (.lst [])) fa sa l many [] := ⟨⟨[], upd_same, .nil⟩, by simp, hlf.1, hlf.2, x12.fresh (by simpa using hlf.1) hl, x12.trans (.new hl)⟩
    have f3 : Feed (upd H2 l (.lst [])) fa sa (n + 1 + 1) := f2.ext (Ext.new (S := []) hl) (by simp) (by simp)
    refine ⟨fun σ' H' => ∃ l ts n', σ' = [some (.ref fa), some (.int mp), some (.int ties), some (.bl b), some (.int many), some (.int way), some (.ref l), none, none, none] ∧ Found H H' fa sa l many ts ∧ ts.length ≤ 60 ∧ Feed H' fa sa n' ∧ n ≤ n' ∧ n' ≤ n + 182, ?_, ?_⟩
    · refine ⟨_, rfl, _, _, rfl, rfl, _, rfl, ite2 (fun hw => ?_) (fun hw => ⟨l, [], _, rfl, g0, by simp, f3, by omega, by omega⟩)⟩
      refine ⟨_, rfl, _, _, rfl, rfl, many - 1, rfl, by omega, by omega, comp_range (fun i ys σ' H' => (∃ y, σ' = [y, some (.ref fa), some (.bl b)]) ∧ ∃ ts n', Ties H' ts ys ∧ (∀ t ∈ ts, TieOk many t) ∧ ts.length = i ∧ i ≤ (many - 1).toNat ∧ Feed H' fa sa n' ∧ n ≤ n' ∧ n' ≤ n + 2 + 3 * i ∧ Ext [fa] H H')
        ⟨⟨none, rfl⟩, [], _, .nil, by simp, rfl, Nat.zero_le _, f3, by omega, by omega, g0.ext⟩ ?_ ?_⟩
      · rintro i ys σ' H' hi ⟨⟨y, rfl⟩, ts, n', hts, hok, hlen, hi2, f4, n1, n2, x4⟩
        refine ⟨by rw [hts.length]; omega, truN ⟨_, rfl, _, rfl, _, _, rfl, rfl, _, rfl, _, rfl, fa, sa, n', b, rfl, f4, by omega, fun p n'' H'' p0 p1 k0 k1 f5 x5 => ⟨by show 3 ≤ sizeLine; decide, fun t ht => ?_⟩⟩⟩
        have x6 : Ext [] H'' (upd H'' t (.tup [.int (0 + (i : Int)), .int (0 + (i : Int) + 1), .int p])) := .new ht
        refine ⟨⟨_, rfl⟩, ts ++ [(0 + (i : Int), 0 + (i : Int) + 1, p)], n'', ((hts.ext x5).ext x6).append (.one upd_same), ?_, by simp [hlen], by omega, f5.ext x6 (by simp) (by simp), by omega, by omega, (x4.trans x5).trans (x6.mono (by simp))⟩
        intro t' ht'
        rcases List.mem_append.mp ht' with h | h
        · exact hok t' h
        · have : t' = (0 + (i : Int), 0 + (i : Int) + 1, p) := by simpa using h
          subst this
          exact ⟨by show 0 ≤ 0 + (i : Int); omega, by show 0 + (i : Int) < 0 + (i : Int) + 1; omega, by show 0 + (i : Int) + 1 < many; omega, p0, p1⟩
      · rintro ys σ' H' ⟨_, ts, n', hts, hok, hlen, hi2, f4, n1, n2, x4⟩
        refine ⟨by rw [hts.length]; omega, fun D hD => ?_⟩
        have hDf := f4.has hD
        exact ⟨D, ts, n', rfl, ⟨⟨ys, upd_same, hts.ext (Ext.new (S := []) hD)⟩, hok, hDf.1, hDf.2, x4.fresh (by simpa using hDf.1) hD, x4.trans (.new hD)⟩, by omega, f4.ext (Ext.new (S := []) hD) (by simp) (by simp), n1, by omega⟩
    rintro σ1 H3 ⟨l, ts, n1, rfl, g1, hlen1, f4, a1, a2⟩
    refine ⟨fun σ' H' => ∃ l ts n', σ' = [some (.ref fa), some (.int mp), some (.int ties), some (.bl b), some (.int many), some (.int way), some (.ref l), none, none, none] ∧ Found H H' fa sa l many ts ∧ ts.length ≤ 61 ∧ Feed H' fa sa n' ∧ n ≤ n' ∧ n' ≤ n + 185, ?_, ?_⟩
    · refine ⟨_, rfl, rfl, _, rfl, ite2 (fun hw => ?_) (fun hw => iteF ⟨l, ts, n1, rfl, g1, by omega, f4, a1, by omega⟩)⟩
      refine ⟨_, rfl, _, _, rfl, rfl, _, rfl, ite2 (fun hgt => ?_) (fun hgt => ⟨l, ts, n1, rfl, g1, by omega, f4, a1, by omega⟩)⟩
      have hgt' : 1 < many := of_decide_eq_true hgt
      obtain ⟨xs, e1, e2⟩ := g1.ex
      refine ⟨_, rfl, .inl ⟨rfl, _, SqL.of e1⟩, _, rfl, _, _, rfl, rfl, _, rfl, _, rfl, fa, sa, n1, b, rfl, f4, by omega, fun p n'' H'' p0 p1 k0 k1 f5 x5 => ⟨by show 3 ≤ sizeLine; decide, fun t ht => ?_⟩⟩
      have g2 := g1.step x5
      have x6 : Ext [] H'' (upd H'' t (.tup [.int 0, .int (many - 1), .int p])) := .new ht
      have g3 := g2.step (x6.mono (by simp))
      obtain ⟨ys, e3, e4⟩ := g3.ex
      refine ⟨l, ys, .ref t, rfl, rfl, e3, by rw [e4.length]; omega, l, ts ++ [(0, many - 1, p)], n'', rfl, g3.set (e4.append (.one upd_same)) ?_, by simp; omega, g3.feed (f5.ext x6 (by simp) (by simp)), by omega, by omega⟩
      intro t' ht'
      rcases List.mem_append.mp ht' with h | h
      · exact g1.ok t' h
      · have : t' = (0, many - 1, p) := by simpa using h
        subst this
        exact ⟨by show (0 : Int) ≤ 0; decide, by show 0 < many - 1; omega, by show many - 1 < many; omega, p0, p1⟩
    rintro σ2 H4 ⟨l, ts, n2, rfl, g2, hlen2, f5, b1, b2⟩
    refine ⟨_, rfl, _, rfl, _, _, rfl, rfl, fa, sa, n2, ties + 1, rfl, f5, by omega, by omega, by omega, fun r5 H5 c0 c1 f6 x6 => ⟨_, rfl, _, _, rfl, rfl, .inr ⟨_, rfl, _, _, rfl, rfl, .inl ⟨by omega, by omega⟩, _, rfl, ?_⟩⟩⟩
    have hj : ∃ j : Int, r5 * (if decide (1 < many) = true then 1 else 0) = j ∧ 0 ≤ j ∧ j ≤ 200 ∧ (0 < j → 1 < many) := by
      by_cases h : 1 < many
      · exact ⟨r5, by simp [h], by omega, by omega, fun _ => h⟩
      · exact ⟨0, by simp [h], by omega, by omega, fun z => absurd z (by decide)⟩
    obtain ⟨j, ej, j0, j1, j2⟩ := hj
    rw [ej]
    refine ⟨by omega, by omega, for_range (fun i σ' H' => ∃ l ts n' x7 x8 x9, σ' = [some (.ref fa), some (.int mp), some (.int ties), some (.bl b), some (.int many), some (.int way), some (.ref l), x7, x8, x9] ∧ Found H H' fa sa l many ts ∧ i ≤ 200 ∧ ts.length ≤ 61 + i ∧ Feed H' fa sa n' ∧ n ≤ n' ∧ n' ≤ n + 186 + 8 * i)
      ⟨l, ts, _, none, none, none, rfl, g2.step x6, by omega, by omega, f6, by omega, by omega⟩ ?_ ?_⟩
    · rintro i σ' H' hi ⟨l, ts, n', x7, x8, x9, rfl, g3, hi2, hlen3, f7, d1, d2⟩
      have h1m : 1 < many := j2 (by omega)
      refine ⟨_, rfl, _, rfl, _, _, rfl, rfl, fa, sa, n', many - 1, rfl, f7, by omega, by omega, by omega, fun a H6 u0 u1 f8 x8' => ?_⟩
      refine ⟨_, rfl, _, rfl, _, _, rfl, rfl, _, rfl, _, rfl, _, _, rfl, rfl, _, rfl, _, _, rfl, rfl, fa, sa, n' + 1, many - 1 - a, rfl, f8, by omega, by omega, by omega, fun c H7 v0 v1 f9 x9' => ⟨_, _, rfl, rfl, _, rfl, _, rfl, fa, sa, n' + 1 + 1, b, rfl, f9, by omega, fun p n'' H8 p0 p1 k0 k1 f10 x10 => ⟨by show 3 ≤ sizeLine; decide, fun t ht => ?_⟩⟩⟩
      have x11 : Ext [] H8 (upd H8 t (.tup [.int a, .int (a + 1 + c), .int p])) := .new ht
      have g4 := (((g3.step x8').step x9').step x10).step (x11.mono (S' := [fa]) (by simp))
      have f11 := f10.ext x11 (by simp) (by simp)
      have t4 : Ties (upd H8 t (.tup [.int a, .int (a + 1 + c), .int p])) [(a, a + 1 + c, p)] [.ref t] := .one upd_same
      generalize upd H8 t (.tup [.int a, .int (a + 1 + c), .int p]) = H9 at g4 f11 t4
      refine ⟨fun σ' H' => ∃ tv tt n', σ' = [some (.ref fa), some (.int mp), some (.int ties), some (.bl b), some (.int many), some (.int way), some (.ref l), some (.int (0 + (i : Int))), some (.int a), some tv] ∧ Found H H' fa sa l many ts ∧ Ties H' [tt] [tv] ∧ TieOk many tt ∧ Feed H' fa sa n' ∧ n'' ≤ n' ∧ n' ≤ n'' + 2, ?_, ?_⟩
      · obtain ⟨xs, e1, e2⟩ := g4.ex
        have ok0 : TieOk many (a, a + 1 + c, p) := ⟨u0, by show a < a + 1 + c; omega, by show a + 1 + c < many; omega, p0, p1⟩
        refine ⟨_, rfl, Nat.zero_le _, fun pp hpp => ?_⟩
        have x12 : Ext [] H9 (upd H9 pp (.lst [])) := .new hpp
        have g5 := g4.step (x12.mono (S' := [fa]) (by simp))
        have f12 := f11.ext x12 (by simp) (by simp)
        have t5 := t4.ext x12
        have e3 : (upd H9 pp (.lst [])) l = some (.lst xs) := x12.keep _ _ (by simp) e1
        refine ⟨[], .list (ts.map tieD), .list [], .lst e3 (by simp) ((e2.ext x12) []), .lst upd_same (by simp) .nil, ?_, rfl, ?_, _, rfl, ite2 (fun hne => ?_) (fun hne => iteF ⟨.ref t, _, n'', rfl, g5, t5, ok0, f12, by omega, by omega⟩)⟩
        · show PyData.canLayAll0 (ts.map tieD) = true
          clear e2 e3 g5 g4 g3 hlen3
          induction ts with
          | nil => rfl
          | cons t ts ih => simpa [PyData.canLayAll0, PyData.canLay0, tieD] using ih
        · show PyData.depthAll (ts.map tieD) + 1 ≤ 60
          have : PyData.depthAll (ts.map tieD) ≤ 1 := by
            clear e2 e3 g5 g4 g3 hlen3
            induction ts with
            | nil => simp [PyData.depthAll]
            | cons t ts ih => simp only [List.map_cons, PyData.depthAll, tieD, PyData.depth] at ih ⊢; omega
          omega
        have hne' : 0 < ts.length := by
          cases ts with
          | nil => simp [PyData.eqv, PyData.eqvAll] at hne
          | cons _ _ => simp
        refine ⟨_, rfl, fa, sa, n'', 5, rfl, f12, by decide, by decide, by omega, fun r13 H13 w0' w1' f13 x13 => ⟨rfl, _, rfl, ite2 (fun hz => ?_) (fun hz => ⟨.ref t, _, n'' + 1, rfl, g5.step x13, t5.ext x13, ok0, f13, by omega, by omega⟩)⟩⟩
        have g6 := g5.step x13
        obtain ⟨ys, e5, e6⟩ := g6.ex
        refine ⟨_, rfl, _, rfl, _, rfl, l, ys, rfl, .inl (SqL.of e5), fa, sa, n'' + 1, _, rfl, f13, by rw [e6.length]; omega, by rw [e6.length]; omega, by omega, fun r14 H14 y0 y1 f14 x14 => ?_⟩
        have g7 := g6.step x14
        have e7 : H14 l = some (.lst ys) := x14.keep _ _ (by simpa using g7.nf) e5
        obtain ⟨v, hv, hv2⟩ := atI_ex y0 y1
        obtain ⟨tt, ht1, ht2⟩ := (e6.ext x14).at hv2
        exact ⟨l, ys, _, v, rfl, rfl, SqL.of e7, hv, v, tt, n'' + 1 + 1, rfl, g7, ht2, g7.ok tt (List.mem_of_getElem? ht1), f14, by omega, by omega⟩
      · rintro σ3 H10 ⟨tv, tt, n3, rfl, g5, t5, ok5, f12, o1, o2⟩
        obtain ⟨xs, e1, e2⟩ := g5.ex
        refine ⟨_, rfl, .inl ⟨rfl, _, SqL.of e1⟩, _, rfl, _, rfl, l, xs, rfl, .inl (SqL.of e1), _, _, rfl, rfl, fa, sa, n3, _, rfl, f12, by rw [e2.length]; omega, by rw [e2.length]; omega, by omega, fun r13 H13 w0' w1' f13 x13 => ⟨_, rfl, ?_⟩⟩
        have g6 := g5.step x13
        have e3 : H13 l = some (.lst xs) := x13.keep _ _ (by simpa using g5.nf) e1
        have e4 := e2.ext x13
        rw [e2.length] at w1'
        refine ⟨l, xs, r13, tv, rfl, rfl, e3, by rw [e2.length]; omega, w0', by omega, l, ts.take r13.toNat ++ [tt] ++ ts.drop r13.toNat, n3 + 1, _, _, _, rfl, g6.set (ys := xs.take r13.toNat ++ tv :: xs.drop r13.toNat) ?_ ?_, by omega, ?_, g6.feed f13, by omega, by omega⟩
        · have := ((e4.take r13.toNat).append (t5.ext x13)).append (e4.drop r13.toNat)
          simpa using this
        · intro t' ht'
          simp only [List.mem_append, List.mem_singleton] at ht'
          rcases ht' with (h | h) | h
          · exact g5.ok t' (List.mem_of_mem_take h)
          · exact h ▸ ok5
          · exact g5.ok t' (List.mem_of_mem_drop h)
        · simp
          omega
    · rintro σ' H' ⟨l, ts, n', x7, x8, x9, rfl, g3, hi2, hlen3, f7, d1, d2⟩
      obtain ⟨xs, e1, e2⟩ := g3.ex
      refine ⟨_, rfl, _, rfl, _, rfl, ties, rfl, l, xs, rfl, SqL.of e1, fun p hp => ⟨p, _, rfl, .inl ⟨SqL.of upd_same, fun t ht => ⟨by show 2 ≤ sizeLine; decide, fun v hv => ?_⟩⟩⟩⟩
      have y1 : Ext [] H' (upd H' p (.lst (cutV xs none (some ties)))) := .new hp
      have y2 : Ext [] (upd H' p (.lst (cutV xs none (some ties)))) (upd (upd H' p (.lst (cutV xs none (some ties)))) t (.tup (cutV xs none (some ties)))) := .new ht
      have e3 : cutV xs none (some ties) = (xs.drop 0).take ties.toNat := by
        unfold cutV
        rw [show ties = ((ties.toNat : Nat) : Int) by omega, HT.sIx_nat, HT.sIx_none]
        simp only [List.drop_zero, Nat.sub_zero, Int.toNat_natCast]
        by_cases hc : ties.toNat ≤ xs.length
        · rw [Nat.min_eq_left hc]
        · rw [Nat.min_eq_right (by omega), List.take_of_length_le (Nat.le_refl _), List.take_of_length_le (by omega)]
      have e4 : Ties (upd (upd H' p (.lst (cutV xs none (some ties)))) t (.tup (cutV xs none (some ties)))) (ts.take ties.toNat) (cutV xs none (some ties)) := by
        have h4 := ((e2.ext y1).ext y2).take ties.toNat
        rw [show xs.take ties.toNat = cutV xs none (some ties) from e3.symm] at h4
        exact h4
      have htv : t ≠ v := fun z => by rw [← z, upd_same] at hv; cases hv
      have y3 : Ext [] (upd (upd H' p (.lst (cutV xs none (some ties)))) t (.tup (cutV xs none (some ties)))) (upd (upd (upd H' p (.lst (cutV xs none (some ties)))) t (.tup (cutV xs none (some ties)))) v (.tup [.int many, .ref t])) := .new hv
      refine q many (ts.take ties.toNat) _ n' _ (.tup upd_same (.cons (.int _) (.cons (.tup (by rw [upd_ne htv]; exact upd_same) (e4.ext y3 _)) .nil))) (by omega) (by omega) (by rw [List.length_take]; omega) (fun t' ht' => g3.ok t' (List.mem_of_mem_take ht')) d1 (by omega) (((f7.ext y1 (by simp) (by simp)).ext y2 (by simp) (by simp)).ext y3 (by simp) (by simp)) (((g3.ext.trans (y1.mono (by simp))).trans (y2.mono (by simp))).trans (y3.mono (by simp)))
end
end Odj

set_option Elab.async false
set_option linter.all false
set_option maxRecDepth 100000
set_option maxHeartbeats 8000000
namespace L2
open PySem
section
variable {mp : List (Option Nat)} {g : TG} {tc : TT} {te : TE} {σ : St} {H : Hp} {R : List V → Hp → Prop}
end
end L2
namespace Odj
open PySem L2
structure WideOk (many : Int) (t : Tie) : Prop where
  a0 : 0 ≤ t.1
  ab : t.1 < t.2.1
  bm : t.2.1 < many
  p0 : -99 ≤ t.2.2
  p1 : t.2.2 ≤ 99
def PairsIn (many : Int) (H : Hp) (ys : List V) : Prop := ∀ y ∈ ys, ∃ p a b, y = V.ref p ∧ H p = some (.tup [.int a, .int b]) ∧ 0 ≤ a ∧ a < many ∧ 0 ≤ b ∧ b < many ∧ a ≠ b
theorem PairsIn.ext {S : List Addr} {many : Int} {H H' : Hp} {ys : List V} (h : PairsIn many H ys) (x : Ext S H H') : PairsIn many H' ys := fun y hy => let ⟨p, a, b, e, hp, r⟩ := h y hy; ⟨p, a, b, e, x.tup _ _ hp, r⟩
theorem PairsIn.snoc {many : Int} {H : Hp} {ys : List V} (h : PairsIn many H ys) {p : Addr} {a b : Int} (hp : H p = some (.tup [.int a, .int b])) (a0 : 0 ≤ a) (a1 : a < many) (b0 : 0 ≤ b) (b1 : b < many) (ne : a ≠ b) : PairsIn many H (ys ++ [.ref p]) := fun y hy => by
  rcases List.mem_append.mp hy with z | z
  · exact h y z
  · exact ⟨p, a, b, by simpa using z, hp, a0, a1, b0, b1, ne⟩
structure Bt3 (mg : Str → Option Value) : Prop where
  list : mg "list" = none
  min : mg "min" = none
  max : mg "max" = none
section
variable {P : Program} {w : World} {K : PySem.W.Frag} {mg : Str → Option Value} {base : Heap} {f : Addr} {fd : FuncData}
end
end Odj

set_option Elab.async false
set_option linter.all false
set_option maxRecDepth 100000
set_option maxHeartbeats 8000000
namespace Odj
open PySem L2
/-! ### data with small leaves -/
mutual
def Gd (B : Nat) : PyData → Prop
  | .none => True
  | .bool _ => True
  | .int i => i.natAbs ≤ B
  | .str x => (∀ c ∈ x.cps.toList, c < 1114112) ∧ x.cps.size ≤ 60
  | .tuple ds => GdL B ds
  | .list ds => GdL B ds
  | .dict _ => False
def GdL (B : Nat) : List PyData → Prop
  | [] => True
  | d :: ds => Gd B d ∧ GdL B ds
end
theorem gdl_iff {B : Nat} : ∀ {ds : List PyData}, GdL B ds ↔ ∀ d ∈ ds, Gd B d
  | [] => by simp [GdL]
  | d :: ds => by simp [GdL, gdl_iff (ds := ds)]
mutual
theorem gd_mono {B C : Nat} (h : B ≤ C) : ∀ d : PyData, Gd B d → Gd C d
  | .none, _ => by simp [Gd]
  | .bool _, _ => by simp [Gd]
  | .int i, g => by simp only [Gd] at g ⊢; omega
  | .str x, g => by simp only [Gd] at g ⊢; exact g
  | .tuple ds, g => by simp only [Gd] at g ⊢; exact gdl_mono h ds g
  | .list ds, g => by simp only [Gd] at g ⊢; exact gdl_mono h ds g
  | .dict _, g => by simp only [Gd] at g
theorem gdl_mono {B C : Nat} (h : B ≤ C) : ∀ ds : List PyData, GdL B ds → GdL C ds
  | [], _ => by simp [GdL]
  | d :: ds, g => by simp only [GdL] at g ⊢; exact ⟨gd_mono h d g.1, gdl_mono h ds g.2⟩
end
theorem big50 : (10 : Nat) ^ 50 < 2 ^ 1920 := by decide +kernel
mutual
theorem gd_lay : ∀ d : PyData, Gd (10 ^ 50) d → d.canLay0 = true ∧ d.showable = true ∧ d.leavesShort 60 = true
  | .none, _ => ⟨rfl, rfl, rfl⟩
  | .bool _, _ => ⟨rfl, rfl, rfl⟩
  | .int i, g => by
    simp only [Gd] at g
    refine ⟨rfl, ?_, ?_⟩
    · simp only [PyData.showable, decide_eq_true_eq]
      by_cases h : i.natAbs = 0
      · rw [h]; decide
      · exact (Nat.log2_lt h).mpr (Nat.lt_of_le_of_lt g big50)
    · simp only [PyData.leavesShort, decide_eq_true_eq]
      have e := int_text_length_le10 (k := 51) (by decide) (Nat.lt_of_le_of_lt g (by decide +kernel : (10 : Nat) ^ 50 < 10 ^ 51))
      show (Str.ofString (toString i)).length ≤ 60
      rw [ofString_length]
      omega
  | .str x, g => by
    simp only [Gd] at g
    refine ⟨?_, rfl, ?_⟩
    · show PyData.strOk x = true
      unfold PyData.strOk
      rw [Array.all_eq_true']
      intro c hc
      exact decide_eq_true (g.1 c (by simpa using hc))
    · simp only [PyData.leavesShort, List.all_eq_true, decide_eq_true_eq]
      intro c hc
      exact Nat.lt_of_lt_of_le (g.1 c hc) (by decide)
  | .tuple ds, g => by simp only [Gd] at g; simpa only [PyData.canLay0, PyData.showable, PyData.leavesShort] using gdl_lay ds g
  | .list ds, g => by simp only [Gd] at g; simpa only [PyData.canLay0, PyData.showable, PyData.leavesShort] using gdl_lay ds g
  | .dict _, g => by simp only [Gd] at g
theorem gdl_lay : ∀ ds : List PyData, GdL (10 ^ 50) ds → PyData.canLayAll0 ds = true ∧ PyData.showableAll ds = true ∧ PyData.leavesShortAll 60 ds = true
  | [], _ => ⟨rfl, rfl, rfl⟩
  | d :: ds, g => by
    simp only [GdL] at g
    obtain ⟨a1, a2, a3⟩ := gd_lay d g.1
    obtain ⟨b1, b2, b3⟩ := gdl_lay ds g.2
    simp only [PyData.canLayAll0, PyData.showableAll, PyData.leavesShortAll, a1, a2, a3, b1, b2, b3]
    exact ⟨rfl, rfl, rfl⟩
end
theorem good_of {d : PyData} (g : Gd (10 ^ 50) d) (hd : d.depth ≤ 60) (hw : d.weight ≤ 200000) : Good d := ⟨(gd_lay d g).1, (gd_lay d g).2.1, (gd_lay d g).2.2, hd, hw⟩
theorem wA_append : ∀ xs ys : List PyData, PyData.weightAll (xs ++ ys) = PyData.weightAll xs + PyData.weightAll ys
  | [], ys => by simp [PyData.weightAll]
  | x :: xs, ys => by simp only [List.cons_append, PyData.weightAll, wA_append xs ys]; omega
theorem dA_append : ∀ xs ys : List PyData, PyData.depthAll (xs ++ ys) = max (PyData.depthAll xs) (PyData.depthAll ys)
  | [], ys => by simp [PyData.depthAll]
  | x :: xs, ys => by simp only [List.cons_append, PyData.depthAll, dA_append xs ys]; omega
theorem wA_split (xs : List PyData) (n : Nat) : PyData.weightAll xs = PyData.weightAll (xs.take n) + PyData.weightAll (xs.drop n) := by rw [← wA_append, List.take_append_drop]
theorem dA_split (xs : List PyData) (n : Nat) : PyData.depthAll xs = max (PyData.depthAll (xs.take n)) (PyData.depthAll (xs.drop n)) := by rw [← dA_append, List.take_append_drop]
theorem wA_rev : ∀ xs : List PyData, PyData.weightAll xs.reverse = PyData.weightAll xs
  | [] => rfl
  | x :: xs => by rw [List.reverse_cons, wA_append, wA_rev xs]; simp only [PyData.weightAll]; omega
theorem dA_rev : ∀ xs : List PyData, PyData.depthAll xs.reverse = PyData.depthAll xs
  | [] => rfl
  | x :: xs => by rw [List.reverse_cons, dA_append, dA_rev xs]; simp only [PyData.depthAll]; omega
theorem len_wA : ∀ xs : List PyData, xs.length ≤ PyData.weightAll xs
  | [] => Nat.le_refl _
  | x :: xs => by have := len_wA xs; simp only [List.length_cons, PyData.weightAll]; omega
theorem w_int {i : Int} {k : Nat} (h : i.natAbs < 2 ^ k) : PyData.weight (.int i) ≤ k := by
  simp only [PyData.weight]
  split
  · omega
  · rename_i hne
    have : i.natAbs ≠ 0 := fun z => hne (by simp; omega)
    have := (Nat.log2_lt this).mpr h
    omega
/-- odd things -/
def spOdd : Sp := fun vs H Q _ => ∃ (fa sa : Addr) (n : Int), vs = [.ref fa] ∧ Feed H fa sa n ∧ n + 1 ≤ most ∧
  ∀ (d : PyData) (v : V) (H' : Hp), Rep [fa] H' d v → Gd (10 ^ 39) d → d.weight ≤ 140 → d.depth ≤ 1 → Feed H' fa sa (n + 1) → Ext [fa] H H' → Q v H'
def odds0 : List PyData := [.none, .bool true, .bool false, .int 0, .int 1, .int 2, .int (-1), .int 60, .int 61, .int (10 ^ Int.toNat 39), .str "", .str "way", .str "-", .tuple [], .list [], .tuple [.int 0], .tuple [.int 0, .int 1], .list [.int 0, .int 1]]
theorem odds0_fine : ∀ d ∈ odds0, Gd (10 ^ 39) d ∧ d.weight ≤ 140 ∧ d.depth ≤ 1 := by
  intro d hd
  unfold odds0 at hd
  simp only [List.mem_cons, List.not_mem_nil, or_false] at hd
  rcases hd with rfl | rfl | rfl | rfl | rfl | rfl | rfl | rfl | rfl | rfl | rfl | rfl | rfl | rfl | rfl | rfl | rfl | rfl <;> refine ⟨?_, by decide +kernel, by decide +kernel⟩ <;> simp only [Gd, GdL] <;> decide +kernel
section
variable {P : Program} {w : World} {K : PySem.W.Frag} {mg : Str → Option Value} {base : Heap} {f : Addr} {fd : FuncData}
theorem d_odd (F : Fun K "_law_odd" "_law_odd" (top 27) f fd) (hm : mg "_law_odd" = some (.ref f)) (D_law_draw : DefOk P w K mg base 1 "_law_draw" ["_law_feed_here", "_law_many"] spDraw) : DefOk P w K mg base 2 "_law_odd" ["_law_feed_here"] spOdd := by
  refine ⟨f, fd, ?_, hm, F.kp, F.binds fun _ _ _ _ _ _ us hl => match us, hl with | [_], _ => rfl⟩
  have sc : FnScope ["_law_feed_here", "_law_some"] ["_law_feed_here"] (defScope (top 27)) := ⟨rfl, rfl, rfl, by decide +kernel, rfl, by decide +kernel, by decide +kernel⟩
  refine F.okQ sc (fun vs H Q E h => ?_) (fun cdv A outer s H vs Q E hr h => ?_)
  · obtain ⟨fa, sa, n, rfl, _⟩ := h
    rfl
  · obtain ⟨fa, sa, n, rfl, fe, nm, q⟩ := h
    refine ⟨_, (qss_cons (qs_set (i := 1) sc.nd rfl (Or.inl rfl) (qe_lst (qa_c qe_non (qa_c qe_bl (qa_c qe_bl (qa_c qe_int (qa_c qe_int (qa_c qe_int (qa_c (qe_un un_neg qe_int) (qa_c qe_int (qa_c qe_int (qa_c (qe_op op_pow qe_int qe_int) (qa_c qe_str (qa_c qe_str (qa_c qe_str (qa_c (qe_tup qa_nil) (qa_c (qe_lst qa_nil) (qa_c (qe_tup (qa_c qe_int qa_nil)) (qa_c (qe_tup (qa_c qe_int (qa_c qe_int qa_nil))) (qa_c (qe_lst (qa_c qe_int (qa_c qe_int qa_nil))) qa_nil))))))))))))))))))))
      (qss_one (qs_ret (qe_ix (ixL K) (qv 1) (qe_callD D_law_draw (hr.mono (by decide)) (qa_c (qv 0) (qa_c qe_int qa_nil))) (fun _ _ => rfl))))), ?_⟩
    refine ⟨1, rfl, 10, 39, rfl, rfl, ⟨by decide, by decide, by decide⟩, Nat.zero_le _, fun p1 h1 => ⟨Nat.zero_le _, fun p2 h2 => ⟨by show 1 ≤ sizeLine; decide, fun p3 h3 => ⟨by show 2 ≤ sizeLine; decide, fun p4 h4 => ⟨by show 2 ≤ sizeLine; decide, fun p5 h5 => ⟨by show 18 ≤ sizeLine; decide, fun l hl => ?_⟩⟩⟩⟩⟩⟩
    generalize e1 : upd H p1 (.tup []) = H1 at h2 h3 h4 h5 hl ⊢
    have x1 : Ext [] H H1 := e1 ▸ Ext.new h1
    have a1 : H1 p1 = some (.tup []) := e1 ▸ upd_same
    generalize e2 : upd H1 p2 (.lst []) = H2 at h3 h4 h5 hl ⊢
    have x2 : Ext [] H1 H2 := e2 ▸ Ext.new h2
    have a2 : H2 p2 = some (.lst []) := e2 ▸ upd_same
    generalize e3 : upd H2 p3 (.tup [.int 0]) = H3 at h4 h5 hl ⊢
    have x3 : Ext [] H2 H3 := e3 ▸ Ext.new h3
    have a3 : H3 p3 = some (.tup [.int 0]) := e3 ▸ upd_same
    generalize e4 : upd H3 p4 (.tup [.int 0, .int 1]) = H4 at h5 hl ⊢
    have x4 : Ext [] H3 H4 := e4 ▸ Ext.new h4
    have a4 : H4 p4 = some (.tup [.int 0, .int 1]) := e4 ▸ upd_same
    generalize e5 : upd H4 p5 (.lst [.int 0, .int 1]) = H5 at hl ⊢
    have x5 : Ext [] H4 H5 := e5 ▸ Ext.new h5
    have a5 : H5 p5 = some (.lst [.int 0, .int 1]) := e5 ▸ upd_same
    have f1 := fe.ext x1 (by simp) (by simp)
    have f4 := ((f1.ext x2 (by simp) (by simp)).ext x3 (by simp) (by simp)).ext x4 (by simp) (by simp)
    have f5 := f4.ext x5 (by simp) (by simp)
    have r5 : Reps [fa] H5 odds0 [.non, .bl true, .bl false, .int 0, .int 1, .int 2, .int (-1), .int 60, .int 61, .int (10 ^ Int.toNat 39), .str "", .str "way", .str "-", .ref p1, .ref p2, .ref p3, .ref p4, .ref p5] := by
      refine .cons .non (.cons (.bl _) (.cons (.bl _) (.cons (.int _) (.cons (.int _) (.cons (.int _) (.cons (.int _) (.cons (.int _) (.cons (.int _) (.cons (.int _) (.cons (.str _) (.cons (.str _) (.cons (.str _) (.cons ?_ (.cons ?_ (.cons ?_ (.cons ?_ (.cons ?_ .nil)))))))))))))))))
      · exact .tup (x5.tup _ _ (x4.tup _ _ (x3.tup _ _ (x2.tup _ _ a1)))) .nil
      · exact .lst (x5.keep _ _ (by simp) (x4.keep _ _ (by simp) (x3.keep _ _ (by simp) a2))) (by simpa using (f1.has h2).1) .nil
      · exact .tup (x5.tup _ _ (x4.tup _ _ a3)) (.cons (.int _) .nil)
      · exact .tup (x5.tup _ _ a4) (.cons (.int _) (.cons (.int _) .nil))
      · exact .lst a5 (by simpa using (f4.has h5).1) (.cons (.int _) (.cons (.int _) .nil))
    have x6 : Ext [] H5 (upd H5 l (.lst [.non, .bl true, .bl false, .int 0, .int 1, .int 2, .int (-1), .int 60, .int 61, .int (10 ^ Int.toNat 39), .str "", .str "way", .str "-", .ref p1, .ref p2, .ref p3, .ref p4, .ref p5])) := .new hl
    refine ⟨_, rfl, _, rfl, fa, sa, n, 18, rfl, f5.ext x6 (by simp) (by simp), by decide, by decide, by omega, fun r H' r0 r1 f7 x7 => ?_⟩
    obtain ⟨v, hv, hv2⟩ := atI_ex (xs := [V.non, .bl true, .bl false, .int 0, .int 1, .int 2, .int (-1), .int 60, .int 61, .int (10 ^ Int.toNat 39), .str "", .str "way", .str "-", .ref p1, .ref p2, .ref p3, .ref p4, .ref p5]) r0 (by simpa using r1)
    obtain ⟨d, hd, rd⟩ := ((r5.ext (x6.mono (S' := [fa]) (by simp))).ext x7).get hv2
    obtain ⟨g1, g2, g3⟩ := odds0_fine d (List.mem_of_getElem? hd)
    refine ⟨l, _, r, v, rfl, rfl, SqL.of (x7.keep _ _ (by simpa using (f5.has hl).1) upd_same), hv, q d v H' rd g1 g2 g3 f7 ?_⟩
    exact (((((x1.trans x2).trans x3).trans x4).trans x5).trans x6).mono (S' := [fa]) (by simp) |>.trans x7
end
end Odj

set_option Elab.async false
set_option linter.all false
set_option maxRecDepth 100000
set_option maxHeartbeats 8000000
namespace L2
open PySem
/-! ### rules by data -/
def cutL {α : Type} (xs : List α) (lo hi : Option Int) : List α := (xs.drop (HT.sIx xs.length 0 lo)).take (HT.sIx xs.length xs.length hi - HT.sIx xs.length 0 lo)
theorem cutL_to {α : Type} (xs : List α) (k : Int) (h : 0 ≤ k) : cutL xs none (some k) = xs.take k.toNat := by
  unfold cutL
  rw [show k = ((k.toNat : Nat) : Int) by omega, HT.sIx_nat, HT.sIx_none]
  simp only [List.drop_zero, Nat.sub_zero, Int.toNat_natCast]
  by_cases hc : k.toNat ≤ xs.length
  · rw [Nat.min_eq_left hc]
  · rw [Nat.min_eq_right (by omega), List.take_of_length_le (Nat.le_refl _), List.take_of_length_le (by omega)]
theorem cutL_from {α : Type} (xs : List α) (k : Int) (h : 0 ≤ k) : cutL xs (some k) none = xs.drop k.toNat := by
  unfold cutL
  rw [show k = ((k.toNat : Nat) : Int) by omega, HT.sIx_nat, HT.sIx_none]
  simp only [Int.toNat_natCast]
  by_cases hc : k.toNat ≤ xs.length
  · rw [Nat.min_eq_left hc, List.take_of_length_le (by rw [List.length_drop]; exact Nat.le_refl _)]
  · rw [Nat.min_eq_right (by omega), List.drop_of_length_le (Nat.le_refl _), List.drop_of_length_le (by omega)]
    simp
section
variable {K : PySem.W.Frag} {S : List Addr} {H : Hp} {ds es : List PyData} {v u : V} {Q : VK}
theorem sl_rep {lo hi : Option Int} (r : Rep S H (.tuple ds) v) (q : ∀ v' H', Ext [] H H' → Rep S H' (.tuple (cutL ds lo hi)) v' → Q v' H') : rSlTA K v lo hi H Q := by
  obtain ⟨a, xs, rfl, ha, rs⟩ := r.of_tup
  have hc : Reps S H (cutL ds lo hi) (cutV xs lo hi) := by
    unfold cutL cutV
    rw [rs.length]
    exact (rs.drop _).take _
  refine ⟨a, xs, rfl, SqT.of ha, fun e => q _ _ (.refl _ _) (.tup ha (e ▸ hc)), fun p hp => q _ _ (.new hp) (.tup upd_same (hc.ext (.new hp)))⟩
theorem cat_rep (r1 : Rep S H (.tuple ds) v) (r2 : Rep S H (.tuple es) u) (hz : ds.length + es.length ≤ sizeLine) (q : ∀ v' H', Ext [] H H' → Rep S H' (.tuple (ds ++ es)) v' → Q v' H') : rCatA K v u H Q := by
  obtain ⟨a, xs, rfl, ha, rs⟩ := r1.of_tup
  obtain ⟨b, ys, rfl, hb, rt⟩ := r2.of_tup
  have hc := rs.append rt
  refine ⟨a, b, xs, ys, rfl, rfl, SqT.of ha, SqT.of hb, by rw [rs.length, rt.length]; exact hz, fun e => q _ _ (.refl _ _) (.tup hb (by subst e; exact hc)), fun e => q _ _ (.refl _ _) (.tup ha (by subst e; simpa using hc)), fun p hp => q _ _ (.new hp) (.tup upd_same (hc.ext (.new hp)))⟩
theorem ix_rep {i : Int} (r : Rep S H (.tuple ds) v) (h0 : 0 ≤ i) (h1 : i < ds.length) (q : ∀ d x, ds[i.toNat]? = some d → Rep S H d x → Q x H) : rIxT K v (.int i) H Q := by
  obtain ⟨a, xs, rfl, ha, rs⟩ := r.of_tup
  obtain ⟨x, e1, e2⟩ := atI_ex (xs := xs) h0 (by rw [rs.length]; exact h1)
  obtain ⟨d, hd, rd⟩ := rs.get e2
  exact ⟨a, xs, i, x, rfl, rfl, SqT.of ha, e1, q d x hd rd⟩
end
end L2
namespace Odj
open PySem L2
structure Bt4 (mg : Str → Option Value) : Prop where
  str : mg "str" = none
/-- a thing bent somewhere; of a depth below k -/
def spBent (k : Nat) : Sp := fun vs H Q _ => ∃ (fa sa : Addr) (n : Int) (d : PyData) (v : V) (B : Nat), vs = [.ref fa, v] ∧ Feed H fa sa n ∧ Rep [fa] H d v ∧ Gd B d ∧ 10 ^ 39 ≤ B ∧ B + 1 ≤ 10 ^ 49 ∧ d.depth < k ∧ d.weight ≤ 50000 ∧ d.depth ≤ 50 ∧ n + 4 * ((d.depth : Int) + 1) ≤ most ∧
  ∀ (d' : PyData) (v' : V) (n' : Int) (H' : Hp), Rep [fa] H' d' v' → Gd (B + 1) d' → d'.weight ≤ 2 * d.weight + 400 → d'.depth ≤ d.depth + 1 → n ≤ n' → n' ≤ n + 4 * ((d.depth : Int) + 1) → Feed H' fa sa n' → Ext [fa] H H' → Q v' H'
theorem ofString_ok (s : String) : ∀ c ∈ (Str.ofString s).cps.toList, c < 1114112 := by
  intro c hc
  rw [Str.ofString_eq_toList] at hc
  simp only [List.mem_map] at hc
  obtain ⟨ch, _, rfl⟩ := hc
  have := ch.valid
  rcases this with h | ⟨_, h⟩
  · exact Nat.lt_trans h (by decide)
  · exact h
theorem gdl_take {B : Nat} {ds : List PyData} (g : GdL B ds) (n : Nat) : GdL B (ds.take n) := gdl_iff.mpr fun d hd => gdl_iff.mp g d (List.mem_of_mem_take hd)
theorem gdl_drop {B : Nat} {ds : List PyData} (g : GdL B ds) (n : Nat) : GdL B (ds.drop n) := gdl_iff.mpr fun d hd => gdl_iff.mp g d (List.mem_of_mem_drop hd)
theorem gdl_append {B : Nat} {ds es : List PyData} (g : GdL B ds) (h : GdL B es) : GdL B (ds ++ es) := gdl_iff.mpr fun d hd => (List.mem_append.mp hd).elim (gdl_iff.mp g d) (gdl_iff.mp h d)
section
variable {P : Program} {w : World} {K : PySem.W.Frag} {mg : Str → Option Value} {base : Heap} {f : Addr} {fd : FuncData}
theorem d_bent (F : Fun K "_law_bent" "_law_bent" (top 28) f fd) (hm : mg "_law_bent" = some (.ref f)) (B : Bt mg) (B3 : Bt3 mg) (B4 : Bt4 mg) (D_law_draw : DefOk P w K mg base 1 "_law_draw" ["_law_feed_here", "_law_many"] spDraw)
    (D_law_odd : DefOk P w K mg base 2 "_law_odd" ["_law_feed_here"] spOdd) : ∀ k, DefOk P w K mg base (k + 3) "_law_bent" ["_law_feed_here", "_law_thing"] (spBent k) := by
  intro k
  induction k with
  | zero =>
    refine ⟨f, fd, ⟨fun vs H Q E h => ?_, fun A outer s H args us vs Q E _ _ _ _ h => ?_⟩, hm, F.kp, F.binds fun _ _ _ _ _ _ us hl => match us, hl with | [_, _], _ => rfl⟩
    · obtain ⟨_, _, _, _, _, _, rfl, _⟩ := h
      rfl
    · obtain ⟨_, _, _, _, _, _, _, _, _, _, _, _, h, _⟩ := h
      exact absurd h (Nat.not_lt_zero _)
  | succ k ih =>
    have D_law_bent := ih
    refine ⟨f, fd, ?_, hm, F.kp, F.binds fun _ _ _ _ _ _ us hl => match us, hl with | [_, _], _ => rfl⟩
    have sc : FnScope ["_law_feed_here", "_law_thing", "_law_at", "_law_way", "_law_some"] ["_law_feed_here", "_law_thing"] (defScope (top 28)) := ⟨rfl, rfl, rfl, by decide +kernel, rfl, by decide +kernel, by decide +kernel⟩
    refine F.okQ (k := k + 3) sc (fun vs H Q E h => ?_) (fun cdv A outer s H vs Q E hr h => ?_)
    · obtain ⟨_, _, _, _, _, _, rfl, _⟩ := h
      rfl
    obtain ⟨fa, sa, n, d, v, Bo, rfl, fe, rp, gd, b0, b1, hdk, hw, hd50, nm, q⟩ := h
    have hsz : sizeLine = 16777216 := by decide
    have hmo : most = 1099511627776 := rfl
    refine ⟨_, (qss_cut (qs_if (QW.pt (qw_and (qt_val (qe_callB (isiK K) (by rfl) B.isinstance (by decide +kernel) (qa_c (qv 1) (qa_c (qe_ty "tuple" (by rfl) B.tuple (by decide +kernel)) qa_nil)))) (qw_and (qt_cmpR (op_neD hr) (qv 1) (qe_tup qa_nil) (nomark _)) (qw_and1 (qt_cmpR op_gt (qe_callD D_law_draw (hr.mono (by omega)) (qa_c (qv 0) (qa_c qe_int qa_nil))) qe_int (nomark _)))))) (qss_cons (qs_set (i := 2) sc.nd rfl (Or.inl rfl) (qe_callD D_law_draw (hr.mono (by omega)) (qa_c (qv 0) (qa_c (qe_callB (lenK K) (by rfl) B.len (by decide +kernel) (qa_c (qv 1) qa_nil)) qa_nil))))
      (qss_one (qs_ret (qe_op (catT K) (qe_op (catT K) (qe_slice (slT K) (qv 1) qo_none (qo_some (qv 2))) (qe_tup (qa_c (qe_callD D_law_bent hr (qa_c (qv 0) (qa_c (qe_ix (ixT K) (qv 1) (qv 2) (fun _ _ => rfl)) qa_nil))) qa_nil))) (qe_slice (slT K) (qv 1) (qo_some (qe_op op_add (qv 2) qe_int)) qo_none))))) qss_nil)
      (qss_cons (qs_set (i := 3) sc.nd rfl (Or.inl rfl) (qe_callD D_law_draw (hr.mono (by omega)) (qa_c (qv 0) (qa_c qe_int qa_nil))))
      (qss_cut (qs_if (QW.pt (qw_and (qt_val (qe_callB (isiK K) (by rfl) B.isinstance (by decide +kernel) (qa_c (qv 1) (qa_c (qe_ty "tuple" (by rfl) B.tuple (by decide +kernel)) qa_nil)))) (qw_and1 (qt_cmpR op_lt (qv 3) qe_int (nomark _))))) (qss_cons (qs_set (i := 2) sc.nd rfl (Or.inl rfl) (qe_callD D_law_draw (hr.mono (by omega)) (qa_c (qv 0) (qa_c (qe_op op_add (qe_callB (lenK K) (by rfl) B.len (by decide +kernel) (qa_c (qv 1) qa_nil)) qe_int) qa_nil))))
      (qss_cons (qs_set (i := 4) sc.nd rfl (Or.inl rfl) (qe_lst (qa_c (qe_callTy (listK K) (by rfl) B3.list (by decide +kernel) (qa_c (qv 1) qa_nil)) (qa_c (qe_op (catT K) (qe_slice (slT K) (qv 1) qo_none (qo_some (qv 2))) (qe_slice (slT K) (qv 1) (qo_some (qe_op op_add (qv 2) qe_int)) qo_none)) (qa_c (qe_op (catT K) (qe_slice (slT K) (qv 1) qo_none (qo_some (qe_op op_add (qv 2) qe_int))) (qe_slice (slT K) (qv 1) (qo_some (qv 2)) qo_none)) (qa_c (qe_rev K (qv 1)) qa_nil))))))
      (qss_one (qs_ret (qe_ix (ixL K) (qe_op op_cat (qv 4) (qe_lst (qa_c (qe_op (catT K) (qv 1) (qe_tup (qa_c (qe_callD D_law_odd (hr.mono (by omega)) (qa_c (qv 0) qa_nil)) qa_nil))) qa_nil))) (qv 3) (fun _ _ => rfl)))))) qss_nil)
      (qss_cut (qs_if (QW.pt (qw_and (qt_val (qe_callB (isiK K) (by rfl) B.isinstance (by decide +kernel) (qa_c (qv 1) (qa_c (qe_ty "int" (by rfl) B.int (by decide +kernel)) qa_nil)))) (qw_and (qt_not (qt_val (qe_callB (isiK K) (by rfl) B.isinstance (by decide +kernel) (qa_c (qv 1) (qa_c (qe_ty "bool" (by rfl) B.bool (by decide +kernel)) qa_nil))))) (qw_and1 (qt_cmpR op_lt (qv 3) qe_int (nomark _)))))) (qss_one (qs_ret (qe_ix (ixL K) (qe_lst (qa_c (qe_op op_add (qv 1) qe_int) (qa_c (qe_op op_sub (qv 1) qe_int) (qa_c (qe_un un_neg (qv 1)) (qa_c (qe_cmpR op_eq (qv 1) qe_int (nomark _)) (qa_c (qe_callTy call_str_int (by rfl) B4.str (by decide +kernel) (qa_c (qv 1) qa_nil)) qa_nil)))))) (qv 3) (fun _ _ => rfl)))) qss_nil)
      (qss_one (qs_ret (qe_callD D_law_odd (hr.mono (by omega)) (qa_c (qv 0) qa_nil)))))))), ?_⟩
    have n0 := fe.lo
    refine ⟨fun σ' H' => ∃ n', σ' = [some (.ref fa), some v, none, none, none] ∧ Rep [fa] H' d v ∧ Feed H' fa sa n' ∧ n ≤ n' ∧ n' ≤ n + 1 ∧ Ext [fa] H H', ?_, ?_⟩
    · refine ⟨v, rfl, v, _, _, _, rfl, rp.ty, kit3 d, _, rfl, ?_⟩
      cases d with
      | tuple ds =>
        have hwl : PyData.weightAll ds ≤ 50000 := hw
        have hlen := len_wA ds
        have hgl : GdL Bo ds := by simpa only [Gd] using gd
        refine iteT ⟨_, rfl, Nat.zero_le _, fun p hp => ?_⟩
        have y1 : Ext [] H (upd H p (.tup [])) := .new hp
        have f1 := fe.ext y1 (by simp) (by simp)
        have rp1 := rp.ext (y1.mono (S' := [fa]) (by simp))
        have hlay := (gd_lay (.tuple ds) (gd_mono (by omega) _ gd)).1
        refine ⟨[fa], .tuple ds, .tuple [], rp1, .tup upd_same .nil, hlay, rfl, by omega, _, rfl, ite2 (fun hne => ?_) (fun hne => iteF ⟨n, rfl, rp1, f1, by omega, by omega, y1.mono (by simp)⟩)⟩
        have hpos : 0 < ds.length := by
          cases ds with
          | nil => simp [PyData.eqv, PyData.eqvAll] at hne
          | cons _ _ => simp
        refine ⟨_, rfl, fa, sa, n, 6, rfl, f1, by decide, by decide, by omega, fun r6 H2 a0 a1 f2 x2 => ⟨_, _, rfl, rfl, _, rfl, ite2 (fun hz => ?_) (fun hz => ⟨n + 1, rfl, rp1.ext x2, f2, by omega, by omega, (y1.mono (by simp)).trans x2⟩)⟩⟩
        have rp2 := rp1.ext x2
        obtain ⟨a, xs, rfl, ha, rs⟩ := rp2.of_tup
        refine ⟨_, rfl, _, rfl, a, xs, rfl, .inr (SqT.of ha), fa, sa, n + 1, _, rfl, f2, by rw [rs.length]; omega, by rw [rs.length]; omega, by omega, fun at' H3 c0 c1 f3 x3 => ?_⟩
        rw [rs.length] at c1
        have rp3 := rp2.ext x3
        have x03 : Ext [fa] H H3 := ((y1.mono (by simp)).trans x2).trans x3
        refine ⟨_, rfl, _, rfl, at', rfl, sl_rep rp3 fun v1 H4 y4 r4 => ?_⟩
        have rp4 := rp3.ext (y4.mono (S' := [fa]) (by simp))
        have f4 := f3.ext y4 (by simp) (by simp)
        refine ⟨_, rfl, _, rfl, _, rfl, ix_rep rp4 c0 c1 fun dx x hdx rx => ?_⟩
        have hmem := List.mem_of_getElem? hdx
        have hat : at'.toNat < ds.length := by omega
        have hsplit : ds = ds.take at'.toNat ++ dx :: ds.drop (at'.toNat + 1) := by
          have e1 : ds.drop at'.toNat = dx :: ds.drop (at'.toNat + 1) := by
            rw [List.drop_eq_getElem_cons hat]
            congr
            exact (List.getElem?_eq_some_iff.mp hdx).2
          rw [← e1, List.take_append_drop]
        have hwx : PyData.weightAll ds = PyData.weightAll (ds.take at'.toNat) + (dx.weight + 1 + PyData.weightAll (ds.drop (at'.toNat + 1))) := by
          conv => lhs; rw [hsplit]
          rw [wA_append]
          simp only [PyData.weightAll]
        have hdx2 : PyData.depthAll ds = max (PyData.depthAll (ds.take at'.toNat)) (max dx.depth (PyData.depthAll (ds.drop (at'.toNat + 1)))) := by
          conv => lhs; rw [hsplit]
          rw [dA_append]
          simp only [PyData.depthAll]
        have hdd : (PyData.tuple ds).depth = PyData.depthAll ds + 1 := by simp only [PyData.depth]
        rw [hdd] at hdk nm q
        refine ⟨fa, sa, n + 1 + 1, dx, x, Bo, rfl, f4, rx, gdl_iff.mp hgl dx hmem, b0, b1, by omega, by omega, by omega, by omega, fun d' v' n' H5 r5 g5 w5 dp5 k0 k1 f5 x5 => ⟨by show 1 ≤ sizeLine; decide, fun t ht => ?_⟩⟩
        have y6 : Ext [] H5 (upd H5 t (.tup [v'])) := .new ht
        have r4' := (r4.ext x5).ext (y6.mono (S' := [fa]) (by simp))
        have rt : Rep [fa] (upd H5 t (.tup [v'])) (.tuple [d']) (.ref t) := .tup upd_same (.cons (r5.ext (y6.mono (S' := [fa]) (by simp))) .nil)
        have rp6 := (rp4.ext x5).ext (y6.mono (S' := [fa]) (by simp))
        have f6 := f5.ext y6 (by simp) (by simp)
        rw [cutL_to ds at' c0] at r4'
        have hl1 : (ds.take at'.toNat).length ≤ ds.length := by rw [List.length_take]; omega
        have hl2 : (ds.drop (at'.toNat + 1)).length ≤ ds.length := by rw [List.length_drop]; omega
        refine cat_rep r4' rt (by simp only [List.length_cons, List.length_nil]; omega) fun v2 H7 y7 r7 => ?_
        have rp7 := rp6.ext (y7.mono (S' := [fa]) (by simp))
        refine ⟨_, rfl, _, rfl, _, _, rfl, rfl, at' + 1, rfl, ?_⟩
        dsimp only [tNoPart]
        refine sl_rep rp7 fun v3 H8 y8 r8 => ?_
        rw [cutL_from ds (at' + 1) (by omega), show (at' + 1).toNat = at'.toNat + 1 by omega] at r8
        refine cat_rep (r7.ext (y8.mono (S' := [fa]) (by simp))) r8 (by simp only [List.length_append, List.length_cons, List.length_nil]; omega) fun v4 H9 y9 r9 => ?_
        refine q _ v4 n' H9 r9 ?_ ?_ ?_ (by omega) (by omega) (((f6.ext y7 (by simp) (by simp)).ext y8 (by simp) (by simp)).ext y9 (by simp) (by simp)) ?_
        · simp only [Gd]
          exact gdl_append (gdl_append (gdl_mono (by omega) _ (gdl_take hgl _)) (by simp only [GdL]; exact ⟨g5, trivial⟩)) (gdl_mono (by omega) _ (gdl_drop hgl _))
        · have e1 : (PyData.tuple ds).weight = PyData.weightAll ds := by simp only [PyData.weight]
          have e2 : (PyData.tuple (ds.take at'.toNat ++ [d'] ++ ds.drop (at'.toNat + 1))).weight = PyData.weightAll (ds.take at'.toNat) + (d'.weight + 1) + PyData.weightAll (ds.drop (at'.toNat + 1)) := by simp only [PyData.weight, wA_append, PyData.weightAll, Nat.add_zero]
          rw [e1, e2]
          omega
        · have e2 : (PyData.tuple (ds.take at'.toNat ++ [d'] ++ ds.drop (at'.toNat + 1))).depth = max (max (PyData.depthAll (ds.take at'.toNat)) (max d'.depth 0)) (PyData.depthAll (ds.drop (at'.toNat + 1))) + 1 := by simp only [PyData.depth, dA_append, PyData.depthAll]
          rw [e2]
          omega
        · exact ((((x03.trans (y4.mono (by simp))).trans x5).trans (y6.mono (by simp))).trans (y7.mono (by simp))).trans ((y8.trans y9).mono (by simp))
      | _ => exact iteF (iteF ⟨n, rfl, rp, fe, by omega, by omega, .refl _ _⟩)
    rintro σ1 H1 ⟨n1, rfl, rp1, f1, a1, a2, x1⟩
    have hn4 : (0 : Int) ≤ d.depth := Int.natCast_nonneg _
    refine ⟨_, rfl, fa, sa, n1, 7, rfl, f1, by decide, by decide, by omega, fun way H2 w0 w1 f2 x2 => ?_⟩
    have rp2 := rp1.ext x2
    have x02 : Ext [fa] H H2 := x1.trans x2
    refine ⟨fun σ' H' => σ' = [some (.ref fa), some v, none, some (.int way), none] ∧ H' = H2 ∧ ¬ (∃ ds, d = .tuple ds ∧ way < 5), ?_, ?_⟩
    · refine ⟨v, rfl, v, _, _, _, rfl, rp2.ty, kit3 d, _, rfl, ?_⟩
      cases d with
      | tuple ds =>
        refine iteT ⟨_, rfl, _, _, rfl, rfl, _, rfl, ite2 (fun hw5 => ?_) (fun hw5 => ⟨rfl, rfl, by rintro ⟨_, _, h⟩; exact hw5 (decide_eq_true h)⟩)⟩
        have hw5 : way < 5 := of_decide_eq_true hw5
        have hwl : PyData.weightAll ds ≤ 50000 := hw
        have hlen := len_wA ds
        have hgl : GdL Bo ds := by simpa only [Gd] using gd
        have hdd : (PyData.tuple ds).depth = PyData.depthAll ds + 1 := by simp only [PyData.depth]
        have hww : (PyData.tuple ds).weight = PyData.weightAll ds := by simp only [PyData.weight]
        rw [hdd] at hdk nm q hd50
        rw [hww] at q
        obtain ⟨a, xs, rfl, ha, rs⟩ := rp2.of_tup
        refine ⟨_, rfl, _, rfl, a, xs, rfl, .inr (SqT.of ha), _, _, rfl, rfl, fa, sa, n1 + 1, _, rfl, f2, by rw [rs.length]; omega, by rw [rs.length]; omega, by omega, fun at' H3 c0 c1 f3 x3 => ?_⟩
        rw [rs.length] at c1
        have rp3 := rp2.ext x3
        have ha3 := x3.tup _ _ ha
        have rs3 := rs.ext x3
        have hat : at'.toNat ≤ ds.length := by omega
        have e1 : (at' + 1).toNat = at'.toNat + 1 := by omega
        refine ⟨_, rfl, a, xs, rfl, .inr (SqT.of ha3), fun l hl => ?_⟩
        have y4 : Ext [] H3 (upd H3 l (.lst xs)) := .new hl
        have r0 : Rep [fa] (upd H3 l (.lst xs)) (.list ds) (.ref l) := .lst upd_same (by simpa using (f3.has hl).1) (rs3.ext (y4.mono (by simp)))
        have f4 := f3.ext y4 (by simp) (by simp)
        have rp4 := rp3.ext (y4.mono (S' := [fa]) (by simp))
        generalize upd H3 l (.lst xs) = H4 at y4 r0 f4 rp4 ⊢
        refine ⟨_, rfl, _, rfl, at', rfl, sl_rep rp4 fun v1 H5 y5 r5 => ?_⟩
        have rp5 := rp4.ext (y5.mono (S' := [fa]) (by simp))
        refine ⟨_, rfl, _, rfl, _, _, rfl, rfl, at' + 1, rfl, ?_⟩
        dsimp only [tNoPart]
        refine sl_rep rp5 fun v2 H6 y6 r6 => ?_
        have rp6 := rp5.ext (y6.mono (S' := [fa]) (by simp))
        rw [cutL_to ds at' c0] at r5
        rw [cutL_from ds (at' + 1) (by omega), e1] at r6
        have hl1 : (ds.take at'.toNat).length ≤ ds.length := by rw [List.length_take]; omega
        have hl2 : (ds.drop (at'.toNat + 1)).length ≤ ds.length := by rw [List.length_drop]; omega
        have hl3 : (ds.take (at'.toNat + 1)).length ≤ ds.length := by rw [List.length_take]; omega
        have hl4 : (ds.drop at'.toNat).length ≤ ds.length := by rw [List.length_drop]; omega
        refine cat_rep (r5.ext (y6.mono (S' := [fa]) (by simp))) r6 (by omega) fun v3 H7 y7 r7 => ?_
        have rp7 := rp6.ext (y7.mono (S' := [fa]) (by simp))
        refine ⟨_, rfl, _, rfl, _, _, rfl, rfl, at' + 1, rfl, sl_rep rp7 fun v4 H8 y8 r8 => ?_⟩
        have rp8 := rp7.ext (y8.mono (S' := [fa]) (by simp))
        refine ⟨_, rfl, _, rfl, at', rfl, ?_⟩
        dsimp only [tNoPart]
        refine sl_rep rp8 fun v5 H9 y9 r9 => ?_
        have rp9 := rp8.ext (y9.mono (S' := [fa]) (by simp))
        rw [cutL_to ds (at' + 1) (by omega), e1] at r8
        rw [cutL_from ds at' c0] at r9
        refine cat_rep (r8.ext (y9.mono (S' := [fa]) (by simp))) r9 (by omega) fun v6 H10 y10 r10 => ?_
        have rp10 := rp9.ext (y10.mono (S' := [fa]) (by simp))
        have y4A : Ext [] H4 H10 := ((((y5.trans y6).trans y7).trans y8).trans y9).trans y10
        have y3A : Ext [] H3 H10 := y4.trans y4A
        refine ⟨_, rfl, a, xs, rfl, SqT.of (y3A.tup _ _ ha3), fun p hp => ⟨by show 4 ≤ sizeLine; decide, fun s' hs' => ?_⟩⟩
        have y11 : Ext [] H10 (upd H10 p (.tup xs.reverse)) := .new hp
        have r11 : Rep [fa] (upd H10 p (.tup xs.reverse)) (.tuple ds.reverse) (.ref p) := .tup upd_same ((rs3.ext (y3A.mono (by simp))).ext (y11.mono (by simp))).reverse
        generalize upd H10 p (.tup xs.reverse) = H11 at y11 r11 hs' ⊢
        have y12 : Ext [] H11 (upd H11 s' (.lst [.ref l, v3, v6, .ref p])) := .new hs'
        have y10A : Ext [] H10 (upd H11 s' (.lst [.ref l, v3, v6, .ref p])) := y11.trans y12
        have y7A : Ext [] H7 (upd H11 s' (.lst [.ref l, v3, v6, .ref p])) := ((y8.trans y9).trans y10).trans y10A
        have rl : Reps [fa] (upd H11 s' (.lst [.ref l, v3, v6, .ref p])) [.list ds, .tuple (ds.take at'.toNat ++ ds.drop (at'.toNat + 1)), .tuple (ds.take (at'.toNat + 1) ++ ds.drop at'.toNat), .tuple ds.reverse] [.ref l, v3, v6, .ref p] :=
          .cons (r0.ext ((y4A.trans y10A).mono (by simp))) (.cons (r7.ext (y7A.mono (by simp))) (.cons (r10.ext (y10A.mono (by simp))) (.cons (r11.ext (y12.mono (by simp))) .nil)))
        have f12 := (f4.ext (y4A.trans y10A) (by simp) (by simp))
        have rp12 := rp10.ext (y10A.mono (S' := [fa]) (by simp))
        have hs12 : (upd H11 s' (.lst [.ref l, v3, v6, .ref p])) s' = some (.lst [.ref l, v3, v6, .ref p]) := upd_same
        have hsf : s' ∉ [fa] := by simpa using ((f4.ext (y4A.trans y11) (by simp) (by simp)).has hs').1
        have x12 : Ext [fa] H (upd H11 s' (.lst [.ref l, v3, v6, .ref p])) := (x02.trans x3).trans ((y3A.trans y10A).mono (by simp))
        generalize upd H11 s' (.lst [.ref l, v3, v6, .ref p]) = H12 at rl f12 rp12 hs12 x12 ⊢
        refine ⟨_, rfl, _, rfl, _, rfl, fa, sa, n1 + 1 + 1, rfl, f12, by omega, fun d5 v7 H13 r13 g13 w13 dp13 f13 x13 => ⟨by show 1 ≤ sizeLine; decide, fun t ht => ?_⟩⟩
        have y14 : Ext [] H13 (upd H13 t (.tup [v7])) := .new ht
        have rt : Rep [fa] (upd H13 t (.tup [v7])) (.tuple [d5]) (.ref t) := .tup upd_same (.cons (r13.ext (y14.mono (by simp))) .nil)
        generalize upd H13 t (.tup [v7]) = H14 at y14 rt ⊢
        refine cat_rep ((rp12.ext x13).ext (y14.mono (S' := [fa]) (by simp))) rt (by simp only [List.length_cons, List.length_nil]; omega) fun v8 H15 y15 r15 => ⟨by show 1 ≤ sizeLine; decide, fun t2 ht2 => ?_⟩
        have y16 : Ext [] H15 (upd H15 t2 (.lst [v8])) := .new ht2
        have a16 : (upd H15 t2 (.lst [v8])) t2 = some (.lst [v8]) := upd_same
        generalize upd H15 t2 (.lst [v8]) = H16 at y16 a16 ⊢
        have x16 : Ext [fa] H12 H16 := x13.trans (((y14.trans y15).trans y16).mono (by simp))
        refine ⟨s', t2, _, _, rfl, rfl, x16.keep _ _ hsf hs12, a16, by show 5 ≤ sizeLine; decide, fun p2 hp2 => ?_⟩
        have y17 : Ext [] H16 (upd H16 p2 (.lst ([.ref l, v3, v6, .ref p] ++ [v8]))) := .new hp2
        have a17 : (upd H16 p2 (.lst ([.ref l, v3, v6, .ref p] ++ [v8]))) p2 = some (.lst ([.ref l, v3, v6, .ref p] ++ [v8])) := upd_same
        generalize upd H16 p2 (.lst ([.ref l, v3, v6, .ref p] ++ [v8])) = H17 at y17 a17 ⊢
        have x17 : Ext [fa] H12 H17 := x16.trans (y17.mono (by simp))
        have f17 := f13.ext (((y14.trans y15).trans y16).trans y17) (by simp) (by simp)
        have rl17 := (rl.ext x17).append (Reps.cons (r15.ext ((y16.trans y17).mono (S' := [fa]) (by simp))) .nil)
        obtain ⟨x, k1, k2⟩ := atI_ex (xs := [.ref l, v3, v6, .ref p] ++ [v8]) w0 (by show way < 5; exact hw5)
        obtain ⟨dd, hdd2, rdd⟩ := rl17.get k2
        refine ⟨_, rfl, p2, _, way, x, rfl, rfl, SqL.of a17, k1, ?_⟩
        have hok : Gd (Bo + 1) dd ∧ dd.weight ≤ 2 * PyData.weightAll ds + 400 ∧ dd.depth ≤ PyData.depthAll ds + 1 + 1 := by
          have gl := gdl_mono (show Bo ≤ Bo + 1 by omega) _ hgl
          have wa := wA_split ds at'.toNat
          have wb := wA_split ds (at'.toNat + 1)
          have da := dA_split ds at'.toNat
          have db := dA_split ds (at'.toNat + 1)
          have hm := List.mem_of_getElem? hdd2
          simp only [List.cons_append, List.nil_append, List.mem_cons, List.not_mem_nil, or_false] at hm
          rcases hm with rfl | rfl | rfl | rfl | rfl
          · exact ⟨by simp only [Gd]; exact gl, by simp only [PyData.weight]; omega, by simp only [PyData.depth]; omega⟩
          · exact ⟨by simp only [Gd]; exact gdl_append (gdl_take gl _) (gdl_drop gl _), by simp only [PyData.weight, wA_append]; omega, by simp only [PyData.depth, dA_append]; omega⟩
          · exact ⟨by simp only [Gd]; exact gdl_append (gdl_take gl _) (gdl_drop gl _), by simp only [PyData.weight, wA_append]; omega, by simp only [PyData.depth, dA_append]; omega⟩
          · exact ⟨by simp only [Gd]; exact gdl_iff.mpr fun d hd => gdl_iff.mp gl d (List.mem_reverse.mp hd), by simp only [PyData.weight, wA_rev]; omega, by simp only [PyData.depth, dA_rev]; omega⟩
          · exact ⟨by simp only [Gd]; exact gdl_append gl (by simp only [GdL]; exact ⟨gd_mono (by omega) _ g13, trivial⟩), by simp only [PyData.weight, wA_append, PyData.weightAll]; omega, by simp only [PyData.depth, dA_append, PyData.depthAll]; omega⟩
        exact q dd x (n1 + 1 + 1 + 1) H17 rdd hok.1 hok.2.1 hok.2.2 (by omega) (by omega) f17 (x12.trans x17)
      | _ => exact iteF (iteF ⟨rfl, rfl, by rintro ⟨_, h, _⟩; cases h⟩)
    rintro σ2 H3 ⟨rfl, rfl, hno⟩
    have last : ∀ H', Feed H' fa sa (n1 + 1) → Ext [fa] H H' → (tRet (tCallD spOdd (tCons (tVar 0) tNil))) { nx := fun x H' => Q V.non H', rt := Q } [some (V.ref fa), some v, none, some (V.int way), none] H' := by
      intro H' f' x'
      exact ⟨_, rfl, fa, sa, n1 + 1, rfl, f', by omega, fun d5 v7 H13 r13 g13 w13 dp13 f13 x13 => q d5 v7 (n1 + 1 + 1) H13 r13 (gd_mono (by omega) _ g13) (by omega) (by omega) (by omega) (by omega) f13 (x'.trans x13)⟩
    refine ⟨fun σ' H' => σ' = [some (.ref fa), some v, none, some (.int way), none] ∧ H' = H3, ?_, ?_⟩
    · refine ⟨v, rfl, v, _, _, _, rfl, rp2.ty, kit1 d, _, rfl, ?_⟩
      cases d with
      | int i =>
        refine iteT ⟨_, rfl, _, _, _, _, rfl, rp2.ty, kit2 (.int i), _, rfl, iteT ⟨_, rfl, _, _, rfl, rfl, _, rfl, ite2 (fun hw5 => ?_) (fun hw5 => ⟨rfl, rfl⟩)⟩⟩
        have hw5 : way < 5 := of_decide_eq_true hw5
        obtain rfl := rp2.of_int
        have hi : i.natAbs ≤ Bo := by simpa only [Gd] using gd
        have hlt : i.natAbs < 2 ^ 180 := Nat.lt_of_le_of_lt (by omega : i.natAbs ≤ 10 ^ 49) (by decide +kernel)
        have hlog : i.natAbs.log2 < 1920 := by
          by_cases h : i.natAbs = 0
          · rw [h]; decide
          · exact Nat.lt_trans ((Nat.log2_lt h).mpr hlt) (by decide)
        have hst : (Str.ofString (toString i)).length ≤ 60 := by
          have e := int_text_length_le10 (k := 51) (by decide) (Nat.lt_of_le_of_lt (by omega : i.natAbs ≤ 10 ^ 49) (by decide +kernel : (10 : Nat) ^ 49 < 10 ^ 51))
          rw [ofString_length]
          omega
        refine ⟨_, rfl, _, _, rfl, rfl, _, rfl, _, _, rfl, rfl, _, rfl, _, rfl, _, rfl, rfl, _, rfl, _, rfl, hlog, by show 5 ≤ sizeLine; decide, fun l hl => ?_⟩
        have y4 : Ext [] H3 (upd H3 l (.lst [.int (i + 1), .int (i - 1), .int (-i), .bl (decide (V.int i = V.int 1)), .str (Str.ofString (toString i))])) := .new hl
        have rl : Reps [fa] (upd H3 l (.lst [.int (i + 1), .int (i - 1), .int (-i), .bl (decide (V.int i = V.int 1)), .str (Str.ofString (toString i))])) [.int (i + 1), .int (i - 1), .int (-i), .bool (decide (V.int i = V.int 1)), .str (Str.ofString (toString i))] [.int (i + 1), .int (i - 1), .int (-i), .bl (decide (V.int i = V.int 1)), .str (Str.ofString (toString i))] :=
          .cons (.int _) (.cons (.int _) (.cons (.int _) (.cons (.bl _) (.cons (.str _) .nil))))
        obtain ⟨x, k1, k2⟩ := atI_ex (xs := [V.int (i + 1), .int (i - 1), .int (-i), .bl (decide (V.int i = V.int 1)), .str (Str.ofString (toString i))]) w0 (by show way < 5; exact hw5)
        obtain ⟨dd, hdd2, rdd⟩ := rl.get k2
        have hok : Gd (Bo + 1) dd ∧ dd.weight ≤ 400 ∧ dd.depth ≤ 1 := by
          have hm := List.mem_of_getElem? hdd2
          have h200 : (2 : Nat) ^ 180 + 1 ≤ 2 ^ 181 := by decide +kernel
          simp only [List.mem_cons, List.not_mem_nil, or_false] at hm
          rcases hm with rfl | rfl | rfl | rfl | rfl
          · exact ⟨by simp only [Gd]; omega, Nat.le_trans (w_int (k := 181) (by omega)) (by decide), by simp [PyData.depth]⟩
          · exact ⟨by simp only [Gd]; omega, Nat.le_trans (w_int (k := 181) (by omega)) (by decide), by simp [PyData.depth]⟩
          · exact ⟨by simp only [Gd]; omega, Nat.le_trans (w_int (k := 181) (by omega)) (by decide), by simp [PyData.depth]⟩
          · exact ⟨by simp only [Gd], by simp [PyData.weight], by simp [PyData.depth]⟩
          · exact ⟨by simp only [Gd]; exact ⟨ofString_ok _, hst⟩, by simp only [PyData.weight]; exact Nat.le_trans hst (by decide), by simp [PyData.depth]⟩
        exact ⟨_, rfl, l, _, way, x, rfl, rfl, SqL.of upd_same, k1, q dd x (n1 + 1) _ rdd hok.1 (by omega) (by omega) (by omega) (by omega) (f2.ext y4 (by simp) (by simp)) (x02.trans (y4.mono (by simp)))⟩
      | bool b =>
        refine iteT ⟨_, rfl, _, _, _, _, rfl, rp2.ty, kit2 (.bool b), _, rfl, ?_⟩
        exact iteF (iteF ⟨rfl, rfl⟩)
      | _ => exact iteF (iteF ⟨rfl, rfl⟩)
    · rintro _ _ ⟨rfl, rfl⟩
      exact last _ f2 x02
end
end Odj

set_option Elab.async false
set_option linter.all false
set_option maxRecDepth 100000
set_option maxHeartbeats 8000000
namespace Odj
open PySem L2
structure Bt5 (mg : Str → Option Value) : Prop where
  repr : mg "repr" = none
def spLaw (K : PySem.W.Frag) : Sp := fun vs H Q _ => ∃ (a : Addr) (ns : List Int), vs = [.ref a] ∧ SqL K H a (ns.map V.int) ∧ ns.length ≤ 63 ∧ ∀ H', Q (.bl true) H'
/-- webs that can be shown -/
structure WebOk (many : Int) (ts : List PyData) : Prop where
  m0 : 1 ≤ many
  m1 : many ≤ 60
  len : ts.length ≤ 200
  gd : Gd (10 ^ 50) (webD many ts)
  wt : (webD many ts).weight ≤ 10000
  dp : (webD many ts).depth ≤ 10
/-- things that can be shown -/
structure ThOk (d : PyData) : Prop where
  gd : Gd (10 ^ 50) d
  wt : d.weight ≤ 50000
  dp : d.depth ≤ 50
theorem ThOk.len {d : PyData} (t : ThOk d) : lenD d ≤ 100000 := by
  cases d with
  | tuple ds =>
    have := len_wA ds
    have h := t.wt
    simp only [PyData.weight] at h
    simp only [lenD]
    omega
  | _ => simp [lenD]
theorem ties_fine : ∀ {ts : List Tie}, (∀ t ∈ ts, t.1.natAbs ≤ 100 ∧ t.2.1.natAbs ≤ 100 ∧ t.2.2.natAbs ≤ 100) → GdL (10 ^ 50) (ts.map tieD) ∧ PyData.weightAll (ts.map tieD) ≤ 25 * ts.length ∧ PyData.depthAll (ts.map tieD) ≤ 1
  | [], _ => ⟨by simp [GdL], by simp [PyData.weightAll], by simp [PyData.depthAll]⟩
  | t :: ts, h => by
    obtain ⟨h1, h2, h3⟩ := ties_fine (ts := ts) fun t ht => h t (List.mem_cons_of_mem _ ht)
    obtain ⟨k1, k2, k3⟩ := h t (List.mem_cons_self ..)
    have w1 := w_int (i := t.1) (k := 7) (by omega)
    have w2 := w_int (i := t.2.1) (k := 7) (by omega)
    have w3 := w_int (i := t.2.2) (k := 7) (by omega)
    have hb : (100 : Nat) ≤ 10 ^ 50 := by decide +kernel
    refine ⟨?_, ?_, ?_⟩
    · simp only [List.map_cons, GdL, tieD, Gd]
      exact ⟨⟨by omega, by omega, by omega, trivial⟩, h1⟩
    · have e : PyData.weightAll ((t :: ts).map tieD) = (PyData.weight (.int t.1) + 1 + (PyData.weight (.int t.2.1) + 1 + (PyData.weight (.int t.2.2) + 1 + 0))) + 1 + PyData.weightAll (ts.map tieD) := by simp only [List.map_cons, PyData.weightAll, tieD, PyData.weight]
      rw [e, List.length_cons]
      omega
    · simp only [List.map_cons, PyData.depthAll, tieD, PyData.depth]
      omega
theorem web_ok {many : Int} {ts : List Tie} (h1 : 1 ≤ many) (h2 : many ≤ 60) (hl : ts.length ≤ 200) (h : ∀ t ∈ ts, t.1.natAbs ≤ 100 ∧ t.2.1.natAbs ≤ 100 ∧ t.2.2.natAbs ≤ 100) : WebOk many (ts.map tieD) := by
  obtain ⟨k1, k2, k3⟩ := ties_fine h
  have w1 := w_int (i := many) (k := 7) (by omega)
  have hb : (100 : Nat) ≤ 10 ^ 50 := by decide +kernel
  refine ⟨h1, h2, by simpa using hl, ?_, ?_, ?_⟩
  · simp only [webD, Gd, GdL]
    exact ⟨by omega, k1, trivial⟩
  · have e : (webD many (ts.map tieD)).weight = PyData.weight (.int many) + 1 + (PyData.weightAll (ts.map tieD) + 1 + 0) := by simp only [webD, PyData.weight, PyData.weightAll]
    rw [e]
    omega
  · simp only [webD, PyData.depth, PyData.depthAll]
    omega
/-- tuples of small ints -/
theorem ints_fine : ∀ {ns : List Int}, (∀ i ∈ ns, i.natAbs ≤ 1000) → GdL (10 ^ 39) (ns.map .int) ∧ PyData.weightAll (ns.map .int) ≤ 11 * ns.length ∧ PyData.depthAll (ns.map .int) ≤ 0
  | [], _ => ⟨by simp [GdL], by simp [PyData.weightAll], by simp [PyData.depthAll]⟩
  | i :: ns, h => by
    obtain ⟨h1, h2, h3⟩ := ints_fine (ns := ns) fun t ht => h t (List.mem_cons_of_mem _ ht)
    have k1 := h i (List.mem_cons_self ..)
    have w1 := w_int (i := i) (k := 10) (by omega)
    have hb : (1000 : Nat) ≤ 10 ^ 39 := by decide +kernel
    refine ⟨?_, ?_, ?_⟩
    · simp only [List.map_cons, GdL, Gd]
      exact ⟨by omega, h1⟩
    · have e : PyData.weightAll ((i :: ns).map .int) = PyData.weight (.int i) + 1 + PyData.weightAll (ns.map .int) := by simp only [List.map_cons, PyData.weightAll]
      rw [e, List.length_cons]
      omega
    · simp only [List.map_cons, PyData.depthAll, PyData.depth]
      omega
theorem big3950 : (10 : Nat) ^ 39 ≤ 10 ^ 50 := by decide +kernel
end Odj

set_option Elab.async false
set_option linter.all false
set_option maxRecDepth 100000
set_option maxHeartbeats 8000000
namespace L2
open PySem
theorem Ext.put {S : List Addr} {H0 H : Hp} {p : Addr} {o : HO} (a : Ext S H0 H) (h0 : H0 p = none) : Ext S H0 (upd H p o) :=
  ⟨fun b u hb e => by rw [upd_ne (fun z => by rw [z, h0] at e; cases e)]; exact a.keep b u hb e, fun b ys e => by rw [upd_ne (fun z => by rw [z, h0] at e; cases e)]; exact a.tup b ys e⟩
end L2
namespace Odj
open PySem L2
/-- the odd ones, rising -/
def OddSort (row ns : List Int) : Prop := ns.Perm (trues (oddsOf row)) ∧ ns.Pairwise (· ≤ ·)
structure Bt7 (mg : Str → Option Value) : Prop where
  sorted : mg "sorted" = none
  sum : mg "sum" = none
  enumerate : mg "enumerate" = none
end Odj

set_option Elab.async false
set_option linter.all false
set_option maxRecDepth 100000
set_option maxHeartbeats 8000000
namespace L2
open PySem
/-- for k, x in enumerate(the tuple at a) -/
theorem for_enumT {K : PySem.W.Frag} {a : Addr} {xs : List V} {g : TG} {tb : TS} {D : Ends} {σ : St} {H : Hp} (Pv : Nat → St → Hp → Prop) (h0 : Pv 0 σ H) (hl : ∀ i σ H, i ≤ xs.length → Pv i σ H → SqT K H a xs)
    (hs : ∀ i x σ H, xs[i]? = some x → Pv i σ H → ∀ T, H T = none → g (.ref T) σ (upd H T (.tup [.int (i : Nat), x])) fun σ2 H2 => tb { D with nx := Pv (i + 1), ct := Pv (i + 1), bk := D.nx } σ2 H2) (hd : ∀ σ H, Pv xs.length σ H → D.nx σ H) :
    ∃ W : Nat → Nat → St → Hp → Prop, (∃ m, W 0 m σ H) ∧ ∀ i m σ H, W i m σ H →
      ((Ite K a).stop i H ∧ D.nx σ H) ∨ ((Ite K a).go i H ∧ ∃ N : St → Hp → Prop, (∀ σ' H', N σ' H' → ∃ m', m' < m ∧ W (i + 1) m' σ' H') ∧ ∀ x H', (Ite K a).yld i H x H' → g x σ H' fun σ2 H2 => tb { D with nx := N, ct := N, bk := D.nx } σ2 H2) := by
  refine ⟨fun i m σ H => m = xs.length - i ∧ i ≤ xs.length ∧ Pv i σ H, ⟨xs.length, by simp, Nat.zero_le _, h0⟩, ?_⟩
  rintro i m σ H ⟨rfl, hi, p⟩
  have q := hl i σ H hi p
  by_cases hlt : i < xs.length
  · refine .inr ⟨⟨xs, xs[i], q, by simp [hlt]⟩, Pv (i + 1), fun σ' H' p' => ⟨xs.length - (i + 1), by omega, rfl, hlt, p'⟩, fun x H' y => ?_⟩
    obtain ⟨T, xi, e1, hT, e2, hxi⟩ := y
    subst e1 e2
    exact hs i xi σ H (hxi xs q) p T hT
  · have e : i = xs.length := by omega
    subst e
    exact .inl ⟨⟨xs, q, Nat.le_refl _⟩, hd σ H p⟩
end L2
namespace Odj
open PySem L2
theorem trues_eq {o : Odd} (hn : (keysOf o).Nodup) : trues o = (keysOf o).filter (isOdd o) := by
  unfold trues keysOf
  rw [List.filter_map]
  congr 1
  apply List.filter_congr
  intro p hp
  obtain ⟨i, hi⟩ := List.getElem?_of_mem hp
  exact (odd_at hn hi).symm
section
variable {P : Program} {w : World} {K : PySem.W.Frag} {mg : Str → Option Value} {base : Heap} {f : Addr} {fd : FuncData}
end
end Odj

set_option Elab.async false
set_option linter.all false
set_option maxRecDepth 100000
set_option maxHeartbeats 8000000
namespace Odj
open PySem L2
/-- a web whose ties join unlike places, prices small -/
structure TieFine (many : Int) (t : Tie) : Prop where
  a0 : 0 ≤ t.1
  ab : t.1 < t.2.1
  bm : t.2.1 < many
  p0 : -99 ≤ t.2.2
  p1 : t.2.2 ≤ 99
structure WebFn (many : Int) (ts : List Tie) : Prop where
  m0 : 1 ≤ many
  m1 : many ≤ 60
  len : ts.length ≤ 200
  ok : ∀ t ∈ ts, TieFine many t
/-- the tie at a place -/
theorem tie_at {S : List Addr} {H : Hp} {ts : List Tie} {xs : List V} (r : Reps S H (ts.map tieD) xs) {i : Int} (h0 : 0 ≤ i) (h1 : i < (ts.length : Int)) : ∃ t p, ts[i.toNat]? = some t ∧ t ∈ ts ∧ atI xs i = some (.ref p) ∧ Rep S H (tieD t) (.ref p) ∧ H p = some (.tup [.int t.1, .int t.2.1, .int t.2.2]) := by
  have hl := r.length
  rw [List.length_map] at hl
  obtain ⟨v, e1, e2⟩ := atI_ex (xs := xs) h0 (by omega)
  obtain ⟨d, hd, rd⟩ := r.get e2
  rw [List.getElem?_map] at hd
  have hi : i.toNat < ts.length := by omega
  have hts : ts[i.toNat]? = some ts[i.toNat] := by simp [hi]
  rw [hts] at hd
  have hd' : tieD ts[i.toNat] = d := Option.some.inj hd
  subst hd'
  obtain ⟨p, xs', ev, hp, rr⟩ := rd.of_tup
  subst ev
  obtain ⟨y1, r1, z1, q1, w1⟩ := rr.of_cons
  obtain ⟨y2, r2, z2, q2, w2⟩ := w1.of_cons
  obtain ⟨y3, r3, z3, q3, w3⟩ := w2.of_cons
  have z4 := w3.of_nil
  have o1 := q1.of_int
  have o2 := q2.of_int
  have o3 := q3.of_int
  subst z1 z2 z3 z4 o1 o2 o3
  exact ⟨ts[i.toNat], p, hts, List.getElem_mem hi, e1, rd, hp⟩
theorem rep_ints {S : List Addr} {H : Hp} {ns : List Int} {u : V} (h : Rep S H (.tuple (ns.map .int)) u) : ∃ a, u = .ref a ∧ H a = some (.tup (ns.map V.int)) := by
  obtain ⟨a, xs, rfl, ha, r⟩ := h.of_tup
  have : xs = ns.map V.int := by
    clear ha h
    induction ns generalizing xs with
    | nil => exact r.of_nil
    | cons n ns ih =>
      obtain ⟨x, r1, e, h1, h2⟩ := r.of_cons
      have e1 := h1.of_int
      subst e e1
      rw [ih r1 h2]
      rfl
  subst this
  exact ⟨a, rfl, ha⟩
def spOther : Sp := fun vs H Q _ => ∃ (S : List Addr) (t : Tie) (v : V) (x : Int), vs = [v, .int x] ∧ Rep S H (tieD t) v ∧ Q (.int (otherEnd t x)) H
def spAhead : Sp := fun vs H Q _ => ∃ (S : List Addr) (many : Int) (ts : List Tie) (v : V) (n x : Int) (t : Tie), vs = [v, .int n, .int x] ∧ Rep S H (webD many (ts.map tieD)) v ∧ 0 ≤ n ∧ ts[n.toNat]? = some t ∧ Q (.int (t.1 + t.2.1 - x)) H
theorem inV_ints (a : Int) (side : List Int) : inV (.int a) (side.map V.int) = decide (a ∈ side) := by
  induction side with
  | nil => rfl
  | cons b side ih =>
    have e : inV (.int a) ((b :: side).map V.int) = (eqV (.int b) (.int a) || inV (.int a) (side.map V.int)) := rfl
    rw [e, ih]
    have e2 : eqV (.int b) (.int a) = decide (b = a) := by
      unfold eqV
      by_cases h : b = a <;> simp [h]
    rw [e2]
    by_cases h : b = a
    · subst h; simp
    · have h' : ¬ a = b := fun z => h z.symm
      simp [h, h']
theorem flat_ints (side : List Int) : (side.map V.int).all flatV = true := by
  induction side with
  | nil => rfl
  | cons b side ih => simpa [flatV] using ih
theorem tie_there {S : List Addr} {H : Hp} {ts : List Tie} {xs : List V} (r : Reps S H (ts.map tieD) xs) {n : Int} {t : Tie} (h0 : 0 ≤ n) (ht : ts[n.toNat]? = some t) : ∃ p, atI xs n = some (.ref p) ∧ Rep S H (tieD t) (.ref p) ∧ H p = some (.tup [.int t.1, .int t.2.1, .int t.2.2]) := by
  have hl := (List.getElem?_eq_some_iff.mp ht).1
  obtain ⟨t', p, e1, _, e3, e4, e5⟩ := tie_at r h0 (by omega)
  rw [ht] at e1
  cases e1
  exact ⟨p, e3, e4, e5⟩
theorem atI_last {α : Type} (xs : List α) (x : α) : atI (xs ++ [x]) (-1) = some x := atI_neg1 (by simp)
def tieNo (n : Nat) : PyData → Bool
  | .int i => decide (0 ≤ i) && decide (i < (n : Int))
  | _ => false
theorem below_one (n : Nat) (d : PyData) : belowD (n : Int) (.tuple [d]) = tieNo n d := by
  cases d with
  | int i =>
    show ((!decide (i ≤ -1) && true) && decide (i < (n : Int))) = (decide (0 ≤ i) && decide (i < (n : Int)))
    rw [Bool.and_true]
    by_cases h : 0 ≤ i
    · rw [decide_eq_true h, decide_eq_false (show ¬ i ≤ -1 by omega)]; rfl
    · rw [decide_eq_false h, decide_eq_true (show i ≤ -1 by omega)]; rfl
  | _ => rfl
theorem tieNo_in {n : Nat} {i : Int} (h0 : 0 ≤ i) (h1 : i < (n : Int)) : tieNo n (.int i) = true := by
  show (decide (0 ≤ i) && decide (i < (n : Int))) = true
  rw [decide_eq_true h0, decide_eq_true h1]; rfl
theorem tieNo_out {n : Nat} {i : Int} (h : ¬ (0 ≤ i ∧ i < (n : Int))) : tieNo n (.int i) = false := by
  show (decide (0 ≤ i) && decide (i < (n : Int))) = false
  by_cases h0 : 0 ≤ i
  · rw [decide_eq_false (show ¬ i < (n : Int) from fun z => h ⟨h0, z⟩), Bool.and_false]
  · rw [decide_eq_false h0]; rfl
def spTieNo : Sp := fun vs H Q _ => ∃ S d v many ts w, vs = [w, v] ∧ Rep S H (webD many ts) w ∧ Rep S H d v ∧ ∀ H', Ext [] H H' → Q (.bl (tieNo ts.length d)) H'
section
variable {P : Program} {w : World} {K : PySem.W.Frag} {mg : Str → Option Value} {base : Heap} {f : Addr} {fd : FuncData}
theorem d_other_end (F : Fun K "other_end" "other_end" (top 17) f fd) (hm : mg "other_end" = some (.ref f)) : DefOk P w K mg base 1 "other_end" ["tie", "place"] spOther := by
  refine ⟨f, fd, ?_, hm, F.kp, F.binds fun _ _ _ _ _ _ us hl => match us, hl with | [_, _], _ => rfl⟩
  have sc : FnScope ["tie", "place"] ["tie", "place"] (defScope (top 17)) := ⟨rfl, rfl, rfl, by decide +kernel, rfl, by decide +kernel, by decide +kernel⟩
  refine F.okQ sc (fun vs H Q E h => ?_) (fun cdv A outer s H vs Q E hr h => ?_)
  · obtain ⟨S, t, v, x, rfl, _⟩ := h
    rfl
  · obtain ⟨S, t, v, x, rfl, rp, q⟩ := h
    obtain ⟨p, xs, rfl, hp, rr⟩ := rp.of_tup
    obtain ⟨p', hv, hp'⟩ := rep_ints (ns := [t.1, t.2.1, t.2.2]) rp
    cases hv
    refine ⟨_, (qss_one (qs_ret (qe_ifExp (qt_cmpR op_eq (qe_ix (ixT K) (qv 0) qe_int (fun _ _ => rfl)) (qv 1) (nomark _)) (qe_ix (ixT K) (qv 0) qe_int (fun _ _ => rfl)) (qe_ix (ixT K) (qv 0) qe_int (fun _ _ => rfl))))), ?_⟩
    refine ⟨_, rfl, p, _, 0, _, rfl, rfl, SqT.of hp', rfl, _, rfl, rfl, _, rfl, ?_⟩
    unfold otherEnd at q
    refine ite2 (fun h => ?_) (fun h => ?_)
    · have h' : t.1 = x := V.int.inj (of_decide_eq_true h)
      rw [if_pos h'] at q
      exact ⟨_, rfl, p, _, 1, _, rfl, rfl, SqT.of hp', rfl, q⟩
    · have h' : ¬ t.1 = x := fun z => h (decide_eq_true (by rw [z]))
      rw [if_neg h'] at q
      exact ⟨_, rfl, p, _, 0, _, rfl, rfl, SqT.of hp', rfl, q⟩
theorem d_is_tie_number (F : Fun K "is_tie_number" "is_tie_number" (top 15) f fd) (hm : mg "is_tie_number" = some (.ref f)) (D_is_set : DefOk P w K mg base 4 "is_set" ["web", "thing"] spSet) : DefOk P w K mg base 5 "is_tie_number" ["web", "thing"] spTieNo := by
  refine ⟨f, fd, ?_, hm, F.kp, F.binds fun _ _ _ _ _ _ us hl => match us, hl with | [_, _], _ => rfl⟩
  have sc : FnScope ["web", "thing"] ["web", "thing"] (defScope (top 15)) := ⟨rfl, rfl, rfl, by decide +kernel, rfl, by decide +kernel, by decide +kernel⟩
  refine F.okQ sc (fun vs H Q E h => ?_) (fun cdv A outer s H vs Q E hr h => ?_)
  · obtain ⟨S, d, v, many, ts, w, rfl, _⟩ := h
    rfl
  · obtain ⟨S, d, v, many, ts, w, rfl, rw', rp, q⟩ := h
    refine ⟨_, (qss_one (qs_ret (qe_callD D_is_set (hr.mono (by decide)) (qa_c (qv 0) (qa_c (qe_tup (qa_c (qv 1) qa_nil)) qa_nil))))), ?_⟩
    refine ⟨w, rfl, v, rfl, by show 1 ≤ sizeLine; decide, fun p hp => ?_⟩
    refine ⟨S, .tuple [d], .ref p, many, ts, w, rfl, rw'.ext (.new hp), .tup upd_same (.cons (rp.ext (.new hp)) .nil), ?_⟩
    rw [below_one]
    exact q _ (.new hp)
theorem d_law_ahead (F : Fun K "_law_ahead" "_law_ahead" (top 29) f fd) (hm : mg "_law_ahead" = some (.ref f)) : DefOk P w K mg base 1 "_law_ahead" ["_law_web_here", "_law_number", "_law_here"] spAhead := by
  refine ⟨f, fd, ?_, hm, F.kp, F.binds fun _ _ _ _ _ _ us hl => match us, hl with | [_, _, _], _ => rfl⟩
  have sc : FnScope ["_law_web_here", "_law_number", "_law_here"] ["_law_web_here", "_law_number", "_law_here"] (defScope (top 29)) := ⟨rfl, rfl, rfl, by decide +kernel, rfl, by decide +kernel, by decide +kernel⟩
  refine F.okQ sc (fun vs H Q E h => ?_) (fun cdv A outer s H vs Q E hr h => ?_)
  · obtain ⟨S, many, ts, v, n, x, t, rfl, _⟩ := h
    rfl
  · obtain ⟨S, many, ts, v, n, x, t, rfl, rw0, h0, ht, q⟩ := h
    obtain ⟨wa, wt, txs, rfl, ha, hb, rt⟩ := web_of rw0
    obtain ⟨p, e3, e4, e5⟩ := tie_there rt h0 ht
    refine ⟨_, (qss_one (qs_ret (qe_op op_sub (qe_op op_add (qe_ix (ixT K) (qe_ix (ixT K) (qe_ix (ixT K) (qv 0) qe_int (fun _ _ => rfl)) (qv 1) (fun _ _ => rfl)) qe_int (fun _ _ => rfl)) (qe_ix (ixT K) (qe_ix (ixT K) (qe_ix (ixT K) (qv 0) qe_int (fun _ _ => rfl)) (qv 1) (fun _ _ => rfl)) qe_int (fun _ _ => rfl))) (qv 2)))), ?_⟩
    exact ⟨_, rfl, wa, _, 1, _, rfl, rfl, SqT.of ha, rfl, _, rfl, wt, txs, n, _, rfl, rfl, SqT.of hb, e3, p, _, 0, _, rfl, rfl, SqT.of e5, rfl, _, rfl, wa, _, 1, _, rfl, rfl, SqT.of ha, rfl, _, rfl, wt, txs, n, _, rfl, rfl, SqT.of hb, e3, p, _, 1, _, rfl, rfl, SqT.of e5, rfl, _, _, rfl, rfl, _, rfl, _, _, rfl, rfl, q⟩
end
end Odj

set_option Elab.async false
set_option linter.all false
set_option maxRecDepth 100000
set_option maxHeartbeats 8000000
namespace Odj
open PySem L2
def spRow : Sp := fun vs H Q _ => ∃ (fa sa : Addr) (n many : Int) (ts : List Tie) (v : V) (x mo : Int), vs = [.ref fa, v, .int x, .int mo] ∧ Feed H fa sa n ∧ Rep [fa] H (webD many (ts.map tieD)) v ∧ ts.length ≤ 200 ∧ 0 ≤ mo ∧ mo ≤ 100 ∧ n + 300 ≤ most ∧
  ∀ (row : List Int) (y : Int) (u : V) (n' : Int) (H' : Hp), Rep [fa] H' (.tuple (row.map .int)) u → Walk ts x row y → row.length ≤ mo.toNat → n ≤ n' → n' ≤ n + 102 → Feed H' fa sa n' → Ext [fa] H H' → Q u H'
section
variable {P : Program} {w : World} {K : PySem.W.Frag} {mg : Str → Option Value} {base : Heap} {f : Addr} {fd : FuncData}
theorem d_law_row (F : Fun K "_law_row" "_law_row" (top 30) f fd) (hm : mg "_law_row" = some (.ref f)) (B : Bt mg) (B2 : Bt2 mg) (D_law_draw : DefOk P w K mg base 1 "_law_draw" ["_law_feed_here", "_law_many"] spDraw)
    (D_law_ahead : DefOk P w K mg base 1 "_law_ahead" ["_law_web_here", "_law_number", "_law_here"] spAhead) : DefOk P w K mg base 2 "_law_row" ["_law_feed_here", "_law_web_here", "_law_start", "_law_most"] spRow := by
  refine ⟨f, fd, ?_, hm, F.kp, F.binds fun _ _ _ _ _ _ us hl => match us, hl with | [_, _, _, _], _ => rfl⟩
  have sc : FnScope ["_law_feed_here", "_law_web_here", "_law_start", "_law_most", "_law_row_here", "_law_here", "_law_k", "_law_some"] ["_law_feed_here", "_law_web_here", "_law_start", "_law_most"] (defScope (top 30)) := ⟨rfl, rfl, rfl, by decide +kernel, rfl, by decide +kernel, by decide +kernel⟩
  refine F.okQ sc (fun vs H Q E h => ?_) (fun cdv A outer s H vs Q E hr h => ?_)
  · obtain ⟨fa, sa, n, many, ts, v, x, mo, rfl, _⟩ := h
    rfl
  · obtain ⟨fa, sa, n, many, ts, v, x, mo, rfl, fe, rw0, tlen, mo0, mo1, nm, q⟩ := h
    have hsz : sizeLine = 16777216 := by decide
    have hmo : most = 1099511627776 := rfl
    have n0 := fe.lo
    obtain ⟨wa, wt, txs, rfl, ha, hb, rt⟩ := web_of rw0
    have hxl := rt.length
    rw [List.length_map] at hxl
    refine ⟨_, (qss_cons (qs_set (i := 4) sc.nd rfl (Or.inl rfl) (qe_lst qa_nil))
      (qss_cons (qs_set (i := 5) sc.nd rfl (Or.inr rfl) (qv 2))
      (qss_cons (qs_for PassesOwn.never rfl (qi_range1 (by rfl) B2.range (qa_c (qe_callD D_law_draw (hr.mono (by decide)) (qa_c (qv 0) (qa_c (qe_op op_add (qv 3) qe_int) qa_nil))) qa_nil)) (qg_name (i := 6) sc.nd rfl (Or.inl rfl)) (qss_cons (qs_comp (i := 7) sc.nd rfl rfl (N := ["_law_number", "_law_here", "_law_web_here"]) (mp := [none, some 5, some 1]) rfl (qi_range1 (by rfl) B2.range (qa_c (qe_callB (lenK K) (by rfl) B.len (by decide +kernel) (qa_c (qe_ix (ixT K) (qv 1) qe_int (fun _ _ => rfl)) qa_nil)) qa_nil)) rfl (by show compOk ["_law_feed_here", "_law_web_here", "_law_start", "_law_most", "_law_row_here", "_law_here", "_law_k", "_law_some"] (defScope (top 30)) _ _ _ = true; decide +kernel) fun _ _ _ _ _ => ⟨(qg_name (i := 0) (by show List.Nodup [("_law_number" : Str), ("_law_here" : Str), ("_law_web_here" : Str)]; decide +kernel) rfl (Or.inl rfl)), (qk_one (qt_cmpR (inK K) (qv 1) (qe_slice (slT K) (qe_ix (ixT K) (qe_ix (ixT K) (qv 2) qe_int (fun _ _ => rfl)) (qv 0) (fun _ _ => rfl)) qo_none (qo_some qe_int)) rfl)), (qv 0)⟩)
      (qss_one (qs_if (qt_cmpR (op_neD hr) (qv 7) (qe_lst qa_nil) (nomark _)) (qss_cons (qs_expr (qe_bmK K PySem.F.plainAttrs_list PySem.F.slot_list_append PySem.F.type_list_append mt_append (qv 4) (qa_c (qe_ix (ixL K) (qv 7) (qe_callD D_law_draw (hr.mono (by decide)) (qa_c (qv 0) (qa_c (qe_callB (lenK K) (by rfl) B.len (by decide +kernel) (qa_c (qv 7) qa_nil)) qa_nil))) (fun _ _ => rfl)) qa_nil)))
      (qss_one (qs_set (i := 5) sc.nd rfl (Or.inr rfl) (qe_callD D_law_ahead (hr.mono (by decide)) (qa_c (qv 1) (qa_c (qe_ix (ixL K) (qv 4) (qe_un un_neg qe_int) (fun _ _ => rfl)) (qa_c (qv 5) qa_nil))))))) qss_nil))))
      (qss_one (qs_ret (qe_callTy (tupleK K) (by rfl) B.tuple (by decide +kernel) (qa_c (qv 4) qa_nil))))))), ?_⟩
    refine ⟨Nat.zero_le _, fun l hl => ?_⟩
    have hlf := fe.has hl
    have hlf' : l ∉ [fa] := by simpa using hlf.1
    have x0 : Ext [fa] H (upd H l (.lst [])) := .new hl
    have f0 := fe.ext (Ext.new (S := []) (o := .lst []) hl) (by simp) (by simp)
    refine ⟨_, rfl, _, rfl, _, rfl, _, _, rfl, rfl, fa, sa, n, mo + 1, rfl, f0, by omega, by omega, by omega, fun r H1 r0 r1 f1 x1 => ⟨_, rfl, by omega, by omega, for_range (fun i σ' H' => ∃ row here n' y6 y7, σ' = [some (.ref fa), some (.ref wa), some (.int x), some (.int mo), some (.ref l), some (.int here), y6, y7] ∧ H' l = some (.lst (row.map V.int)) ∧ Walk ts x row here ∧ row.length ≤ i ∧ i ≤ r.toNat ∧ Feed H' fa sa n' ∧ n ≤ n' ∧ n' ≤ n + 1 + i ∧ Ext [fa] H H')
      ⟨[], x, n + 1, none, none, rfl, x1.keep _ _ hlf' upd_same, rfl, Nat.le_refl _, Nat.zero_le _, f1, by omega, by omega, x0.trans x1⟩ ?_ ?_⟩⟩
    · rintro i σ' H2 hi ⟨row, here, n2, y6, y7, rfl, hL, hw, hrl, hir, f2, k0, k1, x2⟩
      have ha2 := x2.tup _ _ ha
      have hb2 := x2.tup _ _ hb
      have rt2 := rt.ext x2
      refine ⟨_, rfl, wa, _, 1, _, rfl, rfl, SqT.of ha2, rfl, wt, txs, rfl, .inr (SqT.of hb2), _, rfl, by omega, by omega, comp_range (fun j ys σ' H3 => (∃ y, σ' = [y, some (.int here), some (.ref wa)]) ∧ Ext [] H2 H3 ∧ ∃ ms : List Int, ys = ms.map V.int ∧ ms.length ≤ j ∧ ∀ k ∈ ms, 0 ≤ k ∧ ∃ t, ts[k.toNat]? = some t ∧ (t.1 = here ∨ t.2.1 = here))
        ⟨⟨none, rfl⟩, .refl _ _, [], rfl, Nat.le_refl _, by simp⟩ ?_ ?_⟩
      · rintro j ys σ' H3 hj ⟨⟨y, rfl⟩, x3, ms, rfl, hml, hms⟩
        have rt3 := rt2.ext (x3.mono (S' := [fa]) (by simp))
        obtain ⟨t, p, ht1, ht2, ht3, ht4, ht5⟩ := tie_at rt3 (i := 0 + (j : Int)) (by omega) (by omega)
        refine ⟨by rw [List.length_map]; omega, _, rfl, _, rfl, wa, _, 1, _, rfl, rfl, SqT.of (x3.tup _ _ ha2), rfl, _, rfl, wt, txs, _, _, rfl, rfl, SqT.of (x3.tup _ _ hb2), ht3, 2, rfl, sl_rep ht4 fun v2 H4 x4 r4 => ?_⟩
        rw [cutL_to _ 2 (by decide)] at r4
        obtain ⟨b, hbv, hbb⟩ := rep_ints (ns := [t.1, t.2.1]) r4
        subst hbv
        refine ⟨b, _, rfl, .inr (SqT.of hbb), rfl, flat_ints _, _, rfl, ?_⟩
        rw [if_neg Bool.false_ne_true, inV_ints]
        refine ite2 (fun hc => ⟨_, rfl, ⟨_, rfl⟩, x3.trans x4, ms ++ [0 + (j : Int)], by simp, by simp; omega, fun k hk => ?_⟩) (fun hc => ⟨⟨_, rfl⟩, x3.trans x4, ms, rfl, by omega, hms⟩)
        rcases List.mem_append.mp hk with z | z
        · exact hms k z
        · have e : k = 0 + (j : Int) := by simpa using z
          subst e
          refine ⟨by omega, t, ht1, ?_⟩
          have hc' : here ∈ [t.1, t.2.1] := of_decide_eq_true hc
          simp only [List.mem_cons, List.not_mem_nil, or_false] at hc'
          rcases hc' with z | z
          · exact .inl z.symm
          · exact .inr z.symm
      · rintro ys σ' H3 ⟨⟨y, rfl⟩, x3, ms, rfl, hml, hms⟩
        refine ⟨by rw [List.length_map]; omega, fun D hD => ?_⟩
        have x4 : Ext [] H2 (upd H3 D (.lst (ms.map V.int))) := x3.trans (.new hD)
        have a4 : (upd H3 D (.lst (ms.map V.int))) D = some (.lst (ms.map V.int)) := upd_same
        have f4 := f2.ext x4 (by simp) (by simp)
        have hDf : D ∉ [fa] := by simpa using ((f2.ext x3 (by simp) (by simp)).has hD).1
        generalize upd H3 D (.lst (ms.map V.int)) = H4 at x4 a4 f4 ⊢
        refine ⟨_, rfl, Nat.zero_le _, fun pp hpp => ?_⟩
        have x5 : Ext [] H2 (upd H4 pp (.lst [])) := x4.trans (.new hpp)
        have a5 : (upd H4 pp (.lst [])) D = some (.lst (ms.map V.int)) := (Ext.new (S := []) hpp).keep _ _ (by simp) a4
        have b5 : (upd H4 pp (.lst [])) pp = some (.lst []) := upd_same
        have f5 := f2.ext x5 (by simp) (by simp)
        generalize upd H4 pp (.lst []) = H5 at x5 a5 b5 f5 ⊢
        have hL5 := x5.keep _ _ (by simp) hL
        have x25 := x2.trans (x5.mono (S' := [fa]) (by simp))
        refine ⟨[], .list (ms.map .int), .list [], .lst a5 (by simp) (.ints _), .lst b5 (by simp) .nil, canLay_ints _, rfl, by simp [PyData.depth, depth_ints], _, rfl, ite2 (fun hne => ?_) (fun hne => ⟨row, here, n2, _, _, rfl, hL5, hw, by omega, by omega, f5, k0, by omega, x25⟩)⟩
        have hmp : 0 < ms.length := by
          cases ms with
          | nil => simp [PyData.eqv, PyData.eqvAll] at hne
          | cons _ _ => simp
        refine ⟨_, rfl, .inl ⟨rfl, _, SqL.of hL5⟩, _, rfl, _, rfl, _, rfl, D, _, rfl, .inl (SqL.of a5), fa, sa, n2, _, rfl, f5, by rw [List.length_map]; omega, by rw [List.length_map]; omega, by omega, fun r6 H6 c0 c1 f6 x6 => ?_⟩
        have a6 := x6.keep _ _ hDf a5
        have hL6 := x6.keep _ _ hlf' hL5
        obtain ⟨v6, e6, g6⟩ := atI_ex (xs := ms.map V.int) c0 c1
        rw [List.getElem?_map] at g6
        cases hk : ms[r6.toNat]? with
        | none => rw [hk] at g6; cases g6
        | some k =>
          rw [hk] at g6
          cases g6
          obtain ⟨hk0, t, ht, hinc⟩ := hms k (List.mem_of_getElem? hk)
          have x26 := x25.trans x6
          refine ⟨D, _, r6, _, rfl, rfl, SqL.of a6, e6, l, _, _, rfl, rfl, hL6, by rw [List.length_map]; omega, ?_⟩
          have x7 : Ext [fa] H (upd H6 l (.lst (row.map V.int ++ [.int k]))) := x26.set' hl hL6
          have hL7 : (upd H6 l (.lst (row.map V.int ++ [.int k]))) l = some (.lst (row.map V.int ++ [.int k])) := upd_same
          have f7 : Feed (upd H6 l (.lst (row.map V.int ++ [.int k]))) fa sa (n2 + 1) := f6.ext (.set (S := [l]) (by simp) hL6) (by simpa using hlf.1.symm) (by simpa using hlf.2.symm)
          generalize upd H6 l (.lst (row.map V.int ++ [.int k])) = H7 at x7 hL7 f7 ⊢
          refine ⟨_, rfl, _, rfl, 1, rfl, l, _, -1, _, rfl, rfl, SqL.of hL7, atI_last _ _, _, rfl, ?_⟩
          refine ⟨[fa], many, ts, _, k, here, t, rfl, rw0.ext x7, hk0, ht, row ++ [k], t.1 + t.2.1 - here, n2 + 1, _, _, rfl, by rw [List.map_append]; exact hL7, ?_, by simp; omega, by omega, f7, by omega, by omega, x7⟩
          refine hw.append ⟨t, hk0, ht, hinc, ?_⟩
          show otherEnd t here = t.1 + t.2.1 - here
          unfold otherEnd
          split <;> omega
    · rintro σ' H2 ⟨row, here, n2, y6, y7, rfl, hL, hw, hrl, hir, f2, k0, k1, x2⟩
      refine ⟨_, rfl, l, _, rfl, .inl ⟨SqL.of hL, fun t ht => ?_⟩⟩
      exact q row here _ n2 _ (.tup upd_same (.ints _)) hw (by omega) k0 (by omega) (f2.ext (Ext.new (S := []) ht) (by simp) (by simp)) (x2.trans (.new ht))
end
end Odj

set_option Elab.async false
set_option linter.all false
set_option maxRecDepth 100000
set_option maxHeartbeats 8000000
namespace Odj
open PySem L2
structure Bt8 (mg : Str → Option Value) : Prop where
  set : mg "set" = none
  sorted : mg "sorted" = none
  enumerate : mg "enumerate" = none
def Rise (l : List Int) : Prop := l.Pairwise (· < ·)
theorem Rise.nd {l : List Int} (h : Rise l) : l.Nodup := nodup_lt h
theorem WebFn.small {many : Int} {ts : List Tie} (w : WebFn many ts) : ∀ t ∈ ts, t.1.natAbs ≤ 100 ∧ t.2.1.natAbs ≤ 100 ∧ t.2.2.natAbs ≤ 100 := fun t ht => by
  have o := w.ok t ht
  have o1 := o.a0
  have o2 := o.ab
  have o3 := o.bm
  have o4 := o.p0
  have o5 := o.p1
  have m1 := w.m1
  omega
theorem OddSet.sub {row ns : List Int} (h : OddSet row ns) : ∀ k ∈ ns, k ∈ row := fun k hk => List.count_pos_iff.mp (by have := (h.2 k).mp hk; omega)
theorem OddSort.of {row ms : List Int} (hn : (keysOf (oddsOf row)).Nodup) (p : ms.Perm (keysOf (oddsOf row))) (s : ms.Pairwise (· ≤ ·)) : OddSort row (ms.filter (isOdd (oddsOf row))) :=
  ⟨by rw [trues_eq hn]; exact p.filter _, s.filter _⟩
section
variable {P : Program} {w : World} {K : PySem.W.Frag} {mg : Str → Option Value} {base : Heap} {f : Addr} {fd : FuncData}
end
end Odj

set_option Elab.async false
set_option linter.all false
set_option maxRecDepth 100000
set_option maxHeartbeats 8000000
namespace Odj
open PySem L2
/-! things that can be shown, side by side -/
def Sm (d : PyData) : Prop := Gd (10 ^ 50) d ∧ d.depth ≤ 20 ∧ d.weight ≤ 10000
theorem sm_all : ∀ {ds : List PyData}, (∀ d ∈ ds, Sm d) → GdL (10 ^ 50) ds ∧ PyData.depthAll ds ≤ 21 ∧ PyData.weightAll ds ≤ 10001 * ds.length
  | [], _ => ⟨by simp [GdL], by simp [PyData.depthAll], by simp [PyData.weightAll]⟩
  | d :: ds, h => by
    obtain ⟨h1, h2, h3⟩ := sm_all (ds := ds) fun d hd => h d (List.mem_cons_of_mem _ hd)
    obtain ⟨k1, k2, k3⟩ := h d (List.mem_cons_self ..)
    refine ⟨?_, ?_, ?_⟩
    · simp only [GdL]
      exact ⟨k1, h1⟩
    · simp only [PyData.depthAll]
      omega
    · simp only [PyData.weightAll, List.length_cons]
      omega
theorem good_tup {ds : List PyData} (h : ∀ d ∈ ds, Sm d) (hl : ds.length ≤ 12) : Good (.tuple ds) := by
  obtain ⟨h1, h2, h3⟩ := sm_all h
  refine good_of (by simp only [Gd]; exact h1) ?_ ?_
  · simp only [PyData.depth]
    omega
  · simp only [PyData.weight]
    omega
theorem sm_web {many : Int} {ts : List Tie} (w : WebFn many ts) : Sm (webD many (ts.map tieD)) := by
  have wok := web_ok w.m0 w.m1 w.len w.small
  exact ⟨wok.gd, by have := wok.dp; omega, wok.wt⟩
end Odj

set_option Elab.async false
set_option linter.all false
set_option maxRecDepth 100000
set_option maxHeartbeats 8000000
namespace Odj
open PySem L2
/-- rows of any things, walked -/
def tieOf (ts : List Tie) : PyData → Option Tie
  | .int i => if 0 ≤ i then ts[i.toNat]? else none
  | _ => none
theorem tieOf_int (ts : List Tie) (i : Int) : tieOf ts (.int i) = if 0 ≤ i then ts[i.toNat]? else none := rfl
def stepD (ts : List Tie) (x : Int) (d : PyData) : Bool := match tieOf ts d with
  | some t => decide (x ∈ [t.1, t.2.1])
  | none => false
def goD (ts : List Tie) (x : Int) (d : PyData) : Int := match tieOf ts d with
  | some t => otherEnd t x
  | none => x
def walkD (ts : List Tie) : Int → Int → List PyData → Int ⊕ Int
  | x, _, [] => .inr x
  | x, k, d :: ds => if stepD ts x d = true then walkD ts (goD ts x d) (k + 1) ds else .inl k
def resD (ts : List Tie) (x : Int) : PyData → Int ⊕ Int
  | .tuple ds => walkD ts x 0 ds
  | _ => .inl (-1)
def dueD : Int ⊕ Int → PyData
  | .inl k => .tuple [.str "stop", .int k]
  | .inr x => .int x
theorem step_some {ts : List Tie} {x : Int} {d : PyData} {t : Tie} (h : tieOf ts d = some t) : stepD ts x d = decide (x ∈ [t.1, t.2.1]) := by unfold stepD; rw [h]
theorem step_none {ts : List Tie} {x : Int} {d : PyData} (h : tieOf ts d = none) : stepD ts x d = false := by unfold stepD; rw [h]
theorem step_true {ts : List Tie} {x : Int} {d : PyData} (h : stepD ts x d = true) : ∃ i t, d = .int i ∧ 0 ≤ i ∧ ts[i.toNat]? = some t ∧ x ∈ [t.1, t.2.1] ∧ goD ts x d = otherEnd t x := by
  cases e : tieOf ts d with
  | none => rw [step_none e] at h; cases h
  | some t =>
    rw [step_some e] at h
    have hg : goD ts x d = otherEnd t x := by unfold goD; rw [e]
    cases d with
    | int i =>
      rw [tieOf_int] at e
      by_cases h0 : 0 ≤ i
      · rw [if_pos h0] at e
        exact ⟨i, t, rfl, h0, e, of_decide_eq_true h, hg⟩
      · rw [if_neg h0] at e
        cases e
    | _ => cases e
theorem walk_step {ts : List Tie} {x k : Int} {ds : List PyData} {i : Nat} {d : PyData} (hd : ds[i]? = some d) : walkD ts x k (ds.drop i) = if stepD ts x d = true then walkD ts (goD ts x d) (k + 1) (ds.drop (i + 1)) else .inl k := by
  have hi : i < ds.length := (List.getElem?_eq_some_iff.mp hd).1
  have e : ds.drop i = d :: ds.drop (i + 1) := by
    rw [List.drop_eq_getElem_cons hi]
    congr
    exact (List.getElem?_eq_some_iff.mp hd).2
  rw [e]
  rfl
theorem walk_end {ts : List Tie} {x k : Int} {ds : List PyData} {n : Nat} (h : ds.length ≤ n) : walkD ts x k (ds.drop n) = .inr x := by rw [List.drop_of_length_le h]; rfl
def spStepX : Sp := fun vs H Q _ => ∃ (S : List Addr) (many : Int) (ts : List Tie) (v u : V) (x : Int) (d : PyData), vs = [v, .int x, u] ∧ Rep S H (webD many (ts.map tieD)) v ∧ Rep S H d u ∧ ∀ H', Ext [] H H' → Q (.bl (stepD ts x d)) H'
def spPlacesX (C : Addr) : Sp := fun vs H Q E => ∃ (S : List Addr) (many : Int) (ts : List Tie) (v u : V) (x : Int) (d : PyData), vs = [v, .int x, u] ∧ Rep S H (webD many (ts.map tieD)) v ∧ Rep S H d u ∧ lenD d ≤ 100000 ∧
  (∀ y, resD ts x d = .inr y → ∀ (l : Addr) (ps : List V) (H' : Hp), H' l = some (.lst ps) → atI ps (-1) = some (.int y) → Ext [] H H' → Q (.ref l) H') ∧ (∀ k, resD ts x d = .inl k → Raised1 C "number" (.int k) H E)
def spWalkedX (C : Addr) : Sp := fun vs H Q E => ∃ (S : List Addr) (many : Int) (ts : List Tie) (v u : V) (x : Int) (d : PyData), vs = [v, .int x, u] ∧ Rep S H (webD many (ts.map tieD)) v ∧ Rep S H d u ∧ lenD d ≤ 100000 ∧
  (∀ y, resD ts x d = .inr y → ∀ (H' : Hp), Ext [] H H' → Q (.int y) H') ∧ (∀ k, resD ts x d = .inl k → Raised1 C "number" (.int k) H E)
section
variable {P : Program} {w : World} {K : PySem.W.Frag} {mg : Str → Option Value} {base : Heap} {f : Addr} {fd : FuncData}
theorem d_is_stepX (F : Fun K "is_step" "is_step" (top 18) f fd) (hm : mg "is_step" = some (.ref f)) (D_is_tie_number : DefOk P w K mg base 5 "is_tie_number" ["web", "thing"] spTieNo) : DefOk P w K mg base 6 "is_step" ["web", "place", "thing"] spStepX := by
  refine ⟨f, fd, ?_, hm, F.kp, F.binds fun _ _ _ _ _ _ us hl => match us, hl with | [_, _, _], _ => rfl⟩
  have sc : FnScope ["web", "place", "thing"] ["web", "place", "thing"] (defScope (top 18)) := ⟨rfl, rfl, rfl, by decide +kernel, rfl, by decide +kernel, by decide +kernel⟩
  refine F.okQ sc (fun vs H Q E h => ?_) (fun cdv A outer s H vs Q E hr h => ?_)
  · obtain ⟨S, many, ts, v, u, x, d, rfl, _⟩ := h
    rfl
  · obtain ⟨S, many, ts, v, u, x, d, rfl, rw0, ru, q⟩ := h
    obtain ⟨wa, wt, txs, rfl, ha, hb, rt⟩ := web_of rw0
    have hxl := rt.length
    rw [List.length_map] at hxl
    refine ⟨_, (qss_one (qs_ret (qe_and (qe_callD D_is_tie_number (hr.mono (by decide)) (qa_c (qv 0) (qa_c (qv 2) qa_nil))) (qe_one (qe_cmpR (inK K) (qv 1) (qe_slice (slT K) (qe_ix (ixT K) (qe_ix (ixT K) (qv 0) qe_int (fun _ _ => rfl)) (qv 2) (fun _ _ => rfl)) qo_none (qo_some qe_int)) rfl))))), ?_⟩
    refine ⟨_, rfl, _, rfl, S, d, _, many, ts.map tieD, _, rfl, rw0, ru, fun H1 x1 => ⟨_, rfl, ?_⟩⟩
    cases d with
    | int i =>
      have eu := ru.of_int
      subst eu
      by_cases z : 0 ≤ i ∧ i < ((ts.map tieD).length : Int)
      · rw [if_pos (tieNo_in z.1 z.2)]
        rw [List.length_map] at z
        obtain ⟨t, p, ht, _, e3, e4, e5⟩ := tie_at rt (i := i) (by omega) (by omega)
        refine ⟨_, rfl, _, rfl, wa, _, 1, _, rfl, rfl, SqT.of (x1.tup _ _ ha), rfl, _, rfl, wt, txs, i, _, rfl, rfl, SqT.of (x1.tup _ _ hb), e3, 2, rfl, sl_rep (e4.ext (x1.mono (by simp))) fun v2 H2 x2 r2 => ?_⟩
        rw [cutL_to _ 2 (by decide)] at r2
        obtain ⟨b, hbv, hbb⟩ := rep_ints (ns := [t.1, t.2.1]) r2
        subst hbv
        refine ⟨b, _, rfl, .inr (SqT.of hbb), rfl, flat_ints _, ?_⟩
        rw [if_neg Bool.false_ne_true, inV_ints]
        rw [step_some (t := t) (by rw [tieOf_int, if_pos (by omega)]; exact ht)] at q
        exact q H2 (x1.trans x2)
      · rw [tieNo_out z, if_neg Bool.false_ne_true]
        rw [List.length_map] at z
        have e : stepD ts x (.int i) = false := by
          by_cases h : 0 ≤ i
          · exact step_none (by rw [tieOf_int, if_pos h]; exact List.getElem?_eq_none (by omega))
          · exact step_none (by rw [tieOf_int, if_neg h])
        rw [e] at q
        exact q H1 x1
    | _ => exact iteF (q H1 x1)
theorem d_places_walkedX {C : Addr} (F : Fun K "places_walked" "places_walked" (top 19) f fd) (hm : mg "places_walked" = some (.ref f)) (B : Bt mg) (B7 : Bt7 mg) (R_NoWalk : RaiseOk P w K mg base "NoWalk" C (spX1 C "number")) (D_is_step : DefOk P w K mg base 6 "is_step" ["web", "place", "thing"] spStepX) (D_other_end : DefOk P w K mg base 1 "other_end" ["tie", "place"] spOther) :
    DefX P w K mg base 7 "places_walked" ["web", "start", "row"] (spPlacesX C) := by
  refine ⟨f, fd, ?_, hm, F.kp, F.binds fun _ _ _ _ _ _ us hl => match us, hl with | [_, _, _], _ => rfl⟩
  have sc : FnScope ["web", "start", "row", "places", "index", "thing"] ["web", "start", "row"] (defScope (top 19)) := ⟨rfl, rfl, rfl, by decide +kernel, rfl, by decide +kernel, by decide +kernel⟩
  refine F.okX sc (fun vs H Q E h => ?_) (fun cdv A outer s H vs Q E hr h => ?_)
  · obtain ⟨S, many, ts, v, u, x, d, rfl, _⟩ := h
    rfl
  · obtain ⟨S, many, ts, v, u, x, d, rfl, rw0, ru, hrl, q, qx⟩ := h
    have hsz : sizeLine = 16777216 := by decide
    have hlv : Leaves (cxOf (CX1 P w) P w K mg base ["web", "start", "row", "places", "index", "thing"] "places_walked" (defScope (top 19)) f cdv A outer s H E) E := leaves_cx
    obtain ⟨wa, wt, txs, rfl, ha, hb, rt⟩ := web_of rw0
    refine ⟨_, (qss_cons (qs_if (qt_not (qt_val (qe_callB (isiK K) (by rfl) B.isinstance (by decide +kernel) (qa_c (qv 2) (qa_c (qe_ty "tuple" (by rfl) B.tuple (by decide +kernel)) qa_nil))))) (qss_one (qs_raiseD E R_NoWalk (hr.mono (by decide)) hlv rfl (qa_c (qe_un un_neg qe_int) qa_nil))) qss_nil)
      (qss_cons (qs_set (i := 3) sc.nd rfl (Or.inl rfl) (qe_lst (qa_c (qv 1) qa_nil)))
      (qss_cons (qs_for PassesOwn.leaving rfl (qi_enumT K (by rfl) B7.enumerate (qa_c (qv 2) qa_nil)) (qg_tupK (n := 2) K rfl (qgs_cons (qg_name (i := 4) sc.nd rfl (Or.inl rfl)) (qgs_cons (qg_name (i := 5) sc.nd rfl (Or.inl rfl)) qgs_nil))) (qss_cons (qs_if (qt_not (qt_val (qe_callD D_is_step (hr.mono (by decide)) (qa_c (qv 0) (qa_c (qe_ix (ixL K) (qv 3) (qe_un un_neg qe_int) (fun _ _ => rfl)) (qa_c (qv 5) qa_nil)))))) (qss_one (qs_raiseD E R_NoWalk (hr.mono (by decide)) hlv rfl (qa_c (qv 4) qa_nil))) qss_nil)
      (qss_one (qs_expr (qe_bmK K PySem.F.plainAttrs_list PySem.F.slot_list_append PySem.F.type_list_append mt_append (qv 3) (qa_c (qe_callD D_other_end (hr.mono (by decide)) (qa_c (qe_ix (ixT K) (qe_ix (ixT K) (qv 0) qe_int (fun _ _ => rfl)) (qv 5) (fun _ _ => rfl)) (qa_c (qe_ix (ixL K) (qv 3) (qe_un un_neg qe_int) (fun _ _ => rfl)) qa_nil))) qa_nil))))))
      (qss_one (qs_ret (qv 3)))))), ?_⟩
    cases d with
    | tuple ds =>
      obtain ⟨ra, xs, rfl, hra, rx⟩ := ru.of_tup
      have hxs := rx.length
      have hrl : ds.length ≤ 100000 := hrl
      refine ⟨_, rfl, _, _, _, _, rfl, ru.ty, kit3 _, _, rfl, iteF ⟨_, rfl, by show 1 ≤ sizeLine; decide, fun l hl => ?_⟩⟩
      have x0 : Ext [] H (upd H l (.lst [.int x])) := .new hl
      refine ⟨_, rfl, ra, _, rfl, SqT.of (x0.tup _ _ hra), for_enumT (K := K) (a := ra) (xs := xs) (fun i σ' H' => (∃ y1 y2, σ' = [some (.ref wa), some (.int x), some (.ref ra), some (.ref l), y1, y2]) ∧ (∃ ps z, H' l = some (.lst (ps ++ [.int z])) ∧ ps.length = i ∧ resD ts x (.tuple ds) = walkD ts z (i : Nat) (ds.drop i)) ∧ Ext [] H H')
        ⟨⟨none, none, rfl⟩, ⟨[], x, upd_same, rfl, rfl⟩, x0⟩ (fun i σ' H' _ h => SqT.of (h.2.2.tup _ _ hra)) ?_ ?_⟩
      · rintro i x' σ' H' hx ⟨⟨y1, y2, rfl⟩, ⟨ps, z, hL, hpl, hwz⟩, x1⟩ T hT
        obtain ⟨d, hd, rd⟩ := rx.get hx
        rw [walk_step hd] at hwz
        have hi : i < ds.length := (List.getElem?_eq_some_iff.mp hd).1
        have x2 : Ext [] H (upd H' T (.tup [.int (i : Nat), x'])) := x1.trans (.new hT)
        have hL2 : (upd H' T (.tup [.int (i : Nat), x'])) l = some (.lst (ps ++ [.int z])) := (Ext.new (S := []) hT).keep _ _ (by simp) hL
        have hT2 : (upd H' T (.tup [.int (i : Nat), x'])) T = some (.tup [.int (i : Nat), x']) := upd_same
        generalize upd H' T (.tup [.int (i : Nat), x']) = H2 at x2 hL2 hT2 ⊢
        refine ⟨T, _, rfl, SqT.of hT2, rfl, _, _, rfl, _, _, rfl, rfl, ?_⟩
        have r2 := rw0.ext (x2.mono (S' := S) (by simp))
        have rd2 := rd.ext (x2.mono (S' := S) (by simp))
        refine ⟨_, rfl, _, rfl, 1, rfl, l, _, -1, _, rfl, rfl, SqL.of hL2, atI_last _ _, _, rfl, S, many, ts, _, _, z, d, rfl, r2, rd2, fun H3 x3 => ⟨_, rfl, ?_⟩⟩
        have hL3 := x3.keep _ _ (by simp) hL2
        have x23 := x2.trans x3
        cases hst : stepD ts z d with
        | false =>
          rw [hst, if_neg Bool.false_ne_true] at hwz
          exact iteT ⟨_, rfl, (by decide : 1 ≤ 100), fun e he => raise1 (qx _ hwz) x23 he⟩
        | true =>
          rw [hst, if_pos rfl] at hwz
          obtain ⟨n, t, rfl, h0, ht, hm2, hgo⟩ := step_true hst
          rw [hgo] at hwz
          have en := rd.of_int
          subst en
          obtain ⟨p, e3, e4, e5⟩ := tie_there (rt.ext (x23.mono (S' := S) (by simp))) h0 ht
          exact iteF ⟨_, rfl, .inl ⟨rfl, _, SqL.of hL3⟩, _, rfl, wa, _, 1, _, rfl, rfl, SqT.of (x23.tup _ _ ha), rfl, _, rfl, wt, txs, n, _, rfl, rfl, SqT.of (x23.tup _ _ hb), e3, _, rfl, 1, rfl, l, _, -1, _, rfl, rfl, SqL.of hL3, atI_last _ _, S, t, _, z, rfl, e4, l, _, _, rfl, rfl, hL3, (by rw [List.length_append]; show ps.length + 1 < sizeLine; omega), ⟨_, _, rfl⟩, ⟨ps ++ [.int z], otherEnd t z, upd_same, by simp [hpl], hwz⟩, x23.put hl⟩
      · rintro σ' H' ⟨⟨y1, y2, rfl⟩, ⟨ps, z, hL, hpl, hwz⟩, x1⟩
        rw [walk_end (by omega)] at hwz
        exact ⟨_, rfl, q z hwz l _ H' hL (atI_last _ _) x1⟩
    | _ => exact ⟨_, rfl, _, _, _, _, rfl, ru.ty, kit3 _, _, rfl, iteT ⟨1, rfl, (by decide : 1 ≤ 100), fun e he => raise1 (qx _ rfl) (.refl _ _) he⟩⟩
theorem d_walkedX {C : Addr} (F : Fun K "walked" "walked" (top 20) f fd) (hm : mg "walked" = some (.ref f)) (D_places_walked : DefX P w K mg base 7 "places_walked" ["web", "start", "row"] (spPlacesX C)) : DefX P w K mg base 8 "walked" ["web", "start", "row"] (spWalkedX C) := by
  refine ⟨f, fd, ?_, hm, F.kp, F.binds fun _ _ _ _ _ _ us hl => match us, hl with | [_, _, _], _ => rfl⟩
  have sc : FnScope ["web", "start", "row"] ["web", "start", "row"] (defScope (top 20)) := ⟨rfl, rfl, rfl, by decide +kernel, rfl, by decide +kernel, by decide +kernel⟩
  refine F.okX sc (fun vs H Q E h => ?_) (fun cdv A outer s H vs Q E hr h => ?_)
  · obtain ⟨S, many, ts, v, u, x, d, rfl, _⟩ := h
    rfl
  · obtain ⟨S, many, ts, v, u, x, d, rfl, rw0, ru, hrl, q, qx⟩ := h
    have hlv : Leaves (cxOf (CX1 P w) P w K mg base ["web", "start", "row"] "walked" (defScope (top 20)) f cdv A outer s H E) E := leaves_cx
    refine ⟨_, (qss_one (qs_ret (qe_ix (ixL K) (qe_callX E D_places_walked (hr.mono (by decide)) hlv (qa_c (qv 0) (qa_c (qv 1) (qa_c (qv 2) qa_nil)))) (qe_un un_neg qe_int) (fun _ _ => rfl)))), ?_⟩
    exact ⟨_, rfl, _, rfl, _, rfl, S, many, ts, _, _, x, d, rfl, rw0, ru, hrl, fun y hy l ps H' hL hp x1 => ⟨1, rfl, l, ps, -1, _, rfl, rfl, SqL.of hL, hp, q y hy H' x1⟩, qx⟩
end
end Odj

set_option Elab.async false
set_option linter.all false
set_option maxRecDepth 100000
set_option maxHeartbeats 8000000
namespace Odj
open PySem L2
structure BtV (mg : Str → Option Value) : Prop where
  ValueError : mg "ValueError" = none
  isinstance : mg "isinstance" = none
section
variable {P : Program} {w : World} {K : PySem.W.Frag} {mg : Str → Option Value} {base : Heap} {f : Addr} {fd : FuncData}
theorem x_NoWalk {C J : Addr} (F : Fun K "__init__" "NoWalk.__init__" (clsFn (top 3) 0) f fd) (r : RF K C J f) (j : JOk K J) (m : mg "NoWalk" = some (.ref C)) (na : PySem.W.findIn K (.ref C) "number" = some none) : RaiseOk P w K mg base "NoWalk" C (spX1 C "number") := by
  have sc : FnScope ["self", "number"] ["self", "number"] (defScope (clsFn (top 3) 0)) := ⟨rfl, rfl, rfl, by decide +kernel, rfl, by decide +kernel, by decide +kernel⟩
  refine raise_mk r j m (ps := ["self", "number"]) (F.okQ (k := 0) sc (fun vs H Q E h => ?_) (fun cdv A outer s H vs Q E hr h => ?_)) (F.binds fun _ _ _ _ _ _ us hl => match us, hl with | [_, _], _ => rfl)
  · obtain ⟨x, a, rfl, _⟩ := h
    rfl
  · obtain ⟨x, a, rfl, hx, q⟩ := h
    exact ⟨_, (qss_one (qs_fldX K C (qv 0) (qv 1))), _, rfl, _, rfl, x, rfl, (r.mk' j).ec, na, .inl ⟨hx, q⟩⟩
def spDueX : Sp := fun vs H Q _ => ∃ (S : List Addr) (many : Int) (ts : List Tie) (v u : V) (x : Int) (d : PyData), vs = [v, .int x, u] ∧ Rep S H (webD many (ts.map tieD)) v ∧ Rep S H d u ∧ lenD d ≤ 100000 ∧
  ∀ (v' : V) (H' : Hp), (∀ S', Rep S' H' (dueD (resD ts x d)) v') → Ext [] H H' → Q v' H'
theorem d_law_told {C J c1 c2 c3 c4 c5 c6 : Addr} (F : Fun K "_law_told" "_law_told" (top 32) f fd) (hm : mg "_law_told" = some (.ref f)) (B : BtV mg) (X : ExcI K C J) (na : PySem.W.findIn K (.ref C) "number" = some none) (O_JoinError : OwnC K mg "JoinError" J) (O_NoWalk : OwnC K mg "NoWalk" C)
    (O_NoLine : OwnC K mg "NoLine" c1) (O_NoPaper : OwnC K mg "NoPaper" c2) (O_NoText : OwnC K mg "NoText" c3) (O_NoTie : OwnC K mg "NoTie" c4) (O_NoTurns : OwnC K mg "NoTurns" c5) (O_TooMany : OwnC K mg "TooMany" c6)
    (n1 : PySem.W.mroIn K C (.ref c1) = some false) (n2 : PySem.W.mroIn K C (.ref c2) = some false) (n3 : PySem.W.mroIn K C (.ref c3) = some false) (n4 : PySem.W.mroIn K C (.ref c4) = some false) (n5 : PySem.W.mroIn K C (.ref c5) = some false) (n6 : PySem.W.mroIn K C (.ref c6) = some false)
    (D_walked : DefX P w K mg base 8 "walked" ["web", "start", "row"] (spWalkedX C)) : DefOk P w K mg base 9 "_law_told" ["_law_web_here", "_law_start", "_law_row_here"] spDueX := by
  refine ⟨f, fd, ?_, hm, F.kp, F.binds fun _ _ _ _ _ _ us hl => match us, hl with | [_, _, _], _ => rfl⟩
  have sc : FnScope ["_law_web_here", "_law_start", "_law_row_here", "_law_told_here", "e", "_law_others"] ["_law_web_here", "_law_start", "_law_row_here"] (defScope (top 32)) := ⟨rfl, rfl, rfl, by decide +kernel, rfl, by decide +kernel, by decide +kernel⟩
  refine F.okQ sc (fun vs H Q E h => ?_) (fun cdv A outer s H vs Q E hr h => ?_)
  · obtain ⟨S, many, ts, v, u, x, d, rfl, _⟩ := h
    rfl
  · obtain ⟨S, many, ts, v, u, x, d, rfl, rw0, ru, hrl, q⟩ := h
    refine ⟨_, (qss_cons (qs_set (i := 3) sc.nd rfl (Or.inl rfl) qe_str)
      (qss_cons (qs_trySet (i := 3) (j := 4) K O_JoinError.nm sc.nd rfl (Or.inl rfl) rfl rfl (qx_call D_walked (hr.mono (by decide)) fun _ => (qa_c (qv 0) (qa_c (qv 1) (qa_c (qv 2) qa_nil)))) fun _ => (qss_cons (qs_set (i := 5) sc.nd rfl (Or.inl rfl) (qe_callB (call_isiX K) (by rfl) B.isinstance (by decide +kernel) (qa_c (qv 4) (qa_c (qe_tup (qa_c (qe_glob (v := .ref c1) (by rfl) O_NoLine.nm rfl) (qa_c (qe_glob (v := .ref c2) (by rfl) O_NoPaper.nm rfl) (qa_c (qe_glob (v := .ref c3) (by rfl) O_NoText.nm rfl) (qa_c (qe_glob (v := .ref c4) (by rfl) O_NoTie.nm rfl) (qa_c (qe_glob (v := .ref c5) (by rfl) O_NoTurns.nm rfl) (qa_c (qe_glob (v := .ref c6) (by rfl) O_TooMany.nm rfl) qa_nil))))))) qa_nil))))
      (qss_one (qs_if (QW.pt (qw_and (qt_val (qe_callB (call_isiX K) (by rfl) B.isinstance (by decide +kernel) (qa_c (qv 4) (qa_c (qe_glob (v := .ref C) (by rfl) O_NoWalk.nm rfl) qa_nil)))) (qw_and (qt_val (qe_callB (call_isiX K) (by rfl) B.isinstance (by decide +kernel) (qa_c (qv 4) (qa_c (qe_ty "ValueError" (by rfl) B.ValueError (by decide +kernel)) qa_nil)))) (qw_and1 (qt_not (qt_val (qv 5))))))) (qss_one (qs_set (i := 3) sc.nd rfl (Or.inl rfl) (qe_tup (qa_c qe_str (qa_c (qe_fldX K (qv 4)) qa_nil))))) qss_nil))))
      (qss_one (qs_ret (qv 3))))), ?_⟩
    refine ⟨_, rfl, _, rfl, _, rfl, S, many, ts, _, _, x, d, rfl, rw0, ru, hrl, fun y hy H' x1 => ?_, fun k hk d1 H' hd1 x1 => ?_⟩
    · rw [hy] at q
      exact ⟨_, rfl, q _ _ (fun S' => .int _) x1⟩
    · rw [hk] at q
      refine ⟨X.exm O_JoinError, fun e he => ?_⟩
      have hno : PySem.W.kitAny K (.ref C) ([c1, c2, c3, c4, c5, c6].map Value.ref) = some false := kitAny_no fun z hz => by
        simp only [List.mem_cons, List.not_mem_nil, or_false] at hz
        rcases hz with rfl | rfl | rfl | rfl | rfl | rfl
        · exact X.one O_NoLine n1
        · exact X.one O_NoPaper n2
        · exact X.one O_NoText n3
        · exact X.one O_NoTie n4
        · exact X.one O_NoTurns n5
        · exact X.one O_TooMany n6
      refine ⟨_, rfl, by show 6 ≤ sizeLine; decide, fun t ht => ?_⟩
      have x2 : Ext [] H' (upd H' t (.tup [.ref c1, .ref c2, .ref c3, .ref c4, .ref c5, .ref c6])) := .new ht
      have h2 : (upd H' t (.tup [.ref c1, .ref c2, .ref c3, .ref c4, .ref c5, .ref c6])) t = some (.tup ([c1, c2, c3, c4, c5, c6].map V.ref)) := upd_same
      have he2 := x2.keep _ _ (by simp) he
      have hd2 := x2.keep _ _ (by simp) hd1
      generalize upd H' t (.tup [.ref c1, .ref c2, .ref c3, .ref c4, .ref c5, .ref c6]) = H2 at x2 h2 he2 hd2 ⊢
      refine ⟨e, C, d1, _, _, false, rfl, he2, hd2, X.ci, .tup h2 hno, ?_⟩
      refine ⟨_, rfl, e, C, d1, _, _, true, rfl, he2, hd2, X.ci, .own (X.one O_NoWalk X.own), _, rfl, iteT ⟨_, rfl, e, C, d1, _, _, true, rfl, he2, hd2, X.ci, .ty X.isVal, _, rfl, iteT ⟨_, rfl, _, rfl, iteT ?_⟩⟩⟩
      refine ⟨_, rfl, e, C, d1, _, _, rfl, he2, hd2, X.ci.cx, na, rfl, by show 2 ≤ sizeLine; decide, fun p hp => ?_⟩
      have x3 := x2.trans (Ext.new (S := []) (o := .tup [.str "stop", .int k]) hp)
      exact ⟨_, rfl, q _ _ (fun S' => .tup upd_same (.cons (.str _) (.cons (.int _) .nil))) (x1.trans x3)⟩
theorem whole_none {ts : List Tie} {d : PyData} (h : wholeD 0 ((ts.length : Nat) - 1) d = false) : tieOf ts d = none := by
  cases d with
  | int i =>
    rw [tieOf_int]
    by_cases h0 : 0 ≤ i
    · rw [if_pos h0]
      refine List.getElem?_eq_none ?_
      have : ¬ (i ≤ (ts.length : Int) - 1) := fun z => by
        have e : wholeD 0 ((ts.length : Nat) - 1) (.int i) = true := by
          show (decide (0 ≤ i) && decide (i ≤ (ts.length : Int) - 1)) = true
          rw [decide_eq_true h0, decide_eq_true z]; rfl
        rw [e] at h; cases h
      omega
    · rw [if_neg h0]
  | _ => rfl
theorem whole_is {lo hi : Int} {d : PyData} (h : wholeD lo hi d = true) : ∃ n, d = .int n ∧ lo ≤ n ∧ n ≤ hi := by
  cases d with
  | int i =>
    have h : (decide (lo ≤ i) && decide (i ≤ hi)) = true := h
    simp only [Bool.and_eq_true, decide_eq_true_eq] at h
    exact ⟨i, rfl, h.1, h.2⟩
  | _ => cases h
theorem ahead_go {x : Int} {t : Tie} (h : x ∈ [t.1, t.2.1]) : t.1 + t.2.1 - x = otherEnd t x := by
  unfold otherEnd
  simp only [List.mem_cons, List.not_mem_nil, or_false] at h
  split <;> omega
theorem d_law_due (F : Fun K "_law_due" "_law_due" (top 31) f fd) (hm : mg "_law_due" = some (.ref f)) (B : Bt mg) (B2 : Bt2 mg) (D_law_whole : DefOk P w K mg base 1 "_law_whole" ["_law_thing", "_law_least", "_law_most"] spWhole) (D_law_ahead : DefOk P w K mg base 1 "_law_ahead" ["_law_web_here", "_law_number", "_law_here"] spAhead) :
    DefOk P w K mg base 2 "_law_due" ["_law_web_here", "_law_start", "_law_row_here"] spDueX := by
  refine ⟨f, fd, ?_, hm, F.kp, F.binds fun _ _ _ _ _ _ us hl => match us, hl with | [_, _, _], _ => rfl⟩
  have sc : FnScope ["_law_web_here", "_law_start", "_law_row_here", "_law_here", "_law_k"] ["_law_web_here", "_law_start", "_law_row_here"] (defScope (top 31)) := ⟨rfl, rfl, rfl, by decide +kernel, rfl, by decide +kernel, by decide +kernel⟩
  refine F.okQ sc (fun vs H Q E h => ?_) (fun cdv A outer s H vs Q E hr h => ?_)
  · obtain ⟨S, many, ts, v, u, x, d, rfl, _⟩ := h
    rfl
  · obtain ⟨S, many, ts, v, u, x, d, rfl, rw0, ru, hrl, q⟩ := h
    have hsz : sizeLine = 16777216 := by decide
    obtain ⟨wa, wt, txs, rfl, ha, hb, rt⟩ := web_of rw0
    have hxl := rt.length
    rw [List.length_map] at hxl
    refine ⟨_, (qss_cons (qs_if (qt_not (qt_val (qe_callB (isiK K) (by rfl) B.isinstance (by decide +kernel) (qa_c (qv 2) (qa_c (qe_ty "tuple" (by rfl) B.tuple (by decide +kernel)) qa_nil))))) (qss_one (qs_ret (qe_tup (qa_c qe_str (qa_c (qe_un un_neg qe_int) qa_nil))))) qss_nil)
      (qss_cons (qs_set (i := 3) sc.nd rfl (Or.inl rfl) (qv 1))
      (qss_cons (qs_for PassesOwn.never rfl (qi_range1 (by rfl) B2.range (qa_c (qe_callB (lenK K) (by rfl) B.len (by decide +kernel) (qa_c (qv 2) qa_nil)) qa_nil)) (qg_name (i := 4) sc.nd rfl (Or.inl rfl)) (qss_cons (qs_if (QW.pt (qw_or (qt_not (qt_val (qe_callD D_law_whole (hr.mono (by decide)) (qa_c (qe_ix (ixT K) (qv 2) (qv 4) (fun _ _ => rfl)) (qa_c qe_int (qa_c (qe_op op_sub (qe_callB (lenK K) (by rfl) B.len (by decide +kernel) (qa_c (qe_ix (ixT K) (qv 0) qe_int (fun _ _ => rfl)) qa_nil)) qe_int) qa_nil)))))) (qw_or1 (qt_cmpR (ninK K) (qv 3) (qe_slice (slT K) (qe_ix (ixT K) (qe_ix (ixT K) (qv 0) qe_int (fun _ _ => rfl)) (qe_ix (ixT K) (qv 2) (qv 4) (fun _ _ => rfl)) (fun _ _ => rfl)) qo_none (qo_some qe_int)) rfl)))) (qss_one (qs_ret (qe_tup (qa_c qe_str (qa_c (qv 4) qa_nil))))) qss_nil)
      (qss_one (qs_set (i := 3) sc.nd rfl (Or.inl rfl) (qe_callD D_law_ahead (hr.mono (by decide)) (qa_c (qv 0) (qa_c (qe_ix (ixT K) (qv 2) (qv 4) (fun _ _ => rfl)) (qa_c (qv 3) qa_nil))))))))
      (qss_one (qs_ret (qv 3)))))), ?_⟩
    cases d with
    | tuple ds =>
      obtain ⟨ra, xs, rfl, hra, rx⟩ := ru.of_tup
      have hxs := rx.length
      have hrl : ds.length ≤ 100000 := hrl
      refine ⟨_, rfl, _, _, _, _, rfl, ru.ty, kit3 _, _, rfl, iteF ⟨_, rfl, ?_⟩⟩
      refine ⟨_, rfl, ra, xs, rfl, .inr (SqT.of hra), _, rfl, by omega, by omega, for_range (n := xs.length) (D := { nx := _, rt := Q }) (fun i σ' H' => (∃ z y, σ' = [some (.ref wa), some (.int x), some (.ref ra), some (.int z), y] ∧ resD ts x (.tuple ds) = walkD ts z (i : Nat) (ds.drop i)) ∧ Ext [] H H')
        ⟨⟨x, none, rfl, rfl⟩, .refl _ _⟩ ?_ ?_⟩
      · rintro i σ' H' hi ⟨⟨z, y, rfl, hwz⟩, x1⟩
        have hx : xs[i]? = some xs[i] := by simp [hi]
        obtain ⟨d, hd, rd⟩ := rx.get hx
        rw [walk_step hd] at hwz
        have hat : atI xs (0 + (i : Int)) = some xs[i] := by
          obtain ⟨v, e1, e2⟩ := atI_ex (xs := xs) (i := 0 + (i : Int)) (by omega) (by omega)
          rw [show (0 + (i : Int)).toNat = i by omega, hx] at e2
          rw [e1, ← e2]
        have rd1 := rd.ext (x1.mono (S' := S) (by simp))
        refine ⟨_, rfl, _, rfl, ra, xs, _, _, rfl, rfl, SqT.of (x1.tup _ _ hra), hat, _, rfl, wa, _, 1, _, rfl, rfl, SqT.of (x1.tup _ _ ha), rfl, wt, txs, rfl, .inr (SqT.of (x1.tup _ _ hb)), _, _, rfl, rfl, S, d, _, 0, _, rfl, rd1, _, rfl, ?_⟩
        cases hwh : wholeD 0 ((txs.length : Nat) - 1) d with
        | false =>
          rw [step_none (whole_none (by rw [← hxl]; exact hwh)), if_neg Bool.false_ne_true] at hwz
          rw [hwz] at q
          refine iteT ⟨_, rfl, by show 2 ≤ sizeLine; decide, fun p hp => ?_⟩
          rw [show (0 + (i : Int)) = i by omega]
          exact q _ _ (fun S' => .tup upd_same (.cons (.str _) (.cons (.int _) .nil))) (x1.trans (.new hp))
        | true =>
          obtain ⟨n, rfl, n0, n1⟩ := whole_is hwh
          have en := rd.of_int
          obtain ⟨t, p, ht, _, e3, e4, e5⟩ := tie_at (rt.ext (x1.mono (S' := S) (by simp))) (i := n) (by omega) (by omega)
          refine iteF ⟨_, rfl, _, rfl, wa, _, 1, _, rfl, rfl, SqT.of (x1.tup _ _ ha), rfl, _, rfl, _, rfl, ra, xs, _, _, rfl, rfl, SqT.of (x1.tup _ _ hra), hat, wt, txs, n, _, rfl, en, SqT.of (x1.tup _ _ hb), e3, 2, rfl, sl_rep e4 fun v2 H2 x2 r2 => ?_⟩
          rw [cutL_to _ 2 (by decide)] at r2
          obtain ⟨b, hbv, hbb⟩ := rep_ints (ns := [t.1, t.2.1]) r2
          subst hbv
          have x12 := x1.trans x2
          have hst : stepD ts z (.int n) = decide (z ∈ [t.1, t.2.1]) := step_some (t := t) (by rw [tieOf_int, if_pos n0]; exact ht)
          refine ⟨b, _, rfl, .inr (SqT.of hbb), rfl, flat_ints _, _, rfl, ?_⟩
          rw [if_pos rfl, inV_ints]
          cases hin : decide (z ∈ [t.1, t.2.1]) with
          | false =>
            rw [hst, hin, if_neg Bool.false_ne_true] at hwz
            rw [hwz] at q
            refine iteT ⟨_, rfl, by show 2 ≤ sizeLine; decide, fun p hp => ?_⟩
            rw [show (0 + (i : Int)) = i by omega]
            exact q _ _ (fun S' => .tup upd_same (.cons (.str _) (.cons (.int _) .nil))) (x12.trans (.new hp))
          | true =>
            rw [hst, hin, if_pos rfl] at hwz
            have hgo : goD ts z (.int n) = otherEnd t z := by unfold goD; rw [tieOf_int, if_pos n0, ht]
            rw [hgo] at hwz
            refine iteF ⟨_, rfl, _, rfl, _, rfl, ra, xs, _, _, rfl, rfl, SqT.of (x12.tup _ _ hra), hat, _, rfl, S, many, ts, _, n, z, t, by rw [en], rw0.ext (x12.mono (by simp)), n0, ht, ⟨otherEnd t z, some (.int (0 + (i : Int))), (by rw [ahead_go (of_decide_eq_true hin)]; rfl), hwz⟩, x12⟩
      · rintro σ' H' ⟨⟨z, y, rfl, hwz⟩, x1⟩
        rw [walk_end (by omega)] at hwz
        rw [hwz] at q
        exact ⟨_, rfl, q _ _ (fun S' => .int _) x1⟩
    | _ =>
      refine ⟨_, rfl, _, _, _, _, rfl, ru.ty, kit3 _, _, rfl, iteT ⟨1, rfl, by show 2 ≤ sizeLine; decide, fun p hp => ?_⟩⟩
      exact q _ _ (fun S' => .tup upd_same (.cons (.str _) (.cons (.int _) .nil))) (.new hp)
end
end Odj

set_option Elab.async false
set_option linter.all false
set_option maxRecDepth 100000
set_option maxHeartbeats 8000000
namespace Odj
open PySem L2
/-- small things within a row -/
def Leaf (d : PyData) : Prop := Gd (10 ^ 39) d ∧ d.weight ≤ 140 ∧ d.depth ≤ 1
theorem leaf_int {i : Int} (h : i.natAbs ≤ 1000) : Leaf (.int i) := by
  have hb : (1000 : Nat) ≤ 10 ^ 39 := by decide +kernel
  have w := w_int (i := i) (k := 10) (by omega)
  exact ⟨by simp only [Gd]; omega, by omega, by simp [PyData.depth]⟩
theorem leaf_all : ∀ {ds : List PyData}, (∀ d ∈ ds, Leaf d) → GdL (10 ^ 39) ds ∧ PyData.depthAll ds ≤ 2 ∧ PyData.weightAll ds ≤ 141 * ds.length
  | [], _ => ⟨by simp [GdL], by simp [PyData.depthAll], by simp [PyData.weightAll]⟩
  | d :: ds, h => by
    obtain ⟨h1, h2, h3⟩ := leaf_all (ds := ds) fun d hd => h d (List.mem_cons_of_mem _ hd)
    obtain ⟨k1, k2, k3⟩ := h d (List.mem_cons_self ..)
    refine ⟨by simp only [GdL]; exact ⟨k1, h1⟩, by simp only [PyData.depthAll]; omega, by simp only [PyData.weightAll, List.length_cons]; omega⟩
theorem sm_leaves {ds : List PyData} (h : ∀ d ∈ ds, Leaf d) (hl : ds.length ≤ 60) : Sm (.tuple ds) ∧ Sm (.list ds) := by
  obtain ⟨h1, h2, h3⟩ := leaf_all h
  have g := gdl_mono big3950 _ h1
  exact ⟨⟨by simp only [Gd]; exact g, by simp only [PyData.depth]; omega, by simp only [PyData.weight]; omega⟩, ⟨by simp only [Gd]; exact g, by simp only [PyData.depth]; omega, by simp only [PyData.weight]; omega⟩⟩
theorem sm_len {d : PyData} (h : Sm d) : lenD d ≤ 100000 := (ThOk.mk h.1 (by have := h.2.2; omega) (by have := h.2.1; omega)).len
theorem leaf_row {ts : List Tie} {x y : Int} {row : List Int} (h : Walk ts x row y) (hl : ts.length ≤ 200) : ∀ d ∈ row.map PyData.int, Leaf d := fun d hd => by
  obtain ⟨k, hk, rfl⟩ := List.mem_map.mp hd
  have := h.bounds k hk
  exact leaf_int (by omega)
def amissD (m a : Int) : List PyData := [.int m, .int (-1), .int a, .bool true, .none, .str "0", .tuple [.int 0]]
theorem amiss_leaf {m a : Int} (hm : m.natAbs ≤ 1000) (ha : a.natAbs ≤ 1000) : ∀ d ∈ amissD m a, Leaf d := fun d hd => by
  unfold amissD at hd
  simp only [List.mem_cons, List.not_mem_nil, or_false] at hd
  rcases hd with rfl | rfl | rfl | rfl | rfl | rfl | rfl
  · exact leaf_int hm
  · exact leaf_int (by decide)
  · exact leaf_int ha
  all_goals exact ⟨by simp only [Gd, GdL] <;> decide +kernel, by decide +kernel, by decide +kernel⟩
theorem cut_mem {lo hi : Option Int} {ds : List PyData} {d : PyData} (h : d ∈ cutL ds lo hi) : d ∈ ds := List.mem_of_mem_drop (List.mem_of_mem_take h)
theorem cut_len (lo hi : Option Int) (ds : List PyData) : (cutL ds lo hi).length ≤ ds.length := by
  unfold cutL
  rw [List.length_take, List.length_drop]
  omega
theorem cut_leaf {lo hi : Option Int} {ds : List PyData} (h : ∀ d ∈ ds, Leaf d) : ∀ d ∈ cutL ds lo hi, Leaf d := fun d hd => h d (cut_mem hd)
theorem cat_leaf {ds es : List PyData} (h : ∀ d ∈ ds, Leaf d) (k : ∀ d ∈ es, Leaf d) : ∀ d ∈ ds ++ es, Leaf d := fun d hd => (List.mem_append.mp hd).elim (h d) (k d)
theorem one_leaf {d : PyData} (h : Leaf d) : ∀ e ∈ [d], Leaf e := fun e he => by
  have : e = d := by simpa using he
  subst this
  exact h
/-- two things amiss in a row -/
def spAmiss : Sp := fun vs H Q _ => ∃ (fa sa : Addr) (n many : Int) (ts : List Tie) (v u : V) (ds : List PyData), vs = [.ref fa, v, u] ∧ Feed H fa sa n ∧ Rep [fa] H (webD many (ts.map tieD)) v ∧ Rep [fa] H (.tuple ds) u ∧ ts.length ≤ 200 ∧ (∀ d ∈ ds, Leaf d) ∧ ds.length ≤ 50 ∧ n + 10 ≤ most ∧
  ∀ (es : List PyData) (v' : V) (H' : Hp), Rep [fa] H' (.tuple es) v' → (∀ d ∈ es, Leaf d) → es.length ≤ 3 * ds.length + 2 → Feed H' fa sa (n + 6) → Ext [fa] H H' → Q v' H'
/-- odd things, no part of what was there -/
def spOdd2 : Sp := fun vs H Q _ => ∃ (fa sa : Addr) (n : Int) (S : List Addr), vs = [.ref fa] ∧ Feed H fa sa n ∧ n + 1 ≤ most ∧ (∀ b ∈ S, H b ≠ none) ∧
  ∀ (d : PyData) (v : V) (H' : Hp), Rep (fa :: S) H' d v → Gd (10 ^ 39) d → d.weight ≤ 140 → d.depth ≤ 1 → Feed H' fa sa (n + 1) → Ext [fa] H H' → Q v H'
section
variable {P : Program} {w : World} {K : PySem.W.Frag} {mg : Str → Option Value} {base : Heap} {f : Addr} {fd : FuncData}
theorem d_odd2 (F : Fun K "_law_odd" "_law_odd" (top 27) f fd) (hm : mg "_law_odd" = some (.ref f)) (D_law_draw : DefOk P w K mg base 1 "_law_draw" ["_law_feed_here", "_law_many"] spDraw) : DefOk P w K mg base 2 "_law_odd" ["_law_feed_here"] spOdd2 := by
  refine ⟨f, fd, ?_, hm, F.kp, F.binds fun _ _ _ _ _ _ us hl => match us, hl with | [_], _ => rfl⟩
  have sc : FnScope ["_law_feed_here", "_law_some"] ["_law_feed_here"] (defScope (top 27)) := ⟨rfl, rfl, rfl, by decide +kernel, rfl, by decide +kernel, by decide +kernel⟩
  refine F.okQ sc (fun vs H Q E h => ?_) (fun cdv A outer s H vs Q E hr h => ?_)
  · obtain ⟨fa, sa, n, S, rfl, _⟩ := h
    rfl
  · obtain ⟨fa, sa, n, S, rfl, fe, nm, hS, q⟩ := h
    refine ⟨_, (qss_cons (qs_set (i := 1) sc.nd rfl (Or.inl rfl) (qe_lst (qa_c qe_non (qa_c qe_bl (qa_c qe_bl (qa_c qe_int (qa_c qe_int (qa_c qe_int (qa_c (qe_un un_neg qe_int) (qa_c qe_int (qa_c qe_int (qa_c (qe_op op_pow qe_int qe_int) (qa_c qe_str (qa_c qe_str (qa_c qe_str (qa_c (qe_tup qa_nil) (qa_c (qe_lst qa_nil) (qa_c (qe_tup (qa_c qe_int qa_nil)) (qa_c (qe_tup (qa_c qe_int (qa_c qe_int qa_nil))) (qa_c (qe_lst (qa_c qe_int (qa_c qe_int qa_nil))) qa_nil))))))))))))))))))))
      (qss_one (qs_ret (qe_ix (ixL K) (qv 1) (qe_callD D_law_draw (hr.mono (by decide)) (qa_c (qv 0) (qa_c qe_int qa_nil))) (fun _ _ => rfl))))), ?_⟩
    refine ⟨1, rfl, 10, 39, rfl, rfl, ⟨by decide, by decide, by decide⟩, Nat.zero_le _, fun p1 h1 => ⟨Nat.zero_le _, fun p2 h2 => ⟨by show 1 ≤ sizeLine; decide, fun p3 h3 => ⟨by show 2 ≤ sizeLine; decide, fun p4 h4 => ⟨by show 2 ≤ sizeLine; decide, fun p5 h5 => ⟨by show 18 ≤ sizeLine; decide, fun l hl => ?_⟩⟩⟩⟩⟩⟩
    generalize e1 : upd H p1 (.tup []) = H1 at h2 h3 h4 h5 hl ⊢
    have x1 : Ext [] H H1 := e1 ▸ Ext.new h1
    have a1 : H1 p1 = some (.tup []) := e1 ▸ upd_same
    generalize e2 : upd H1 p2 (.lst []) = H2 at h3 h4 h5 hl ⊢
    have x2 : Ext [] H1 H2 := e2 ▸ Ext.new h2
    have a2 : H2 p2 = some (.lst []) := e2 ▸ upd_same
    generalize e3 : upd H2 p3 (.tup [.int 0]) = H3 at h4 h5 hl ⊢
    have x3 : Ext [] H2 H3 := e3 ▸ Ext.new h3
    have a3 : H3 p3 = some (.tup [.int 0]) := e3 ▸ upd_same
    generalize e4 : upd H3 p4 (.tup [.int 0, .int 1]) = H4 at h5 hl ⊢
    have x4 : Ext [] H3 H4 := e4 ▸ Ext.new h4
    have a4 : H4 p4 = some (.tup [.int 0, .int 1]) := e4 ▸ upd_same
    generalize e5 : upd H4 p5 (.lst [.int 0, .int 1]) = H5 at hl ⊢
    have x5 : Ext [] H4 H5 := e5 ▸ Ext.new h5
    have a5 : H5 p5 = some (.lst [.int 0, .int 1]) := e5 ▸ upd_same
    have f1 := fe.ext x1 (by simp) (by simp)
    have f4 := ((f1.ext x2 (by simp) (by simp)).ext x3 (by simp) (by simp)).ext x4 (by simp) (by simp)
    have f5 := f4.ext x5 (by simp) (by simp)
    have out : ∀ {J : Hp} {p : Addr}, Ext [] H J → J p = none → p ≠ fa → p ∉ fa :: S := fun {J p} x hp hne z => by
      rcases List.mem_cons.mp z with z | z
      · exact hne z
      · cases e : H p with
        | none => exact hS p z e
        | some o => rw [x.keep p o (by simp) e] at hp; cases hp
    have r5 : Reps (fa :: S) H5 odds0 [.non, .bl true, .bl false, .int 0, .int 1, .int 2, .int (-1), .int 60, .int 61, .int (10 ^ Int.toNat 39), .str "", .str "way", .str "-", .ref p1, .ref p2, .ref p3, .ref p4, .ref p5] := by
      refine .cons .non (.cons (.bl _) (.cons (.bl _) (.cons (.int _) (.cons (.int _) (.cons (.int _) (.cons (.int _) (.cons (.int _) (.cons (.int _) (.cons (.int _) (.cons (.str _) (.cons (.str _) (.cons (.str _) (.cons ?_ (.cons ?_ (.cons ?_ (.cons ?_ (.cons ?_ .nil)))))))))))))))))
      · exact .tup (x5.tup _ _ (x4.tup _ _ (x3.tup _ _ (x2.tup _ _ a1)))) .nil
      · exact .lst (x5.keep _ _ (by simp) (x4.keep _ _ (by simp) (x3.keep _ _ (by simp) a2))) (out x1 h2 (f1.has h2).1) .nil
      · exact .tup (x5.tup _ _ (x4.tup _ _ a3)) (.cons (.int _) .nil)
      · exact .tup (x5.tup _ _ a4) (.cons (.int _) (.cons (.int _) .nil))
      · exact .lst a5 (out (((x1.trans x2).trans x3).trans x4) h5 (f4.has h5).1) (.cons (.int _) (.cons (.int _) .nil))
    have x6 : Ext [] H5 (upd H5 l (.lst [.non, .bl true, .bl false, .int 0, .int 1, .int 2, .int (-1), .int 60, .int 61, .int (10 ^ Int.toNat 39), .str "", .str "way", .str "-", .ref p1, .ref p2, .ref p3, .ref p4, .ref p5])) := .new hl
    refine ⟨_, rfl, _, rfl, fa, sa, n, 18, rfl, f5.ext x6 (by simp) (by simp), by decide, by decide, by omega, fun r H' r0 r1 f7 x7 => ?_⟩
    obtain ⟨v, hv, hv2⟩ := atI_ex (xs := [V.non, .bl true, .bl false, .int 0, .int 1, .int 2, .int (-1), .int 60, .int 61, .int (10 ^ Int.toNat 39), .str "", .str "way", .str "-", .ref p1, .ref p2, .ref p3, .ref p4, .ref p5]) r0 (by simpa using r1)
    obtain ⟨d, hd, rd⟩ := ((r5.ext (x6.mono (S' := fa :: S) (by simp))).ext (x7.mono (S' := fa :: S) (by simp))).get hv2
    obtain ⟨g1, g2, g3⟩ := odds0_fine d (List.mem_of_getElem? hd)
    refine ⟨l, _, r, v, rfl, rfl, SqL.of (x7.keep _ _ (by simpa using (f5.has hl).1) upd_same), hv, q d v H' rd g1 g2 g3 f7 ?_⟩
    exact (((((x1.trans x2).trans x3).trans x4).trans x5).trans x6).mono (S' := [fa]) (by simp) |>.trans x7
theorem d_two_amiss (F : Fun K "_law_two_amiss" "_law_two_amiss" (top 33) f fd) (hm : mg "_law_two_amiss" = some (.ref f)) (B : Bt mg) (B2 : Bt2 mg) (D_law_draw : DefOk P w K mg base 1 "_law_draw" ["_law_feed_here", "_law_many"] spDraw) : DefOk P w K mg base 2 "_law_two_amiss" ["_law_feed_here", "_law_web_here", "_law_row_here"] spAmiss := by
  refine ⟨f, fd, ?_, hm, F.kp, F.binds fun _ _ _ _ _ _ us hl => match us, hl with | [_, _, _], _ => rfl⟩
  have sc : FnScope ["_law_feed_here", "_law_web_here", "_law_row_here", "_law_at", "_law_spot", "_law_both", "_law_k", "_law_some"] ["_law_feed_here", "_law_web_here", "_law_row_here"] (defScope (top 33)) := ⟨rfl, rfl, rfl, by decide +kernel, rfl, by decide +kernel, by decide +kernel⟩
  refine F.okQ sc (fun vs H Q E h => ?_) (fun cdv A outer s H vs Q E hr h => ?_)
  · obtain ⟨fa, sa, n, many, ts, v, u, ds, rfl, _⟩ := h
    rfl
  · obtain ⟨fa, sa, n, many, ts, v, u, ds, rfl, fe, rw0, ru, tl, lf, dl, nm, q⟩ := h
    have hsz : sizeLine = 16777216 := by decide
    obtain ⟨wa, wt, txs, rfl, ha, hb, rt⟩ := web_of rw0
    have hxl := rt.length
    rw [List.length_map] at hxl
    obtain ⟨ra, xs, rfl, hra, rx⟩ := ru.of_tup
    have hxs := rx.length
    refine ⟨_, (qss_cons (qs_set (i := 3) sc.nd rfl (Or.inl rfl) (qe_callD D_law_draw (hr.mono (by decide)) (qa_c (qv 0) (qa_c (qe_op op_add (qe_callB (lenK K) (by rfl) B.len (by decide +kernel) (qa_c (qv 2) qa_nil)) qe_int) qa_nil))))
      (qss_cons (qs_set (i := 4) sc.nd rfl (Or.inl rfl) (qe_op op_add (qv 3) (qe_callD D_law_draw (hr.mono (by decide)) (qa_c (qv 0) (qa_c (qe_op op_add (qe_op op_sub (qe_callB (lenK K) (by rfl) B.len (by decide +kernel) (qa_c (qv 2) qa_nil)) (qv 3)) qe_int) qa_nil)))))
      (qss_cons (qs_set (i := 5) sc.nd rfl (Or.inl rfl) (qe_lst qa_nil))
      (qss_cons (qs_for PassesOwn.never rfl (qi_range1 (by rfl) B2.range (qa_c qe_int qa_nil)) (qg_name (i := 6) sc.nd rfl (Or.inl rfl)) (qss_cons (qs_set (i := 7) sc.nd rfl (Or.inl rfl) (qe_lst (qa_c (qe_callB (lenK K) (by rfl) B.len (by decide +kernel) (qa_c (qe_ix (ixT K) (qv 1) qe_int (fun _ _ => rfl)) qa_nil)) (qa_c (qe_un un_neg qe_int) (qa_c (qe_callD D_law_draw (hr.mono (by decide)) (qa_c (qv 0) (qa_c qe_int qa_nil))) (qa_c qe_bl (qa_c qe_non (qa_c qe_str (qa_c (qe_tup (qa_c qe_int qa_nil)) qa_nil)))))))))
      (qss_one (qs_expr (qe_bmK K PySem.F.plainAttrs_list PySem.F.slot_list_append PySem.F.type_list_append mt_append (qv 5) (qa_c (qe_ix (ixL K) (qv 7) (qe_callD D_law_draw (hr.mono (by decide)) (qa_c (qv 0) (qa_c qe_int qa_nil))) (fun _ _ => rfl)) qa_nil))))))
      (qss_one (qs_ret (qe_op (catT K) (qe_op (catT K) (qe_op (catT K) (qe_op (catT K) (qe_slice (slT K) (qv 2) qo_none (qo_some (qv 3))) (qe_tup (qa_c (qe_ix (ixL K) (qv 5) qe_int (fun _ _ => rfl)) qa_nil))) (qe_slice (slT K) (qv 2) (qo_some (qv 3)) (qo_some (qv 4)))) (qe_tup (qa_c (qe_ix (ixL K) (qv 5) qe_int (fun _ _ => rfl)) qa_nil))) (qe_slice (slT K) (qv 2) (qo_some (qv 4)) qo_none)))))))), ?_⟩
    refine ⟨_, rfl, _, rfl, ra, xs, rfl, .inr (SqT.of hra), _, _, rfl, rfl, fa, sa, n, _, rfl, fe, by omega, by omega, by omega, fun at' H1 a0 a1 f1 x1 => ?_⟩
    refine ⟨_, rfl, _, rfl, _, rfl, ra, xs, rfl, .inr (SqT.of (x1.tup _ _ hra)), _, rfl, _, _, rfl, rfl, _, _, rfl, rfl, fa, sa, n + 1, _, rfl, f1, by omega, by omega, by omega, fun sp' H2 b0 b1 f2 x2 => ⟨_, _, rfl, rfl, ?_⟩⟩
    refine ⟨Nat.zero_le _, fun l hl => ?_⟩
    have x12 := x1.trans x2
    have hlf := (f2.has hl).1
    have hls := (f2.has hl).2
    have x3 : Ext [] H2 (upd H2 l (.lst [])) := .new hl
    have hl0 : H l = none := x12.fresh (by simpa using hlf) hl
    have f3 := f2.ext x3 (by simp) (by simp)
    refine ⟨2, rfl, by decide, by decide, for_range (n := 2) (D := { nx := _, rt := Q }) (fun i σ' H' => (∃ y6 y7, σ' = [some (.ref fa), some (.ref wa), some (.ref ra), some (.int at'), some (.int (at' + sp')), some (.ref l), y6, y7]) ∧ (∃ bs es, H' l = some (.lst bs) ∧ (∀ S, Reps S H' es bs) ∧ (∀ d ∈ es, Leaf d) ∧ bs.length = i) ∧ Feed H' fa sa (n + 2 + 2 * i) ∧ Ext [fa] H H')
      ⟨⟨none, none, rfl⟩, ⟨[], [], upd_same, fun _ => .nil, by simp, rfl⟩, by simpa [Int.add_assoc] using f3, x12.trans (x3.mono (by simp))⟩ ?_ ?_⟩
    · rintro i σ' H4 hi ⟨⟨y6, y7, rfl⟩, ⟨bs, es, h4, r4, l4, e4⟩, f4, x4⟩
      refine ⟨_, rfl, wa, _, 1, _, rfl, rfl, SqT.of (x4.tup _ _ ha), rfl, wt, txs, rfl, .inr (SqT.of (x4.tup _ _ hb)), 1, rfl, _, rfl, fa, sa, _, 17, rfl, f4, by decide, by decide, by omega, fun r5 H5 c0 c1 f5 x5 => ⟨by show 1 ≤ sizeLine; decide, fun t ht => ⟨by show 7 ≤ sizeLine; decide, fun p hp => ?_⟩⟩⟩
      have y5 : Ext [] H5 (upd H5 t (.tup [.int 0])) := .new ht
      have a5 : (upd H5 t (.tup [.int 0])) t = some (.tup [.int 0]) := upd_same
      generalize upd H5 t (.tup [.int 0]) = G5 at y5 a5 hp ⊢
      generalize hvs : [V.int (txs.length : Nat), .int (-1), .int r5, .bl true, .non, .str "0", .ref t] = vs7
      have rv : ∀ S, Reps S G5 (amissD (txs.length : Nat) r5) vs7 := fun S => by
        subst hvs
        exact .cons (.int _) (.cons (.int _) (.cons (.int _) (.cons (.bl _) (.cons .non (.cons (.str _) (.cons (.tup a5 (.cons (.int _) .nil)) .nil))))))
      have l7 : vs7.length = 7 := by rw [← hvs]; rfl
      have y6 : Ext [] G5 (upd G5 p (.lst vs7)) := .new hp
      have a6 : (upd G5 p (.lst vs7)) p = some (.lst vs7) := upd_same
      have g5 := f5.ext y5 (by simp) (by simp)
      have hpf := (g5.has hp).1
      have g6 := g5.ext y6 (by simp) (by simp)
      generalize upd G5 p (.lst vs7) = G6 at y6 a6 g6 ⊢
      refine ⟨_, rfl, .inl ⟨rfl, _, SqL.of (y6.keep _ _ (by simp) (y5.keep _ _ (by simp) (x5.keep _ _ (by simpa using hlf) h4)))⟩, _, rfl, _, rfl, fa, sa, _, 7, rfl, g6, by decide, by decide, by omega, fun r7 H7 d0 d1 f7 x7 => ?_⟩
      obtain ⟨x, k1, k2⟩ := atI_ex (xs := vs7) d0 (by omega)
      have h7 : H7 l = some (.lst bs) := x7.keep _ _ (by simpa using hlf) (y6.keep _ _ (by simp) (y5.keep _ _ (by simp) (x5.keep _ _ (by simpa using hlf) h4)))
      have z47 : Ext [fa] H4 H7 := ((x5.trans (y5.mono (by simp))).trans (y6.mono (by simp))).trans x7
      have z57 : Ext [fa] G5 H7 := (y6.mono (by simp)).trans x7
      have hm2 : ∀ S, ∃ d, d ∈ amissD (txs.length : Nat) r5 ∧ (amissD (txs.length : Nat) r5)[r7.toNat]? = some d ∧ Rep S G5 d x := fun S => by
        obtain ⟨d, hd, rd⟩ := (rv S).get k2
        exact ⟨d, List.mem_of_getElem? hd, hd, rd⟩
      obtain ⟨d, dm, hd, _⟩ := hm2 []
      have rd : ∀ S, Rep S H7 d x := fun S => by
        obtain ⟨d', _, hd', rd'⟩ := hm2 (S ++ [fa])
        rw [hd] at hd'
        cases hd'
        exact (rd'.ext (z57.mono (by simp))).less fun b hb => List.mem_append_left _ hb
      refine ⟨p, vs7, r7, x, rfl, rfl, SqL.of (x7.keep _ _ (by simpa using hpf) a6), k1, l, bs, _, rfl, rfl, h7, by omega, ⟨_, _, rfl⟩, ⟨bs ++ [x], es ++ [d], upd_same, fun S => ?_, ?_, by simp [e4]⟩, ?_, ?_⟩
      · have z : Ext [l] H7 (upd H7 l (.lst (bs ++ [x]))) := .set (by simp) h7
        have e1 : Reps S (upd H7 l (.lst (bs ++ [x]))) es bs := (((r4 (S ++ [fa, l])).ext (z47.mono (by simp))).ext (z.mono (by simp))).less fun b hb => List.mem_append_left _ hb
        have e2 : Rep S (upd H7 l (.lst (bs ++ [x]))) d x := ((rd (S ++ [l])).ext (z.mono (by simp))).less fun b hb => List.mem_append_left _ hb
        exact e1.append (.cons e2 .nil)
      · intro d' hd'
        rcases List.mem_append.mp hd' with h | h
        · exact l4 d' h
        · have : d' = d := by simpa using h
          subst this
          exact amiss_leaf (by omega) (by omega) d' dm
      · have z : Ext [l] H7 (upd H7 l (.lst (bs ++ [x]))) := .set (by simp) h7
        have e := f7.ext z (by simpa using hlf.symm) (by simpa using hls.symm)
        rw [show n + 2 + 2 * (i : Int) + 1 + 1 = n + 2 + 2 * ((i + 1 : Nat) : Int) by omega] at e
        exact e
      · exact (x4.trans z47).set' hl0 h7
    · rintro σ' H4 ⟨⟨y6, y7, rfl⟩, ⟨bs, es, h4, r4, l4, e4⟩, f4, x4⟩
      have el : es.length = 2 := by have := (r4 []).length; omega
      match es, bs, r4, l4, e4, el, h4 with
      | [g1, g2], [w1, w2], r4, l4, _, _, h4 =>
        have rr : Rep [fa] H4 g1 w1 ∧ Rep [fa] H4 g2 w2 := by
          obtain ⟨a1, b1, e1, q1, t1⟩ := (r4 [fa]).of_cons
          obtain ⟨a2, b2, e2, q2, t2⟩ := t1.of_cons
          cases e1
          cases e2
          exact ⟨q1, q2⟩
        have ru4 := ru.ext x4
        have lg1 : Leaf g1 := l4 g1 (by simp)
        have lg2 : Leaf g2 := l4 g2 (by simp)
        have c1 := cut_len none (some at') ds
        have c2 := cut_len (some at') (some (at' + sp')) ds
        have c3 := cut_len (some (at' + sp')) none ds
        refine ⟨_, rfl, _, rfl, at', rfl, sl_rep ru4 fun v1 J1 z1 s1 => ⟨_, rfl, l, _, 0, w1, rfl, rfl, SqL.of (z1.keep _ _ (by simp) h4), rfl, by show 1 ≤ sizeLine; decide, fun p hp => ?_⟩⟩
        have z2 : Ext [] J1 (upd J1 p (.tup [w1])) := .new hp
        have k2 : (upd J1 p (.tup [w1])) p = some (.tup [w1]) := upd_same
        generalize upd J1 p (.tup [w1]) = J2 at z2 k2 ⊢
        have z02 := z1.trans z2
        refine cat_rep (s1.ext (z2.mono (by simp))) (.tup k2 (.cons (rr.1.ext (z02.mono (by simp))) .nil)) (by show _ + 1 ≤ _; omega) fun v3 J3 z3 s3 => ?_
        have z03 := z02.trans z3
        refine ⟨_, rfl, _, rfl, at', rfl, _, rfl, at' + sp', rfl, sl_rep (ru4.ext (z03.mono (by simp))) fun v4 J4 z4 s4 => ?_⟩
        refine cat_rep (s3.ext (z4.mono (by simp))) s4 (by rw [List.length_append]; show _ + 1 + _ ≤ _; omega) fun v5 J5 z5 s5 => ?_
        have z05 := (z03.trans z4).trans z5
        refine ⟨_, rfl, l, _, 1, w2, rfl, rfl, SqL.of (z05.keep _ _ (by simp) h4), rfl, by show 1 ≤ sizeLine; decide, fun p' hp' => ?_⟩
        have z6 : Ext [] J5 (upd J5 p' (.tup [w2])) := .new hp'
        have k6 : (upd J5 p' (.tup [w2])) p' = some (.tup [w2]) := upd_same
        generalize upd J5 p' (.tup [w2]) = J6 at z6 k6 ⊢
        have z06 := z05.trans z6
        refine cat_rep (s5.ext (z6.mono (by simp))) (.tup k6 (.cons (rr.2.ext (z06.mono (by simp))) .nil)) (by rw [List.length_append, List.length_append]; show _ + 1 + _ + 1 ≤ _; omega) fun v7 J7 z7 s7 => ?_
        have z07 := z06.trans z7
        refine ⟨_, rfl, _, rfl, at' + sp', rfl, ?_⟩
        dsimp only [tNoPart]
        refine sl_rep (ru4.ext (z07.mono (by simp))) fun v8 J8 z8 s8 => ?_
        refine cat_rep (s7.ext (z8.mono (by simp))) s8 (by simp only [List.length_append, List.length_cons, List.length_nil]; omega) fun v9 J9 z9 s9 => ?_
        have z09 := (z07.trans z8).trans z9
        refine q _ v9 J9 s9 (cat_leaf (cat_leaf (cat_leaf (cat_leaf (cut_leaf lf) (one_leaf lg1)) (cut_leaf lf)) (one_leaf lg2)) (cut_leaf lf)) (by simp only [List.length_append, List.length_cons, List.length_nil]; omega) ?_ (x4.trans (z09.mono (by simp)))
        have e := f4.ext z09 (by simp) (by simp)
        rw [show n + 2 + 2 * ((2 : Nat) : Int) = n + 6 by omega] at e
        exact e
end
end Odj

set_option Elab.async false
set_option linter.all false
set_option maxRecDepth 100000
set_option maxHeartbeats 8000000
namespace Odj
open PySem L2
structure BtL (mg : Str → Option Value) : Prop where
  isinstance : mg "isinstance" = none
  tuple : mg "tuple" = none
  len : mg "len" = none
  range : mg "range" = none
  list : mg "list" = none
  str : mg "str" = none
  repr : mg "repr" = none
/-- what a walk answers is small -/
theorem walk_small {ts : List Tie} (ht : ∀ t ∈ ts, t.1.natAbs ≤ 100 ∧ t.2.1.natAbs ≤ 100) : ∀ (ds : List PyData) (x k : Int), x.natAbs ≤ 100 → 0 ≤ k → (∀ y, walkD ts x k ds = .inr y → y.natAbs ≤ 100) ∧ ∀ j, walkD ts x k ds = .inl j → 0 ≤ j ∧ j ≤ k + ds.length
  | [], x, k, hx, hk => ⟨fun y e => (by cases e; exact hx), fun j e => (by cases e)⟩
  | d :: ds, x, k, hx, hk => by
    have hgo : (goD ts x d).natAbs ≤ 100 := by
      unfold goD
      cases e : tieOf ts d with
      | none => exact hx
      | some t =>
        have hm : t ∈ ts := by
          cases d with
          | int i =>
            rw [tieOf_int] at e
            split at e
            · exact List.mem_of_getElem? e
            · cases e
          | _ => cases e
        have := ht t hm
        show (otherEnd t x).natAbs ≤ 100
        unfold otherEnd
        split <;> omega
    obtain ⟨h1, h2⟩ := walk_small ht ds (goD ts x d) (k + 1) hgo (by omega)
    have e : walkD ts x k (d :: ds) = if stepD ts x d = true then walkD ts (goD ts x d) (k + 1) ds else .inl k := rfl
    rw [e]
    split
    · refine ⟨h1, fun j hj => ?_⟩
      have := h2 j hj
      simp only [List.length_cons]
      omega
    · refine ⟨fun y e => (by cases e), fun j e => ?_⟩
      cases e
      simp only [List.length_cons]
      omega
theorem due_good {ts : List Tie} {x : Int} {d : PyData} (ht : ∀ t ∈ ts, t.1.natAbs ≤ 100 ∧ t.2.1.natAbs ≤ 100) (hx : x.natAbs ≤ 100) (hd : lenD d ≤ 100000) : Good (dueD (resD ts x d)) := by
  have hb : (100001 : Nat) ≤ 10 ^ 50 := by decide +kernel
  have stop : ∀ k : Int, k.natAbs ≤ 100001 → Good (.tuple [.str "stop", .int k]) := fun k hk => by
    have w := w_int (i := k) (k := 17) (by omega)
    have ws : PyData.weight (.str "stop") ≤ 10 := by decide +kernel
    refine good_of ?_ ?_ ?_
    · simp only [Gd, GdL]
      exact ⟨by decide +kernel, by omega, trivial⟩
    · simp [PyData.depth, PyData.depthAll]
    · simp only [PyData.weight, PyData.weightAll] at *
      omega
  have num : ∀ y : Int, y.natAbs ≤ 100 → Good (.int y) := fun y hy => by
    have w := w_int (i := y) (k := 7) (by omega)
    exact good_of (by simp only [Gd]; omega) (by simp [PyData.depth]) (by omega)
  cases d with
  | tuple ds =>
    have hd : ds.length ≤ 100000 := hd
    obtain ⟨h1, h2⟩ := walk_small ht ds x 0 hx (by omega)
    show Good (dueD (walkD ts x 0 ds))
    cases e : walkD ts x 0 ds with
    | inl k =>
      have := h2 k e
      exact stop k (by omega)
    | inr y => exact num y (h1 y e)
  | _ => exact stop (-1) (by decide)
theorem sm_bent {ns : List Int} {d : PyData} (hl : ns.length ≤ 24) (hs : ∀ i ∈ ns, i.natAbs ≤ 1000) (g : Gd (10 ^ 39 + 1) d) (hw : d.weight ≤ 2 * (PyData.tuple (ns.map .int)).weight + 400) (hd : d.depth ≤ (PyData.tuple (ns.map .int)).depth + 1) : Sm d := by
  obtain ⟨_, h2, h3⟩ := ints_fine hs
  refine ⟨gd_mono (by decide +kernel) _ g, ?_, ?_⟩
  · simp only [PyData.depth] at hd
    omega
  · simp only [PyData.weight] at hw
    omega
def row1 : List PyData := [.tuple [], .none, .str "", .int 0, .tuple [.none], .tuple [.tuple []]]
theorem row1_sm : ∀ d ∈ row1, Sm d := fun d hd => by
  unfold row1 at hd
  simp only [List.mem_cons, List.not_mem_nil, or_false] at hd
  rcases hd with rfl | rfl | rfl | rfl | rfl | rfl
  all_goals exact ⟨by simp only [Gd, GdL] <;> decide +kernel, by decide +kernel, by decide +kernel⟩
def row0 (ds : List PyData) (at' : Int) : List PyData := [.tuple ds, .tuple (cutL ds none (some at')), .tuple (ds ++ ds.reverse), .tuple ds.reverse, .tuple (cutL ds (some at') none), .list ds]
theorem row0_sm {ds : List PyData} {at' : Int} (h : ∀ d ∈ ds, Leaf d) (hl : ds.length ≤ 24) : ∀ d ∈ row0 ds at', Sm d := fun d hd => by
  have hr : ∀ d ∈ ds.reverse, Leaf d := fun d hd => h d (List.mem_reverse.mp hd)
  have c1 := cut_len none (some at') ds
  have c2 := cut_len (some at') none ds
  unfold row0 at hd
  simp only [List.mem_cons, List.not_mem_nil, or_false] at hd
  rcases hd with rfl | rfl | rfl | rfl | rfl | rfl
  · exact (sm_leaves h (by omega)).1
  · exact (sm_leaves (cut_leaf h) (by omega)).1
  · exact (sm_leaves (cat_leaf h hr) (by rw [List.length_append, List.length_reverse]; omega)).1
  · exact (sm_leaves hr (by rw [List.length_reverse]; omega)).1
  · exact (sm_leaves (cut_leaf h) (by omega)).1
  · exact (sm_leaves h (by omega)).2
end Odj

set_option Elab.async false
set_option linter.all false
set_option maxRecDepth 100000
set_option maxHeartbeats 8000000
namespace Odj
open PySem L2
section
variable {P : Program} {w : World} {K : PySem.W.Frag} {mg : Str → Option Value} {base : Heap} {f : Addr} {fd : FuncData}
theorem d_law (F : Fun K "law" "law" (top 34) f fd) (B : BtL mg) (D_law_feed : DefOk P w K mg base 1 "_law_feed" ["_law_script"] (spFeed K)) (D_law_draw : DefOk P w K mg base 1 "_law_draw" ["_law_feed_here", "_law_many"] spDraw)
    (D_law_web : DefOk P w K mg base 3 "_law_web" ["_law_feed_here", "_law_most", "_law_ties", "_law_signed"] spWeb) (D_law_row : DefOk P w K mg base 2 "_law_row" ["_law_feed_here", "_law_web_here", "_law_start", "_law_most"] spRow) (D_law_odd : DefOk P w K mg base 2 "_law_odd" ["_law_feed_here"] spOdd2)
    (D_law_bent : DefOk P w K mg base 6 "_law_bent" ["_law_feed_here", "_law_thing"] (spBent 3)) (D_law_due : DefOk P w K mg base 2 "_law_due" ["_law_web_here", "_law_start", "_law_row_here"] spDueX) (D_law_told : DefOk P w K mg base 9 "_law_told" ["_law_web_here", "_law_start", "_law_row_here"] spDueX)
    (D_law_two_amiss : DefOk P w K mg base 2 "_law_two_amiss" ["_law_feed_here", "_law_web_here", "_law_row_here"] spAmiss) : FnOk P w K mg base CX0 20 f fd ["_law_script"] (spLaw K) := by
  have sc : FnScope ["_law_script", "_law_feed_here", "_law_k", "_law_web_here", "_law_start", "_law_row_here", "_law_at", "_law_rows", "_law_thing", "_law_one", "_law_kept", "_law_due_here"] ["_law_script"] (defScope (top 34)) := ⟨rfl, rfl, rfl, by decide +kernel, rfl, by decide +kernel, by decide +kernel⟩
  refine F.okQ (k := 19) sc (fun vs H Q E h => ?_) (fun cdv A outer s H vs Q E hr h => ?_)
  · obtain ⟨_, _, rfl, _⟩ := h
    rfl
  obtain ⟨a, ns, rfl, hsq, hlen, q⟩ := h
  have hsz : sizeLine = 16777216 := by decide
  have hmo : most = 1099511627776 := rfl
  have hdq : ∀ z : Str, (!decide (V.str z = V.str z)) = false := fun z => by simp
  refine ⟨_, (qss_cons (qs_set (i := 1) sc.nd rfl (Or.inr rfl) (qe_callD D_law_feed (hr.mono (by decide)) (qa_c (qv 0) qa_nil)))
      (qss_cons (qs_for PassesOwn.never rfl (qi_range1 (by rfl) B.range (qa_c qe_int qa_nil)) (qg_name (i := 2) sc.nd rfl (Or.inl rfl)) (qss_cons (qs_set (i := 3) sc.nd rfl (Or.inr rfl) (qe_callD D_law_web (hr.mono (by decide)) (qa_c (qv 1) (qa_c qe_int (qa_c qe_int (qa_c qe_bl qa_nil))))))
      (qss_cons (qs_set (i := 4) sc.nd rfl (Or.inl rfl) (qe_callD D_law_draw (hr.mono (by decide)) (qa_c (qv 1) (qa_c (qe_ix (ixT K) (qv 3) qe_int (fun _ _ => rfl)) qa_nil))))
      (qss_cons (qs_set (i := 5) sc.nd rfl (Or.inr rfl) (qe_callD D_law_row (hr.mono (by decide)) (qa_c (qv 1) (qa_c (qv 3) (qa_c (qv 4) (qa_c qe_int qa_nil))))))
      (qss_cons (qs_set (i := 6) sc.nd rfl (Or.inl rfl) (qe_callD D_law_draw (hr.mono (by decide)) (qa_c (qv 1) (qa_c (qe_op op_add (qe_callB (lenK K) (by rfl) B.len (by decide +kernel) (qa_c (qv 5) qa_nil)) qe_int) qa_nil))))
      (qss_cons (qs_set (i := 7) sc.nd rfl (Or.inl rfl) (qe_lst (qa_c (qv 5) (qa_c (qe_slice (slT K) (qv 5) qo_none (qo_some (qv 6))) (qa_c (qe_op (catT K) (qv 5) (qe_rev K (qv 5))) (qa_c (qe_rev K (qv 5)) (qa_c (qe_slice (slT K) (qv 5) (qo_some (qv 6)) qo_none) (qa_c (qe_callTy (listK K) (by rfl) B.list (by decide +kernel) (qa_c (qv 5) qa_nil)) qa_nil))))))))
      (qss_cons (qs_set (i := 7) sc.nd rfl (Or.inl rfl) (qe_op op_cat (qv 7) (show QE _ _ (tDat [] [] _) from (qd_lst (qds_c (qd_tup qds_nil) (qds_c qd_non (qds_c qd_str (qds_c qd_int (qds_c (qd_tup (qds_c qd_non qds_nil)) (qds_c (qd_tup (qds_c (qd_tup qds_nil) qds_nil)) qds_nil))))))))))
      (qss_cons (qs_for PassesOwn.never rfl (qi_tupK K (qe_tup (qa_c (qe_callD D_law_draw (hr.mono (by decide)) (qa_c (qv 1) (qa_c qe_int qa_nil))) (qa_c (qe_callB (lenK K) (by rfl) B.len (by decide +kernel) (qa_c (qe_ix (ixT K) (qv 3) qe_int (fun _ _ => rfl)) qa_nil)) (qa_c (qe_un un_neg qe_int) (qa_c qe_bl (qa_c (qe_callD D_law_odd (hr.mono (by decide)) (qa_c (qv 1) qa_nil)) (qa_c (qe_callTy call_str_int (by rfl) B.str (by decide +kernel) (qa_c (qv 6) qa_nil)) (qa_c (show QE _ _ (tDat [] [] _) from (qd_tup (qds_c qd_int qds_nil))) qa_nil))))))))) (qg_name (i := 8) sc.nd rfl (Or.inl rfl)) (qss_one (qs_expr (qe_bmK K PySem.F.plainAttrs_list PySem.F.slot_list_append PySem.F.type_list_append mt_append (qv 7) (qa_c (qe_op (catT K) (qe_op (catT K) (qe_slice (slT K) (qv 5) qo_none (qo_some (qv 6))) (qe_tup (qa_c (qv 8) qa_nil))) (qe_slice (slT K) (qv 5) (qo_some (qv 6)) qo_none)) qa_nil)))))
      (qss_one (qs_for PassesOwn.never rfl (qi_listK K (qe_op op_cat (qv 7) (qe_lst (qa_c (qe_callD D_law_bent (hr.mono (by decide)) (qa_c (qv 1) (qa_c (qv 5) qa_nil))) (qa_c (qe_callD D_law_bent (hr.mono (by decide)) (qa_c (qv 1) (qa_c (qv 5) qa_nil))) qa_nil))))) (qg_name (i := 9) sc.nd rfl (Or.inl rfl)) (qss_cons (qs_set (i := 10) sc.nd rfl (Or.inl rfl) (qe_callB (call_reprD hr) (by rfl) B.repr (by decide +kernel) (qa_c (qe_tup (qa_c (qv 3) (qa_c (qv 9) qa_nil))) qa_nil)))
      (qss_cons (qs_set (i := 11) sc.nd rfl (Or.inl rfl) (qe_callB (call_reprD hr) (by rfl) B.repr (by decide +kernel) (qa_c (qe_callD D_law_due (hr.mono (by decide)) (qa_c (qv 3) (qa_c (qv 4) (qa_c (qv 9) qa_nil)))) qa_nil)))
      (qss_one (qs_if (QW.pt (qw_or (qt_cmpR op_ne (qe_callB (call_reprD hr) (by rfl) B.repr (by decide +kernel) (qa_c (qe_callD D_law_told (hr.mono (by decide)) (qa_c (qv 3) (qa_c (qv 4) (qa_c (qv 9) qa_nil)))) qa_nil)) (qv 11) (nomark _)) (qw_or1 (qt_cmpR op_ne (qe_callB (call_reprD hr) (by rfl) B.repr (by decide +kernel) (qa_c (qe_tup (qa_c (qv 3) (qa_c (qv 9) qa_nil))) qa_nil)) (qv 10) (nomark _))))) (qss_one (qs_ret qe_bl)) qss_nil))))))))))))))
      (qss_cons (qs_for PassesOwn.never rfl (qi_range1 (by rfl) B.range (qa_c qe_int qa_nil)) (qg_name (i := 2) sc.nd rfl (Or.inl rfl)) (qss_cons (qs_set (i := 3) sc.nd rfl (Or.inr rfl) (qe_callD D_law_web (hr.mono (by decide)) (qa_c (qv 1) (qa_c qe_int (qa_c qe_int (qa_c qe_bl qa_nil))))))
      (qss_cons (qs_set (i := 4) sc.nd rfl (Or.inl rfl) (qe_callD D_law_draw (hr.mono (by decide)) (qa_c (qv 1) (qa_c (qe_ix (ixT K) (qv 3) qe_int (fun _ _ => rfl)) qa_nil))))
      (qss_cons (qs_set (i := 5) sc.nd rfl (Or.inr rfl) (qe_callD D_law_row (hr.mono (by decide)) (qa_c (qv 1) (qa_c (qv 3) (qa_c (qv 4) (qa_c qe_int qa_nil))))))
      (qss_one (qs_for PassesOwn.never rfl (qi_listK K (qe_comp (N := ["_law_j", "_law_feed_here", "_law_web_here", "_law_row_here"]) (mp := [none, some 1, some 3, some 5]) rfl (qi_range1 (by rfl) B.range (qa_c qe_int qa_nil)) rfl (by show compOk ["_law_script", "_law_feed_here", "_law_k", "_law_web_here", "_law_start", "_law_row_here", "_law_at", "_law_rows", "_law_thing", "_law_one", "_law_kept", "_law_due_here"] (defScope (top 34)) _ _ _ = true; decide +kernel) fun _ _ _ _ _ => ⟨(qg_name (i := 0) (by show List.Nodup [("_law_j" : Str), ("_law_feed_here" : Str), ("_law_web_here" : Str), ("_law_row_here" : Str)]; decide +kernel) rfl (Or.inl rfl)), qk_nil, (qe_callD D_law_two_amiss (hr.mono (by decide)) (qa_c (qv 1) (qa_c (qv 2) (qa_c (qv 3) qa_nil))))⟩)) (qg_name (i := 9) sc.nd rfl (Or.inl rfl)) (qss_one (qs_for PassesOwn.never rfl (qi_tupK K (qe_tup (qa_c (qv 9) (qa_c (qv 5) qa_nil)))) (qg_name (i := 8) sc.nd rfl (Or.inl rfl)) (qss_one (qs_if (qt_cmpR op_ne (qe_callB (call_reprD hr) (by rfl) B.repr (by decide +kernel) (qa_c (qe_callD D_law_told (hr.mono (by decide)) (qa_c (qv 3) (qa_c (qv 4) (qa_c (qv 8) qa_nil)))) qa_nil)) (qe_callB (call_reprD hr) (by rfl) B.repr (by decide +kernel) (qa_c (qe_callD D_law_due (hr.mono (by decide)) (qa_c (qv 3) (qa_c (qv 4) (qa_c (qv 8) qa_nil)))) qa_nil)) (nomark _)) (qss_one (qs_ret qe_bl)) qss_nil))))))))))
      (qss_one (qs_ret qe_bl))))), ?_⟩
  refine ⟨_, rfl, a, ns, rfl, hsq, fun fa sa H1 f1 x1 e1 e2 => ?_⟩
  refine ⟨4, rfl, by decide, by decide, for_range (n := 4) (D := { nx := _, rt := Q }) (fun i σ' H' => (∃ s2 s3 s4 s5 s6 s7 s8 s9 s10 s11, σ' = [some (.ref a), some (.ref fa), s2, s3, s4, s5, s6, s7, s8, s9, s10, s11]) ∧ ∃ n', Feed H' fa sa n' ∧ n' ≤ 4000 * i)
    ⟨⟨_, _, _, _, _, _, _, _, _, _, rfl⟩, 0, f1, by omega⟩ ?_ ?_⟩
  · rintro i σ' H0 hi ⟨⟨s2, s3, s4, s5, s6, s7, s8, s9, s10, s11, rfl⟩, n0, f0, hn0⟩
    refine ⟨_, rfl, fa, sa, n0, 9, 16, true, rfl, f0, by decide, by decide, by decide, by decide, by omega, fun many ts v n1 H1 rw1 m0 m1 tl tok k0 k1 f1 x1 => ?_⟩
    have htl : ts.length ≤ 16 := tl
    have wf : WebFn many ts := ⟨m0, by omega, by omega, fun t ht => ⟨(tok t ht).a0, (tok t ht).ab, (tok t ht).bm, (tok t ht).p0, (tok t ht).p1⟩⟩
    have hts : ∀ t ∈ ts, t.1.natAbs ≤ 100 ∧ t.2.1.natAbs ≤ 100 := fun t ht => by
      have o := wf.ok t ht
      have o1 := o.a0
      have o2 := o.ab
      have o3 := o.bm
      omega
    obtain ⟨wa, wt, txs, rfl, ha, hb, rt⟩ := web_of rw1
    have hxl := rt.length
    rw [List.length_map] at hxl
    refine ⟨_, rfl, _, rfl, wa, _, 0, _, rfl, rfl, SqT.of ha, rfl, fa, sa, n1, many, rfl, f1, by omega, by omega, by omega, fun st H2 st0 st1 f2 x2 => ?_⟩
    refine ⟨_, rfl, _, rfl, _, rfl, fa, sa, n1 + 1, many, ts, _, st, 24, rfl, f2, rw1.ext x2, by omega, by decide, by decide, by omega, fun row y u n3 H3 ru wk rl n3a n3b f3 x3 => ?_⟩
    have hrl : row.length ≤ 24 := rl
    obtain ⟨ra, rfl, hra⟩ := rep_ints ru
    refine ⟨_, rfl, _, rfl, ra, _, rfl, .inr (SqT.of hra), _, _, rfl, rfl, fa, sa, n3, _, rfl, f3, by omega, by rw [List.length_map]; omega, by omega, fun at' H4 a0 a1 f4 x4 => ?_⟩
    have lf := leaf_row wk (by omega)
    have at24 : at' ≤ 24 := by rw [List.length_map] at a1; omega
    have hdl : (row.map PyData.int).length ≤ 24 := by rw [List.length_map]; exact hrl
    have ru4 := ru.ext x4
    have rw4 := ((rw1.ext x2).ext x3).ext x4
    obtain ⟨_, xs, e, hra4, rx4⟩ := ru4.of_tup
    cases e
    have hxs := rx4.length
    generalize hds : row.map PyData.int = ds at *
    refine ⟨_, rfl, _, rfl, _, rfl, at', rfl, sl_rep ru4 fun v1 J1 z1 s1 => ?_⟩
    refine ⟨_, rfl, _, rfl, ra, xs, rfl, SqT.of (z1.tup _ _ hra4), fun p2 hp2 => ?_⟩
    have z2 : Ext [] J1 (upd J1 p2 (.tup xs.reverse)) := .new hp2
    have k2 : (upd J1 p2 (.tup xs.reverse)) p2 = some (.tup xs.reverse) := upd_same
    generalize upd J1 p2 (.tup xs.reverse) = J2 at z2 k2 ⊢
    have z02 := z1.trans z2
    refine cat_rep (ru4.ext (z02.mono (by simp))) (.tup k2 (rx4.ext (z02.mono (by simp))).reverse) (by rw [List.length_reverse]; omega) fun v3 J3 z3 s3 => ?_
    have z03 := z02.trans z3
    refine ⟨_, rfl, ra, xs, rfl, SqT.of (z03.tup _ _ hra4), fun p4 hp4 => ?_⟩
    have z4 : Ext [] J3 (upd J3 p4 (.tup xs.reverse)) := .new hp4
    have k4 : (upd J3 p4 (.tup xs.reverse)) p4 = some (.tup xs.reverse) := upd_same
    generalize upd J3 p4 (.tup xs.reverse) = J4 at z4 k4 ⊢
    have z04 := z03.trans z4
    refine ⟨_, rfl, _, rfl, at', rfl, ?_⟩
    dsimp only [tNoPart]
    refine sl_rep (ru4.ext (z04.mono (by simp))) fun v5 J5 z5 s5 => ?_
    have z05 := z04.trans z5
    refine ⟨_, rfl, ra, xs, rfl, .inr (SqT.of (z05.tup _ _ hra4)), fun l6 hl6 => ?_⟩
    have f5 := f4.ext z05 (by simp) (by simp)
    have z6 : Ext [] J5 (upd J5 l6 (.lst xs)) := .new hl6
    have k6 : (upd J5 l6 (.lst xs)) l6 = some (.lst xs) := upd_same
    have hl6f := (f5.has hl6).1
    generalize upd J5 l6 (.lst xs) = J6 at z6 k6 ⊢
    have z06 := z05.trans z6
    refine ⟨by show 6 ≤ sizeLine; decide, fun l7 hl7 => ?_⟩
    have z7 : Ext [] J6 (upd J6 l7 (.lst [.ref ra, v1, v3, .ref p4, v5, .ref l6])) := .new hl7
    have k7 : (upd J6 l7 (.lst [.ref ra, v1, v3, .ref p4, v5, .ref l6])) l7 = some (.lst [.ref ra, v1, v3, .ref p4, v5, .ref l6]) := upd_same
    generalize upd J6 l7 (.lst [.ref ra, v1, v3, .ref p4, v5, .ref l6]) = J7 at z7 k7 ⊢
    have z07 := z06.trans z7
    have f7 := f4.ext z07 (by simp) (by simp)
    have r0 : Reps [fa] J7 (row0 ds at') [.ref ra, v1, v3, .ref p4, v5, .ref l6] := by
      refine .cons (ru4.ext (z07.mono (by simp))) (.cons (s1.ext ((((((z2.trans z3).trans z4).trans z5).trans z6).trans z7).mono (by simp))) (.cons (s3.ext ((((z4.trans z5).trans z6).trans z7).mono (by simp))) (.cons ?_ (.cons (s5.ext ((z6.trans z7).mono (by simp))) (.cons ?_ .nil)))))
      · exact .tup (((z5.trans z6).trans z7).tup _ _ k4) (rx4.ext (z07.mono (by simp))).reverse
      · exact .lst (z7.keep _ _ (by simp) k6) (by simpa using hl6f) (rx4.ext (z07.mono (by simp)))
    have hfa : ∀ {J : Hp} {n : Int}, Feed J fa sa n → ∀ b ∈ [fa], J b ≠ none := fun {J n} fe b hb => by
      have : b = fa := by simpa using hb
      subst this
      obtain ⟨_, _, _, e, _⟩ := fe.ex
      rw [e]
      simp
    refine ⟨_, rfl, [fa], fun _ => .none, fun _ => 0, ⟨hfa f7, by simp, by simp⟩, fun v8 J8 z8 r8 => catL2 (z8.keep _ _ (by simp) k7) (r0.ext (z8.mono (by simp))) r8 (by show 6 + 6 ≤ sizeLine; decide) fun lr ys J9 z9 h9 n9 r9 => ?_⟩
    have z09 := (z07.trans z8).trans z9
    have f9 := f4.ext z09 (by simp) (by simp)
    have f8 := f7.ext z8 (by simp) (by simp)
    have lrf := (f8.has n9).1
    have lrs := (f8.has n9).2
    have sm9 : ∀ d ∈ row0 ds at' ++ row1, Sm d := fun d hd => (List.mem_append.mp hd).elim (row0_sm lf hdl d) (row1_sm d)
    have l9 : (row0 ds at' ++ row1).length = 12 := rfl
    have rw9 := rw4.ext (z09.mono (S' := [fa]) (by simp))
    have ru9 := ru4.ext (z09.mono (S' := [fa]) (by simp))
    have rwl : Rep [lr, fa] J9 (webD many (ts.map tieD)) (.ref wa) := (Rep.more n9 (rw4.ext ((z07.trans z8).mono (by simp)))).ext (z9.mono (by simp))
    have rul : Rep [lr, fa] J9 (.tuple ds) (.ref ra) := (Rep.more n9 (ru4.ext ((z07.trans z8).mono (by simp)))).ext (z9.mono (by simp))
    -- the things put in
    refine ⟨_, rfl, fa, sa, n3 + 1, 17, rfl, f9, by decide, by decide, by omega, fun r10 G1 b0 b1 g1 y1 => ?_⟩
    have h4a := x4.tup _ _ (x3.tup _ _ (x2.tup _ _ ha))
    have h4b := x4.tup _ _ (x3.tup _ _ (x2.tup _ _ hb))
    have y01 := (z09.mono (S' := [fa]) (by simp)).trans y1
    have lr1 : G1 lr = some (.lst ys) := y1.keep _ _ (by simpa using lrf) h9
    have hlr1 : ∀ b ∈ [lr], G1 b ≠ none := fun b hb => by
      have : b = lr := by simpa using hb
      rw [this, lr1]
      simp
    refine ⟨_, rfl, wa, _, 1, _, rfl, rfl, SqT.of (y01.tup _ _ h4a), rfl, wt, txs, rfl, .inr (SqT.of (y01.tup _ _ h4b)), 1, rfl, _, rfl, fa, sa, n3 + 1 + 1, [lr], rfl, g1, by omega, hlr1, fun dO vO G2 rO gO wO pO g2 y2 => ?_⟩
    have y02 := y01.trans y2
    have lr2 : G2 lr = some (.lst ys) := y2.keep _ _ (by simpa using lrf) lr1
    have hlog : at'.natAbs.log2 < 1920 := by
      by_cases h : at'.natAbs = 0
      · rw [h]; decide
      · exact Nat.lt_trans ((Nat.log2_lt h).mpr (show at'.natAbs < 2 ^ 10 by omega)) (by decide)
    have hst : (Str.ofString (toString at')).length ≤ 60 := by
      have e := int_text_length_le10 (k := 51) (by decide) (a := at') (Nat.lt_of_le_of_lt (show at'.natAbs ≤ 100 by omega) (by decide +kernel : (100 : Nat) < 10 ^ 51))
      rw [ofString_length]
      omega
    refine ⟨_, rfl, _, rfl, hlog, [fa], fun _ => .none, fun _ => 0, ⟨hfa g2, by simp, by simp⟩, fun vT G3 y3 rT => ⟨by show 7 ≤ sizeLine; decide, fun pt hpt => ?_⟩⟩
    have y03 := y02.trans (y3.mono (S' := [fa]) (by simp))
    have lr3 : G3 lr = some (.lst ys) := y3.keep _ _ (by simp) lr2
    generalize hv7 : [V.int r10, .int (txs.length : Nat), .int (-1), .bl true, vO, .str (Str.ofString (toString at')), vT] = vs7
    have y4 : Ext [] G3 (upd G3 pt (.tup vs7)) := .new hpt
    have k4 : (upd G3 pt (.tup vs7)) pt = some (.tup vs7) := upd_same
    have l7 : vs7.length = 7 := by rw [← hv7]; rfl
    obtain ⟨pT, xT, eT, hT, rT2⟩ := rT.of_tup
    subst eT
    obtain ⟨u0, _, exT, q0, t0⟩ := rT2.of_cons
    have q0' := q0.of_int
    have t0' := t0.of_nil
    subst exT q0' t0'
    have r7 : Reps [lr, fa] G3 [.int r10, .int (txs.length : Nat), .int (-1), .bool true, dO, .str (Str.ofString (toString at')), .tuple [.int 0]] vs7 := by
      subst hv7
      refine .cons (.int _) (.cons (.int _) (.cons (.int _) (.cons (.bl _) (.cons ?_ (.cons (.str _) (.cons (.tup hT (.cons (.int _) .nil)) .nil))))))
      exact (rO.ext (y3.mono (by simp))).less (by simp)
    have lf7 : ∀ d ∈ [PyData.int r10, .int (txs.length : Nat), .int (-1), .bool true, dO, .str (Str.ofString (toString at')), .tuple [.int 0]], Leaf d := fun d hd => by
      simp only [List.mem_cons, List.not_mem_nil, or_false] at hd
      rcases hd with rfl | rfl | rfl | rfl | rfl | rfl | rfl
      · exact leaf_int (by omega)
      · exact leaf_int (by omega)
      · exact leaf_int (by decide)
      · exact ⟨by simp only [Gd], by decide +kernel, by decide +kernel⟩
      · exact ⟨gO, wO, pO⟩
      · exact ⟨by simp only [Gd]; exact ⟨ofString_ok _, hst⟩, by simp only [PyData.weight]; exact Nat.le_trans hst (by decide), by simp [PyData.depth]⟩
      · exact ⟨by simp only [Gd, GdL] <;> decide +kernel, by decide +kernel, by decide +kernel⟩
    generalize [PyData.int r10, .int (txs.length : Nat), .int (-1), .bool true, dO, .str (Str.ofString (toString at')), .tuple [.int 0]] = es7 at r7 lf7
    have r7' := r7.ext (y4.mono (S' := [lr, fa]) (by simp))
    have lr4 : (upd G3 pt (.tup vs7)) lr = some (.lst ys) := y4.keep _ _ (by simp) lr3
    have y04 := y03.trans (y4.mono (S' := [fa]) (by simp))
    have g4 := (g2.ext y3 (by simp) (by simp)).ext y4 (by simp) (by simp)
    have y94 : Ext [fa] J9 (upd G3 pt (.tup vs7)) := ((y1.trans y2).trans (y3.mono (by simp))).trans (y4.mono (by simp))
    have r94 := r9.ext (y94.mono (S' := [lr, fa]) (by simp))
    generalize upd G3 pt (.tup vs7) = G4 at y4 k4 r7' lr4 y04 g4 y94 r94 ⊢
    refine ⟨pt, rfl, ⟨_, SqT.of k4⟩, for_tup (K := K) (a := pt) (xs := vs7) (D := { nx := _, rt := Q }) (fun j σ' H' => (∃ s8 s9 s10 s11, σ' = [some (.ref a), some (.ref fa), some (.int (0 + (i : Int))), some (.ref wa), some (.int st), some (.ref ra), some (.int at'), some (.ref lr), s8, s9, s10, s11]) ∧ (∃ zs D, H' lr = some (.lst zs) ∧ Reps [lr, fa] H' D zs ∧ (∀ d ∈ D, Sm d) ∧ zs.length ≤ 12 + j) ∧ Ext [lr] G4 H')
      ⟨⟨_, _, _, _, rfl⟩, ⟨ys, _, lr4, r94, sm9, by rw [r94.length]; exact Nat.le_refl 12⟩, .refl _ _⟩ (fun j σ' H' _ e => SqT.of (e.2.2.tup _ _ k4)) ?_ ?_⟩
    · rintro j x σ' G5 hx ⟨⟨s8, s9, s10, s11, rfl⟩, ⟨zs, D, h5, r5, sm5, l5⟩, y5⟩
      obtain ⟨d, hd, rd⟩ := r7'.get hx
      have hdm := lf7 d (List.mem_of_getElem? hd)
      have hj := (List.getElem?_eq_some_iff.mp hx).1
      have rul5 := (rul.ext (y94.mono (S' := [lr, fa]) (by simp))).ext (y5.mono (S' := [lr, fa]) (by simp))
      have rd5 := rd.ext (y5.mono (S' := [lr, fa]) (by simp))
      have c1 := cut_len none (some at') ds
      have c2 := cut_len (some at') none ds
      refine ⟨_, rfl, .inl ⟨rfl, _, SqL.of h5⟩, _, rfl, _, rfl, at', rfl, sl_rep rul5 fun v1 I1 z1 s1 => ⟨_, rfl, by show 1 ≤ sizeLine; decide, fun p hp => ?_⟩⟩
      have z2 : Ext [] I1 (upd I1 p (.tup [x])) := .new hp
      have k2 : (upd I1 p (.tup [x])) p = some (.tup [x]) := upd_same
      generalize upd I1 p (.tup [x]) = I2 at z2 k2 ⊢
      have z02 := z1.trans z2
      refine cat_rep (s1.ext (z2.mono (by simp))) (.tup k2 (.cons (rd5.ext (z02.mono (by simp))) .nil)) (by show _ + 1 ≤ _; omega) fun v3 I3 z3 s3 => ?_
      have z03 := z02.trans z3
      refine ⟨_, rfl, _, rfl, at', rfl, ?_⟩
      dsimp only [tNoPart]
      refine sl_rep (rul5.ext (z03.mono (by simp))) fun v4 I4 z4 s4 => ?_
      refine cat_rep (s3.ext (z4.mono (by simp))) s4 (by simp only [List.length_append, List.length_cons, List.length_nil]; omega) fun v5 I5 z5 s5 => ?_
      have z05 := (z03.trans z4).trans z5
      have h6 := z05.keep _ _ (by simp) h5
      have zz : Ext [lr] I5 (upd I5 lr (.lst (zs ++ [v5]))) := .set (by simp) h6
      refine ⟨lr, zs, _, rfl, rfl, h6, by omega, ⟨_, _, _, _, rfl⟩, ⟨zs ++ [v5], D ++ [.tuple (cutL ds none (some at') ++ [d] ++ cutL ds (some at') none)], upd_same, ?_, ?_, by rw [List.length_append]; show _ + 1 ≤ _; omega⟩, (y5.trans (z05.mono (by simp))).trans zz⟩
      · exact (((r5.ext (z05.mono (by simp))).append (.cons s5 .nil))).ext (zz.mono (by simp))
      · intro e he
        rcases List.mem_append.mp he with h | h
        · exact sm5 e h
        · have : e = .tuple (cutL ds none (some at') ++ [d] ++ cutL ds (some at') none) := by simpa using h
          subst this
          exact (sm_leaves (cat_leaf (cat_leaf (cut_leaf lf) (one_leaf hdm)) (cut_leaf lf)) (by simp only [List.length_append, List.length_cons, List.length_nil]; omega)).1
    · rintro σ' G5 ⟨⟨s8, s9, s10, s11, rfl⟩, ⟨zs, D, h5, r5, sm5, l5⟩, y5⟩
      have rw5 := (rwl.ext (y94.mono (S' := [lr, fa]) (by simp))).ext (y5.mono (S' := [lr, fa]) (by simp))
      have ru5 := (rul.ext (y94.mono (S' := [lr, fa]) (by simp))).ext (y5.mono (S' := [lr, fa]) (by simp))
      have g5 := g4.ext y5 (by simpa using lrf.symm) (by simpa using lrs.symm)
      have hk : ∀ k ∈ row, k.natAbs ≤ 1000 := fun k hk => by have := wk.bounds k hk; omega
      obtain ⟨i1, i2, i3⟩ := ints_fine hk
      rw [hds] at i1 i2 i3
      have gD : Gd (10 ^ 39) (.tuple ds) := by simp only [Gd]; exact i1
      have wD : (PyData.tuple ds).weight ≤ 300 := by simp only [PyData.weight]; omega
      have pD : (PyData.tuple ds).depth ≤ 1 := by simp only [PyData.depth]; omega
      have hB : (10 : Nat) ^ 39 + 1 ≤ 10 ^ 49 := by decide +kernel
      refine ⟨_, rfl, _, rfl, _, rfl, fa, sa, n3 + 1 + 1 + 1, .tuple ds, _, 10 ^ 39, rfl, g5, ru5.less (by simp), gD, Nat.le_refl _, hB, by omega, by omega, by omega, by omega, fun d6 v6 n6 G6 r6 gd6 w6 p6 n6a n6b g6 y6 => ?_⟩
      have ru6 := (ru5.less (S' := [fa]) (by simp)).ext y6
      refine ⟨_, rfl, _, rfl, fa, sa, n6, .tuple ds, _, 10 ^ 39, rfl, g6, ru6, gD, Nat.le_refl _, hB, by omega, by omega, by omega, by omega, fun d7 v7 n7 G7 r7 gd7 w7 p7 n7a n7b g7 y7 => ⟨by show 2 ≤ sizeLine; decide, fun lb hlb => ?_⟩⟩
      have sm6 : Sm d6 := sm_bent hrl hk gd6 (hds ▸ w6) (hds ▸ p6)
      have sm7 : Sm d7 := sm_bent hrl hk gd7 (hds ▸ w7) (hds ▸ p7)
      have y8 : Ext [] G7 (upd G7 lb (.lst [v6, v7])) := .new hlb
      have k8 : (upd G7 lb (.lst [v6, v7])) lb = some (.lst [v6, v7]) := upd_same
      generalize upd G7 lb (.lst [v6, v7]) = G8 at y8 k8 ⊢
      have y58 := (y6.trans y7).trans (y8.mono (S' := [fa]) (by simp))
      refine ⟨lr, lb, zs, _, rfl, rfl, y58.keep _ _ (by simpa using lrf) h5, k8, by show _ + 2 ≤ _; omega, fun pw hpw => ?_⟩
      have y9 : Ext [] G8 (upd G8 pw (.lst (zs ++ [v6, v7]))) := .new hpw
      have k9 : (upd G8 pw (.lst (zs ++ [v6, v7]))) pw = some (.lst (zs ++ [v6, v7])) := upd_same
      generalize upd G8 pw (.lst (zs ++ [v6, v7])) = G9 at y9 k9 ⊢
      have y59 := y58.trans (y9.mono (S' := [fa]) (by simp))
      have rD : Reps [fa] G9 (D ++ [d6, d7]) (zs ++ [v6, v7]) := ((r5.less (S' := [fa]) (by simp)).ext y59).append (.cons (r6.ext ((y7.trans ((y8.trans y9).mono (S' := [fa]) (by simp))))) (.cons (r7.ext ((y8.trans y9).mono (by simp))) .nil))
      have smD : ∀ d ∈ D ++ [d6, d7], Sm d := fun d hd => by
        rcases List.mem_append.mp hd with h | h
        · exact sm5 d h
        · simp only [List.mem_cons, List.not_mem_nil, or_false] at h
          rcases h with rfl | rfl
          · exact sm6
          · exact sm7
      have rwD := (rw5.less (S' := [fa]) (by simp)).ext y59
      have g9 := g7.ext (y8.trans y9) (by simp) (by simp)
      generalize zs ++ [v6, v7] = xsD at k9 rD ⊢
      refine ⟨pw, rfl, ⟨_, SqL.of k9⟩, for_list (K := K) (a := pw) (xs := xsD) (D := { nx := _, rt := Q }) (fun j σ' H' => (∃ s8 s9 s10 s11, σ' = [some (.ref a), some (.ref fa), some (.int (0 + (i : Int))), some (.ref wa), some (.int st), some (.ref ra), some (.int at'), some (.ref lr), s8, s9, s10, s11]) ∧ Ext [] G9 H')
        ⟨⟨_, _, _, _, rfl⟩, .refl _ _⟩ (fun j σ' H' _ e => SqL.of (e.2.keep _ _ (by simp) k9)) ?_ ?_⟩
      · rintro j x σ' I0 hx ⟨⟨s8, s9, s10, s11, rfl⟩, w0⟩
        obtain ⟨d, hd, rd⟩ := rD.get hx
        have sd := smD d (List.mem_of_getElem? hd)
        have hg : Good (.tuple [webD many (ts.map tieD), d]) := good_tup (fun e he => by
          simp only [List.mem_cons, List.not_mem_nil, or_false] at he
          rcases he with rfl | rfl
          · exact sm_web wf
          · exact sd) (by simp)
        have hgd : Good (dueD (resD ts st d)) := due_good hts (by omega) (sm_len sd)
        refine ⟨_, rfl, _, rfl, by show 2 ≤ sizeLine; decide, fun p0 hp0 => ?_⟩
        have w1 : Ext [] I0 (upd I0 p0 (.tup [.ref wa, x])) := .new hp0
        have h1 : (upd I0 p0 (.tup [.ref wa, x])) p0 = some (.tup [.ref wa, x]) := upd_same
        generalize upd I0 p0 (.tup [.ref wa, x]) = I1 at w1 h1 ⊢
        have w01 := w0.trans w1
        refine ⟨[fa], _, _, rfl, .tup h1 (.cons (rwD.ext (w01.mono (by simp))) (.cons (rd.ext (w01.mono (by simp))) .nil)), hg, ?_⟩
        refine ⟨_, rfl, _, rfl, _, rfl, [fa], many, ts, _, _, st, d, rfl, rwD.ext (w01.mono (by simp)), rd.ext (w01.mono (by simp)), sm_len sd, fun v2 I2 rv2 w2 => ⟨[fa], _, _, rfl, rv2 [fa], hgd, ?_⟩⟩
        have w02 := w01.trans w2
        refine ⟨_, rfl, _, rfl, _, rfl, [fa], many, ts, _, _, st, d, rfl, rwD.ext (w02.mono (by simp)), rd.ext (w02.mono (by simp)), sm_len sd, fun v3 I3 rv3 w3 => ⟨[fa], _, _, rfl, rv3 [fa], hgd, _, rfl, rfl, _, rfl, ?_⟩⟩
        rw [hdq]
        have w03 := w02.trans w3
        refine iteF ⟨_, rfl, _, rfl, by show 2 ≤ sizeLine; decide, fun p4 hp4 => ?_⟩
        have w4 : Ext [] I3 (upd I3 p4 (.tup [.ref wa, x])) := .new hp4
        have h4 : (upd I3 p4 (.tup [.ref wa, x])) p4 = some (.tup [.ref wa, x]) := upd_same
        generalize upd I3 p4 (.tup [.ref wa, x]) = I4 at w4 h4 ⊢
        have w04 := w03.trans w4
        refine ⟨[fa], _, _, rfl, .tup h4 (.cons (rwD.ext (w04.mono (by simp))) (.cons (rd.ext (w04.mono (by simp))) .nil)), hg, _, rfl, rfl, _, rfl, ?_⟩
        rw [hdq]
        exact ⟨⟨_, _, _, _, rfl⟩, w04⟩
      · rintro σ' I0 ⟨⟨s8, s9, s10, s11, rfl⟩, w0⟩
        exact ⟨⟨_, _, _, _, _, _, _, _, _, _, rfl⟩, n7, g9.ext w0 (by simp) (by simp), by omega⟩
  · rintro σ' H0 ⟨⟨s2, s3, s4, s5, s6, s7, s8, s9, s10, s11, rfl⟩, n0, f0, hn0⟩
    refine ⟨3, rfl, by decide, by decide, for_range (n := 3) (D := { nx := _, rt := Q }) (fun i σ' H' => (∃ s2 s3 s4 s5 s6 s7 s8 s9 s10 s11, σ' = [some (.ref a), some (.ref fa), s2, s3, s4, s5, s6, s7, s8, s9, s10, s11]) ∧ ∃ n', Feed H' fa sa n' ∧ n' ≤ 16000 + 4000 * i)
      ⟨⟨_, _, _, _, _, _, _, _, _, _, rfl⟩, n0, f0, by omega⟩ ?_ (fun σ' H' e => q _)⟩
    clear f1 f0 hn0 n0
    rintro i σ' H0 hi ⟨⟨s2, s3, s4, s5, s6, s7, s8, s9, s10, s11, rfl⟩, n0, f0, hn0⟩
    refine ⟨_, rfl, fa, sa, n0, 9, 16, true, rfl, f0, by decide, by decide, by decide, by decide, by omega, fun many ts v n1 H1 rw1 m0 m1 tl tok k0 k1 f1 x1 => ?_⟩
    have htl : ts.length ≤ 16 := tl
    have wf : WebFn many ts := ⟨m0, by omega, by omega, fun t ht => ⟨(tok t ht).a0, (tok t ht).ab, (tok t ht).bm, (tok t ht).p0, (tok t ht).p1⟩⟩
    have hts : ∀ t ∈ ts, t.1.natAbs ≤ 100 ∧ t.2.1.natAbs ≤ 100 := fun t ht => by
      have o := wf.ok t ht
      have o1 := o.a0
      have o2 := o.ab
      have o3 := o.bm
      omega
    obtain ⟨wa, wt, txs, rfl, ha, hb, rt⟩ := web_of rw1
    refine ⟨_, rfl, _, rfl, wa, _, 0, _, rfl, rfl, SqT.of ha, rfl, fa, sa, n1, many, rfl, f1, by omega, by omega, by omega, fun st H2 st0 st1 f2 x2 => ?_⟩
    refine ⟨_, rfl, _, rfl, _, rfl, fa, sa, n1 + 1, many, ts, _, st, 12, rfl, f2, rw1.ext x2, by omega, by decide, by decide, by omega, fun row y u n3 H3 ru wk rl n3a n3b f3 x3 => ?_⟩
    have hrl : row.length ≤ 12 := rl
    have lf := leaf_row wk (by omega)
    have hdl : (row.map PyData.int).length ≤ 12 := by rw [List.length_map]; exact hrl
    generalize row.map PyData.int = ds at ru lf hdl
    have rw3 := (rw1.ext x2).ext x3
    refine ⟨4, rfl, by decide, by decide, comp_range (n := 4) (fun j ys σ' H' => (∃ y, σ' = [y, some (.ref fa), some (.ref wa), some u]) ∧ (∃ D, Reps [fa] H' D ys ∧ (∀ d ∈ D, Sm d) ∧ D.length = j) ∧ Feed H' fa sa (n3 + 6 * j) ∧ Ext [fa] H3 H')
      ⟨⟨none, rfl⟩, ⟨[], .nil, by simp, rfl⟩, by simpa using f3, .refl _ _⟩ ?_ ?_⟩
    · rintro j ys σ' H4 hj ⟨⟨y, rfl⟩, ⟨D, rD, smD, lD⟩, f4, x4⟩
      refine ⟨by rw [rD.length]; omega, truN ⟨_, rfl, _, rfl, _, rfl, fa, sa, _, many, ts, _, _, ds, rfl, f4, rw3.ext x4, ru.ext x4, by omega, lf, by omega, by omega, fun es v5 H5 r5 l5 e5 f5 x5 => ⟨⟨_, rfl⟩, ⟨D ++ [.tuple es], (rD.ext x5).append (.cons r5 .nil), fun d hd => ?_, by simp [lD]⟩, ?_, x4.trans x5⟩⟩⟩
      · rcases List.mem_append.mp hd with h | h
        · exact smD d h
        · have : d = .tuple es := by simpa using h
          subst this
          exact (sm_leaves l5 (by omega)).1
      · rw [show n3 + 6 * (j : Int) + 6 = n3 + 6 * ((j + 1 : Nat) : Int) by omega] at f5
        exact f5
    · rintro ys σ' H4 ⟨⟨y, rfl⟩, ⟨D, rD, smD, lD⟩, f4, x4⟩
      refine ⟨by rw [rD.length]; omega, fun lp hlp => ?_⟩
      have y5 : Ext [] H4 (upd H4 lp (.lst ys)) := .new hlp
      have k5 : (upd H4 lp (.lst ys)) lp = some (.lst ys) := upd_same
      generalize upd H4 lp (.lst ys) = G5 at y5 k5 ⊢
      have x5 := x4.trans (y5.mono (S' := [fa]) (by simp))
      have rD5 := rD.ext (y5.mono (S' := [fa]) (by simp))
      have rw5 := rw3.ext x5
      have ru5 := ru.ext x5
      have g5 := f4.ext y5 (by simp) (by simp)
      refine ⟨lp, rfl, ⟨_, SqL.of k5⟩, for_list (K := K) (a := lp) (xs := ys) (D := { nx := _, rt := Q }) (fun j σ' H' => (∃ s6 s7 s8 s9 s10 s11, σ' = [some (.ref a), some (.ref fa), some (.int (0 + (i : Int))), some (.ref wa), some (.int st), some u, s6, s7, s8, s9, s10, s11]) ∧ Ext [] G5 H')
        ⟨⟨_, _, _, _, _, _, rfl⟩, .refl _ _⟩ (fun j σ' H' _ e => SqL.of (e.2.keep _ _ (by simp) k5)) ?_ ?_⟩
      · rintro j x σ' I0 hx ⟨⟨s6, s7, s8, s9, s10, s11, rfl⟩, w0⟩
        obtain ⟨d, hd, rd⟩ := rD5.get hx
        have sd := smD d (List.mem_of_getElem? hd)
        refine ⟨_, rfl, _, rfl, by show 2 ≤ sizeLine; decide, fun pt hpt => ?_⟩
        have w1 : Ext [] I0 (upd I0 pt (.tup [x, u])) := .new hpt
        have h1 : (upd I0 pt (.tup [x, u])) pt = some (.tup [x, u]) := upd_same
        generalize upd I0 pt (.tup [x, u]) = I1 at w1 h1 ⊢
        have w01 := w0.trans w1
        have r2 : Reps [fa] I1 [d, .tuple ds] [x, u] := .cons (rd.ext (w01.mono (by simp))) (.cons (ru5.ext (w01.mono (by simp))) .nil)
        refine ⟨pt, rfl, ⟨_, SqT.of h1⟩, for_tup (K := K) (a := pt) (xs := [x, u]) (D := { nx := _, rt := Q }) (fun j' σ' H' => (∃ s6 s7 s8 s9 s10 s11, σ' = [some (.ref a), some (.ref fa), some (.int (0 + (i : Int))), some (.ref wa), some (.int st), some u, s6, s7, s8, s9, s10, s11]) ∧ Ext [] I1 H')
          ⟨⟨_, _, _, _, _, _, rfl⟩, .refl _ _⟩ (fun j' σ' H' _ e => SqT.of (e.2.tup _ _ h1)) ?_ ?_⟩
        · rintro j' x' σ' I2 hx' ⟨⟨s6, s7, s8, s9, s10, s11, rfl⟩, w2⟩
          obtain ⟨d', hd', rd'⟩ := r2.get hx'
          have sd' : Sm d' := by
            have := List.mem_of_getElem? hd'
            simp only [List.mem_cons, List.not_mem_nil, or_false] at this
            rcases this with rfl | rfl
            · exact sd
            · exact (sm_leaves lf (by omega)).1
          have hgd : Good (dueD (resD ts st d')) := due_good hts (by omega) (sm_len sd')
          have w02 := w01.trans w2
          refine ⟨_, rfl, _, rfl, _, rfl, [fa], many, ts, _, _, st, d', rfl, rw5.ext (w02.mono (by simp)), rd'.ext (w2.mono (by simp)), sm_len sd', fun v3 I3 rv3 w3 => ⟨[fa], _, _, rfl, rv3 [fa], hgd, ?_⟩⟩
          have w03 := w02.trans w3
          refine ⟨_, rfl, _, rfl, _, rfl, [fa], many, ts, _, _, st, d', rfl, rw5.ext (w03.mono (by simp)), rd'.ext ((w2.trans w3).mono (by simp)), sm_len sd', fun v4 I4 rv4 w4 => ⟨[fa], _, _, rfl, rv4 [fa], hgd, rfl, _, rfl, ?_⟩⟩
          rw [hdq]
          exact ⟨⟨_, _, _, _, _, _, rfl⟩, (w2.trans w3).trans w4⟩
        · rintro σ' I2 ⟨⟨s6, s7, s8, s9, s10, s11, rfl⟩, w2⟩
          exact ⟨⟨_, _, _, _, _, _, rfl⟩, w01.trans w2⟩
      · rintro σ' I0 ⟨⟨s6, s7, s8, s9, s10, s11, rfl⟩, w0⟩
        exact ⟨⟨_, _, _, _, _, _, _, _, _, _, rfl⟩, _, g5.ext w0 (by simp) (by simp), by omega⟩
end
end Odj

set_option Elab.async false
set_option linter.all false
set_option maxRecDepth 100000
set_option maxHeartbeats 8000000
namespace Odj
open PySem L2
theorem all_mk {l : PySem.W.OpenLaw} {w : World} {K : PySem.W.Frag} {h : Heap} {mg : Str → Option Value} {fa : Addr} {f10 f11 f12 f14 f15 f17 f18 f19 f20 f22 f23 f24 f25 f26 f27 f28 f29 f30 f31 f32 f33 f34 : Addr} {od10 an10 od11 an11 od12 an12 od14 an14 od15 an15 od17 an17 od18 an18 od19 an19 od20 an20 od22 an22 od23 an23 od24 an24 od25 an25 od26 an26 od27 an27 od28 an28 od29 an29 od30 an30 od31 an31 od32 an32 od33 an33 od34 an34 : Option Addr} {sl10 sl11 sl12 sl14 sl15 sl17 sl18 sl19 sl20 sl22 sl23 sl24 sl25 sl26 sl27 sl28 sl29 sl30 sl31 sl32 sl33 sl34 : Array (Option Value)} {oc10 kV10 dc10 pm10 cd10 ct10 oc11 kV11 dc11 pm11 cd11 ct11 oc12 kV12 dc12 pm12 cd12 ct12 oc14 kV14 dc14 pm14 cd14 ct14 oc15 kV15 dc15 pm15 cd15 ct15 oc17 kV17 dc17 pm17 cd17 ct17 oc18 kV18 dc18 pm18 cd18 ct18 oc19 kV19 dc19 pm19 cd19 ct19 oc20 kV20 dc20 pm20 cd20 ct20 oc22 kV22 dc22 pm22 cd22 ct22 oc23 kV23 dc23 pm23 cd23 ct23 oc24 kV24 dc24 pm24 cd24 ct24 oc25 kV25 dc25 pm25 cd25 ct25 oc26 kV26 dc26 pm26 cd26 ct26 oc27 kV27 dc27 pm27 cd27 ct27 oc28 kV28 dc28 pm28 cd28 ct28 oc29 kV29 dc29 pm29 cd29 ct29 oc30 kV30 dc30 pm30 cd30 ct30 oc31 kV31 dc31 pm31 cd31 ct31 oc32 kV32 dc32 pm32 cd32 ct32 oc33 kV33 dc33 pm33 cd33 ct33 oc34 kV34 dc34 pm34 cd34 ct34 : Value} {d_JoinError : Addr} {cd_JoinError : ClassData} {d_NoPaper : Addr} {cd_NoPaper : ClassData} {d_NoWalk : Addr} {cd_NoWalk : ClassData} {d_NoText : Addr} {cd_NoText : ClassData} {d_NoTurns : Addr} {cd_NoTurns : ClassData} {d_NoTie : Addr} {cd_NoTie : ClassData} {d_TooMany : Addr} {cd_TooMany : ClassData} {d_NoLine : Addr} {cd_NoLine : ClassData} {jc0 jc1 : Value} {jdd jd1 : Option Addr} {jcd : ClassData} {jsl jsl1 : Array (Option Value)} {jN : Addr} {jes : Array DictEntry} {jn : Nat} {nm_NoWalk qn_NoWalk : Str} {N_NoWalk fi_NoWalk : Addr} {bs_NoWalk sub_NoWalk : List Value} {hd_NoWalk ab_NoWalk : Bool} {sn_NoWalk : List Str} {col_NoWalk : Option Bool} {dd_NoWalk od_NoWalk an_NoWalk : Option Addr} {k0_NoWalk k1_NoWalk k2_NoWalk k3_NoWalk k5_NoWalk : Option Value} {oc_NoWalk kV_NoWalk dc_NoWalk pm_NoWalk cD_NoWalk ct_NoWalk : Value} {sl_NoWalk : Array (Option Value)} (X : K.In h) (G : h.Ns mainGlobals mg) (hfa : mg "law" = some (.ref fa))
    (a10 : PySem.W.nsIn K mainGlobals "is_whole" = some (some (.ref f10))) (l10 : K.lookup f10 = some ⟨oc10, od10, .func (PySem.W.fnOf "is_whole" "is_whole" (defArgs (top 10)) (defBody (top 10)) (defScope (top 10)) .none kV10 dc10 pm10 an10 cd10 ct10), sl10⟩) (c10 : PySem.W.codeIn K cd10 "is_whole" = true) (k10 : PySem.W.keepIn K (.ref f10) = true)
    (a11 : PySem.W.nsIn K mainGlobals "is_rising" = some (some (.ref f11))) (l11 : K.lookup f11 = some ⟨oc11, od11, .func (PySem.W.fnOf "is_rising" "is_rising" (defArgs (top 11)) (defBody (top 11)) (defScope (top 11)) .none kV11 dc11 pm11 an11 cd11 ct11), sl11⟩) (c11 : PySem.W.codeIn K cd11 "is_rising" = true) (k11 : PySem.W.keepIn K (.ref f11) = true)
    (a12 : PySem.W.nsIn K mainGlobals "is_rising_below" = some (some (.ref f12))) (l12 : K.lookup f12 = some ⟨oc12, od12, .func (PySem.W.fnOf "is_rising_below" "is_rising_below" (defArgs (top 12)) (defBody (top 12)) (defScope (top 12)) .none kV12 dc12 pm12 an12 cd12 ct12), sl12⟩) (c12 : PySem.W.codeIn K cd12 "is_rising_below" = true) (k12 : PySem.W.keepIn K (.ref f12) = true)
    (a14 : PySem.W.nsIn K mainGlobals "is_set" = some (some (.ref f14))) (l14 : K.lookup f14 = some ⟨oc14, od14, .func (PySem.W.fnOf "is_set" "is_set" (defArgs (top 14)) (defBody (top 14)) (defScope (top 14)) .none kV14 dc14 pm14 an14 cd14 ct14), sl14⟩) (c14 : PySem.W.codeIn K cd14 "is_set" = true) (k14 : PySem.W.keepIn K (.ref f14) = true)
    (a15 : PySem.W.nsIn K mainGlobals "is_tie_number" = some (some (.ref f15))) (l15 : K.lookup f15 = some ⟨oc15, od15, .func (PySem.W.fnOf "is_tie_number" "is_tie_number" (defArgs (top 15)) (defBody (top 15)) (defScope (top 15)) .none kV15 dc15 pm15 an15 cd15 ct15), sl15⟩) (c15 : PySem.W.codeIn K cd15 "is_tie_number" = true) (k15 : PySem.W.keepIn K (.ref f15) = true)
    (a17 : PySem.W.nsIn K mainGlobals "other_end" = some (some (.ref f17))) (l17 : K.lookup f17 = some ⟨oc17, od17, .func (PySem.W.fnOf "other_end" "other_end" (defArgs (top 17)) (defBody (top 17)) (defScope (top 17)) .none kV17 dc17 pm17 an17 cd17 ct17), sl17⟩) (c17 : PySem.W.codeIn K cd17 "other_end" = true) (k17 : PySem.W.keepIn K (.ref f17) = true)
    (a18 : PySem.W.nsIn K mainGlobals "is_step" = some (some (.ref f18))) (l18 : K.lookup f18 = some ⟨oc18, od18, .func (PySem.W.fnOf "is_step" "is_step" (defArgs (top 18)) (defBody (top 18)) (defScope (top 18)) .none kV18 dc18 pm18 an18 cd18 ct18), sl18⟩) (c18 : PySem.W.codeIn K cd18 "is_step" = true) (k18 : PySem.W.keepIn K (.ref f18) = true)
    (a19 : PySem.W.nsIn K mainGlobals "places_walked" = some (some (.ref f19))) (l19 : K.lookup f19 = some ⟨oc19, od19, .func (PySem.W.fnOf "places_walked" "places_walked" (defArgs (top 19)) (defBody (top 19)) (defScope (top 19)) .none kV19 dc19 pm19 an19 cd19 ct19), sl19⟩) (c19 : PySem.W.codeIn K cd19 "places_walked" = true) (k19 : PySem.W.keepIn K (.ref f19) = true)
    (a20 : PySem.W.nsIn K mainGlobals "walked" = some (some (.ref f20))) (l20 : K.lookup f20 = some ⟨oc20, od20, .func (PySem.W.fnOf "walked" "walked" (defArgs (top 20)) (defBody (top 20)) (defScope (top 20)) .none kV20 dc20 pm20 an20 cd20 ct20), sl20⟩) (c20 : PySem.W.codeIn K cd20 "walked" = true) (k20 : PySem.W.keepIn K (.ref f20) = true)
    (a22 : PySem.W.nsIn K mainGlobals "_law_feed" = some (some (.ref f22))) (l22 : K.lookup f22 = some ⟨oc22, od22, .func (PySem.W.fnOf "_law_feed" "_law_feed" (defArgs (top 22)) (defBody (top 22)) (defScope (top 22)) .none kV22 dc22 pm22 an22 cd22 ct22), sl22⟩) (c22 : PySem.W.codeIn K cd22 "_law_feed" = true) (k22 : PySem.W.keepIn K (.ref f22) = true)
    (a23 : PySem.W.nsIn K mainGlobals "_law_draw" = some (some (.ref f23))) (l23 : K.lookup f23 = some ⟨oc23, od23, .func (PySem.W.fnOf "_law_draw" "_law_draw" (defArgs (top 23)) (defBody (top 23)) (defScope (top 23)) .none kV23 dc23 pm23 an23 cd23 ct23), sl23⟩) (c23 : PySem.W.codeIn K cd23 "_law_draw" = true) (k23 : PySem.W.keepIn K (.ref f23) = true)
    (a24 : PySem.W.nsIn K mainGlobals "_law_price" = some (some (.ref f24))) (l24 : K.lookup f24 = some ⟨oc24, od24, .func (PySem.W.fnOf "_law_price" "_law_price" (defArgs (top 24)) (defBody (top 24)) (defScope (top 24)) .none kV24 dc24 pm24 an24 cd24 ct24), sl24⟩) (c24 : PySem.W.codeIn K cd24 "_law_price" = true) (k24 : PySem.W.keepIn K (.ref f24) = true)
    (a25 : PySem.W.nsIn K mainGlobals "_law_web" = some (some (.ref f25))) (l25 : K.lookup f25 = some ⟨oc25, od25, .func (PySem.W.fnOf "_law_web" "_law_web" (defArgs (top 25)) (defBody (top 25)) (defScope (top 25)) .none kV25 dc25 pm25 an25 cd25 ct25), sl25⟩) (c25 : PySem.W.codeIn K cd25 "_law_web" = true) (k25 : PySem.W.keepIn K (.ref f25) = true)
    (a26 : PySem.W.nsIn K mainGlobals "_law_whole" = some (some (.ref f26))) (l26 : K.lookup f26 = some ⟨oc26, od26, .func (PySem.W.fnOf "_law_whole" "_law_whole" (defArgs (top 26)) (defBody (top 26)) (defScope (top 26)) .none kV26 dc26 pm26 an26 cd26 ct26), sl26⟩) (c26 : PySem.W.codeIn K cd26 "_law_whole" = true) (k26 : PySem.W.keepIn K (.ref f26) = true)
    (a27 : PySem.W.nsIn K mainGlobals "_law_odd" = some (some (.ref f27))) (l27 : K.lookup f27 = some ⟨oc27, od27, .func (PySem.W.fnOf "_law_odd" "_law_odd" (defArgs (top 27)) (defBody (top 27)) (defScope (top 27)) .none kV27 dc27 pm27 an27 cd27 ct27), sl27⟩) (c27 : PySem.W.codeIn K cd27 "_law_odd" = true) (k27 : PySem.W.keepIn K (.ref f27) = true)
    (a28 : PySem.W.nsIn K mainGlobals "_law_bent" = some (some (.ref f28))) (l28 : K.lookup f28 = some ⟨oc28, od28, .func (PySem.W.fnOf "_law_bent" "_law_bent" (defArgs (top 28)) (defBody (top 28)) (defScope (top 28)) .none kV28 dc28 pm28 an28 cd28 ct28), sl28⟩) (c28 : PySem.W.codeIn K cd28 "_law_bent" = true) (k28 : PySem.W.keepIn K (.ref f28) = true)
    (a29 : PySem.W.nsIn K mainGlobals "_law_ahead" = some (some (.ref f29))) (l29 : K.lookup f29 = some ⟨oc29, od29, .func (PySem.W.fnOf "_law_ahead" "_law_ahead" (defArgs (top 29)) (defBody (top 29)) (defScope (top 29)) .none kV29 dc29 pm29 an29 cd29 ct29), sl29⟩) (c29 : PySem.W.codeIn K cd29 "_law_ahead" = true) (k29 : PySem.W.keepIn K (.ref f29) = true)
    (a30 : PySem.W.nsIn K mainGlobals "_law_row" = some (some (.ref f30))) (l30 : K.lookup f30 = some ⟨oc30, od30, .func (PySem.W.fnOf "_law_row" "_law_row" (defArgs (top 30)) (defBody (top 30)) (defScope (top 30)) .none kV30 dc30 pm30 an30 cd30 ct30), sl30⟩) (c30 : PySem.W.codeIn K cd30 "_law_row" = true) (k30 : PySem.W.keepIn K (.ref f30) = true)
    (a31 : PySem.W.nsIn K mainGlobals "_law_due" = some (some (.ref f31))) (l31 : K.lookup f31 = some ⟨oc31, od31, .func (PySem.W.fnOf "_law_due" "_law_due" (defArgs (top 31)) (defBody (top 31)) (defScope (top 31)) .none kV31 dc31 pm31 an31 cd31 ct31), sl31⟩) (c31 : PySem.W.codeIn K cd31 "_law_due" = true) (k31 : PySem.W.keepIn K (.ref f31) = true)
    (a32 : PySem.W.nsIn K mainGlobals "_law_told" = some (some (.ref f32))) (l32 : K.lookup f32 = some ⟨oc32, od32, .func (PySem.W.fnOf "_law_told" "_law_told" (defArgs (top 32)) (defBody (top 32)) (defScope (top 32)) .none kV32 dc32 pm32 an32 cd32 ct32), sl32⟩) (c32 : PySem.W.codeIn K cd32 "_law_told" = true) (k32 : PySem.W.keepIn K (.ref f32) = true)
    (a33 : PySem.W.nsIn K mainGlobals "_law_two_amiss" = some (some (.ref f33))) (l33 : K.lookup f33 = some ⟨oc33, od33, .func (PySem.W.fnOf "_law_two_amiss" "_law_two_amiss" (defArgs (top 33)) (defBody (top 33)) (defScope (top 33)) .none kV33 dc33 pm33 an33 cd33 ct33), sl33⟩) (c33 : PySem.W.codeIn K cd33 "_law_two_amiss" = true) (k33 : PySem.W.keepIn K (.ref f33) = true)
    (a34 : PySem.W.nsIn K mainGlobals "law" = some (some (.ref f34))) (l34 : K.lookup f34 = some ⟨oc34, od34, .func (PySem.W.fnOf "law" "law" (defArgs (top 34)) (defBody (top 34)) (defScope (top 34)) .none kV34 dc34 pm34 an34 cd34 ct34), sl34⟩) (c34 : PySem.W.codeIn K cd34 "law" = true) (k34 : PySem.W.keepIn K (.ref f34) = true)
    (z_isinstance : PySem.W.nsIn K mainGlobals "isinstance" = some none)
    (z_int : PySem.W.nsIn K mainGlobals "int" = some none)
    (z_bool : PySem.W.nsIn K mainGlobals "bool" = some none)
    (z_tuple : PySem.W.nsIn K mainGlobals "tuple" = some none)
    (z_len : PySem.W.nsIn K mainGlobals "len" = some none)
    (z_range : PySem.W.nsIn K mainGlobals "range" = some none)
    (z_list : PySem.W.nsIn K mainGlobals "list" = some none)
    (z_min : PySem.W.nsIn K mainGlobals "min" = some none)
    (z_max : PySem.W.nsIn K mainGlobals "max" = some none)
    (z_str : PySem.W.nsIn K mainGlobals "str" = some none)
    (z_repr : PySem.W.nsIn K mainGlobals "repr" = some none)
    (z_sorted : PySem.W.nsIn K mainGlobals "sorted" = some none)
    (z_sum : PySem.W.nsIn K mainGlobals "sum" = some none)
    (z_enumerate : PySem.W.nsIn K mainGlobals "enumerate" = some none)
    (z_ValueError : PySem.W.nsIn K mainGlobals "ValueError" = some none)
    (na_JoinError : PySem.W.nsIn K mainGlobals "JoinError" = some (some (.ref d_JoinError)))
    (ty_JoinError : PySem.W.typeIn K (.ref d_JoinError) = some (.type "type"))
    (cl_JoinError : PySem.W.clsIn K d_JoinError = some cd_JoinError)
    (na_NoPaper : PySem.W.nsIn K mainGlobals "NoPaper" = some (some (.ref d_NoPaper)))
    (ty_NoPaper : PySem.W.typeIn K (.ref d_NoPaper) = some (.type "type"))
    (cl_NoPaper : PySem.W.clsIn K d_NoPaper = some cd_NoPaper)
    (na_NoWalk : PySem.W.nsIn K mainGlobals "NoWalk" = some (some (.ref d_NoWalk)))
    (ty_NoWalk : PySem.W.typeIn K (.ref d_NoWalk) = some (.type "type"))
    (cl_NoWalk : PySem.W.clsIn K d_NoWalk = some cd_NoWalk)
    (na_NoText : PySem.W.nsIn K mainGlobals "NoText" = some (some (.ref d_NoText)))
    (ty_NoText : PySem.W.typeIn K (.ref d_NoText) = some (.type "type"))
    (cl_NoText : PySem.W.clsIn K d_NoText = some cd_NoText)
    (na_NoTurns : PySem.W.nsIn K mainGlobals "NoTurns" = some (some (.ref d_NoTurns)))
    (ty_NoTurns : PySem.W.typeIn K (.ref d_NoTurns) = some (.type "type"))
    (cl_NoTurns : PySem.W.clsIn K d_NoTurns = some cd_NoTurns)
    (na_NoTie : PySem.W.nsIn K mainGlobals "NoTie" = some (some (.ref d_NoTie)))
    (ty_NoTie : PySem.W.typeIn K (.ref d_NoTie) = some (.type "type"))
    (cl_NoTie : PySem.W.clsIn K d_NoTie = some cd_NoTie)
    (na_TooMany : PySem.W.nsIn K mainGlobals "TooMany" = some (some (.ref d_TooMany)))
    (ty_TooMany : PySem.W.typeIn K (.ref d_TooMany) = some (.type "type"))
    (cl_TooMany : PySem.W.clsIn K d_TooMany = some cd_TooMany)
    (na_NoLine : PySem.W.nsIn K mainGlobals "NoLine" = some (some (.ref d_NoLine)))
    (ty_NoLine : PySem.W.typeIn K (.ref d_NoLine) = some (.type "type"))
    (cl_NoLine : PySem.W.clsIn K d_NoLine = some cd_NoLine)
    (lJ : K.lookup d_JoinError = some ⟨jc0, jdd, .cls jcd, jsl⟩)
    (nJ : jcd.ns = jN)
    (lN : K.lookup jN = some ⟨jc1, jd1, .dict jes jn, jsl1⟩)
    (sJ : strKeysB jes = true)
    (iJ : nsFind jes "__init__" = none)
    (xJ : PySem.W.mroIn K d_JoinError (.type "BaseException") = some true)
    (o_NoWalk : K.lookup d_NoWalk = some (PySem.excClassObj nm_NoWalk qn_NoWalk d_NoWalk N_NoWalk bs_NoWalk (.ref d_JoinError :: L2.veMro) hd_NoWalk sn_NoWalk sub_NoWalk ab_NoWalk col_NoWalk dd_NoWalk k0_NoWalk k1_NoWalk k2_NoWalk k3_NoWalk k5_NoWalk "ValueError.__new__"))
    (fiNoWalk : PySem.W.findIn K (.ref d_NoWalk) "__init__" = some (some (.ref fi_NoWalk)))
    (fnNoWalk : PySem.W.isFn K (.ref fi_NoWalk) = true)
    (kpNoWalk : PySem.W.keepIn K (.ref d_NoWalk) = true)
    (gaNoWalk : PySem.W.findIn K (.ref d_NoWalk) "__getattribute__" = some (some (.builtin "BaseException.__getattribute__")))
    (ghNoWalk : PySem.W.findIn K (.ref d_NoWalk) "__getattr__" = some none)
    (saNoWalk : PySem.W.findIn K (.ref d_NoWalk) "__setattr__" = some (some (.builtin "object.__setattr__")))
    (hdNoWalk : PySem.W.hasDictIn K d_NoWalk = true)
    (bxNoWalk : PySem.W.mroIn K d_NoWalk (.type "BaseException") = some true)
    (obNoWalk : PySem.W.mroIn K d_NoWalk (.type "object") = some true)
    (hcNoWalk : PySem.W.findIn K (.ref d_NoWalk) "__class__" = some (some (.builtin "object.__class__")))
    (hgNoWalk : PySem.W.specialIn K (.builtin "object.__class__") "__get__" = some (some (.builtin "getset_descriptor.__get__")))
    (tkNoWalk : PySem.W.takesIn K (.builtin "object.__class__") = some true)
    (owNoWalk : PySem.W.mroIn K d_NoWalk (.ref d_NoWalk) = some true)
    (veNoWalk : PySem.W.mroIn K d_NoWalk (.type "ValueError") = some true)
    (upNoWalk : PySem.W.mroIn K d_NoWalk (.ref d_JoinError) = some true)
    (no_NoWalk_NoPaper : PySem.W.mroIn K d_NoWalk (.ref d_NoPaper) = some false)
    (no_NoWalk_NoText : PySem.W.mroIn K d_NoWalk (.ref d_NoText) = some false)
    (no_NoWalk_NoTurns : PySem.W.mroIn K d_NoWalk (.ref d_NoTurns) = some false)
    (no_NoWalk_NoTie : PySem.W.mroIn K d_NoWalk (.ref d_NoTie) = some false)
    (no_NoWalk_TooMany : PySem.W.mroIn K d_NoWalk (.ref d_TooMany) = some false)
    (no_NoWalk_NoLine : PySem.W.mroIn K d_NoWalk (.ref d_NoLine) = some false)
    (lINoWalk : K.lookup fi_NoWalk = some ⟨oc_NoWalk, od_NoWalk, .func (PySem.W.fnOf "__init__" "NoWalk.__init__" (defArgs (clsFn (top 3) 0)) (defBody (clsFn (top 3) 0)) (defScope (clsFn (top 3) 0)) .none kV_NoWalk dc_NoWalk pm_NoWalk an_NoWalk cD_NoWalk ct_NoWalk), sl_NoWalk⟩)
    (cINoWalk : PySem.W.codeIn K cD_NoWalk "NoWalk.__init__" = true)
    (kINoWalk : PySem.W.keepIn K (.ref fi_NoWalk) = true)
    (fd_NoWalk_number : PySem.W.findIn K (.ref d_NoWalk) "number" = some none) :
    ∃ fd : FuncData, (∀ (s : Shared) (v : Value), BindsTo s fd ⟨[v], []⟩ [("_law_script", v)]) ∧ ∀ base : Heap, K.In base → base.Ns mainGlobals mg → FnOk l.prog w K mg base CX0 20 fa fd ["_law_script"] (spLaw K) := by
  have e := hfa.symm.trans (PySem.W.mg_of X G a34)
  cases e
  have F10 := fun_mk (st := top 10) l10 c10 k10
  have m10 := PySem.W.mg_of X G a10
  have F11 := fun_mk (st := top 11) l11 c11 k11
  have m11 := PySem.W.mg_of X G a11
  have F12 := fun_mk (st := top 12) l12 c12 k12
  have m12 := PySem.W.mg_of X G a12
  have F14 := fun_mk (st := top 14) l14 c14 k14
  have m14 := PySem.W.mg_of X G a14
  have F15 := fun_mk (st := top 15) l15 c15 k15
  have m15 := PySem.W.mg_of X G a15
  have F17 := fun_mk (st := top 17) l17 c17 k17
  have m17 := PySem.W.mg_of X G a17
  have F18 := fun_mk (st := top 18) l18 c18 k18
  have m18 := PySem.W.mg_of X G a18
  have F19 := fun_mk (st := top 19) l19 c19 k19
  have m19 := PySem.W.mg_of X G a19
  have F20 := fun_mk (st := top 20) l20 c20 k20
  have m20 := PySem.W.mg_of X G a20
  have F22 := fun_mk (st := top 22) l22 c22 k22
  have m22 := PySem.W.mg_of X G a22
  have F23 := fun_mk (st := top 23) l23 c23 k23
  have m23 := PySem.W.mg_of X G a23
  have F24 := fun_mk (st := top 24) l24 c24 k24
  have m24 := PySem.W.mg_of X G a24
  have F25 := fun_mk (st := top 25) l25 c25 k25
  have m25 := PySem.W.mg_of X G a25
  have F26 := fun_mk (st := top 26) l26 c26 k26
  have m26 := PySem.W.mg_of X G a26
  have F27 := fun_mk (st := top 27) l27 c27 k27
  have m27 := PySem.W.mg_of X G a27
  have F28 := fun_mk (st := top 28) l28 c28 k28
  have m28 := PySem.W.mg_of X G a28
  have F29 := fun_mk (st := top 29) l29 c29 k29
  have m29 := PySem.W.mg_of X G a29
  have F30 := fun_mk (st := top 30) l30 c30 k30
  have m30 := PySem.W.mg_of X G a30
  have F31 := fun_mk (st := top 31) l31 c31 k31
  have m31 := PySem.W.mg_of X G a31
  have F32 := fun_mk (st := top 32) l32 c32 k32
  have m32 := PySem.W.mg_of X G a32
  have F33 := fun_mk (st := top 33) l33 c33 k33
  have m33 := PySem.W.mg_of X G a33
  have F34 := fun_mk (st := top 34) l34 c34 k34
  have m34 := PySem.W.mg_of X G a34
  have B : Bt mg := ⟨PySem.W.mg_none_of X G z_isinstance, PySem.W.mg_none_of X G z_int, PySem.W.mg_none_of X G z_bool, PySem.W.mg_none_of X G z_tuple, PySem.W.mg_none_of X G z_len⟩
  have B2 : Bt2 mg := ⟨PySem.W.mg_none_of X G z_range⟩
  have B7 : Bt7 mg := ⟨PySem.W.mg_none_of X G z_sorted, PySem.W.mg_none_of X G z_sum, PySem.W.mg_none_of X G z_enumerate⟩
  have B3 : Bt3 mg := ⟨PySem.W.mg_none_of X G z_list, PySem.W.mg_none_of X G z_min, PySem.W.mg_none_of X G z_max⟩
  have B4 : Bt4 mg := ⟨PySem.W.mg_none_of X G z_str⟩
  have BV : BtV mg := ⟨PySem.W.mg_none_of X G z_ValueError, PySem.W.mg_none_of X G z_isinstance⟩
  have BL : BtL mg := ⟨PySem.W.mg_none_of X G z_isinstance, PySem.W.mg_none_of X G z_tuple, PySem.W.mg_none_of X G z_len, PySem.W.mg_none_of X G z_range, PySem.W.mg_none_of X G z_list, PySem.W.mg_none_of X G z_str, PySem.W.mg_none_of X G z_repr⟩
  have O_JoinError := own_mk X G na_JoinError ty_JoinError cl_JoinError
  have O_NoPaper := own_mk X G na_NoPaper ty_NoPaper cl_NoPaper
  have O_NoWalk := own_mk X G na_NoWalk ty_NoWalk cl_NoWalk
  have O_NoText := own_mk X G na_NoText ty_NoText cl_NoText
  have O_NoTurns := own_mk X G na_NoTurns ty_NoTurns cl_NoTurns
  have O_NoTie := own_mk X G na_NoTie ty_NoTie cl_NoTie
  have O_TooMany := own_mk X G na_TooMany ty_TooMany cl_TooMany
  have O_NoLine := own_mk X G na_NoLine ty_NoLine cl_NoLine
  subst nJ
  have jok : JOk K d_JoinError := ⟨_, _, _, _, _, _, _, _, _, lJ, lN, strKeys_of sJ, iJ⟩
  have X_NoWalk : ExcI K d_NoWalk d_JoinError := ⟨⟨⟨gaNoWalk, ghNoWalk, saNoWalk, hdNoWalk, bxNoWalk, obNoWalk⟩, hcNoWalk, hgNoWalk, tkNoWalk⟩, owNoWalk, veNoWalk, upNoWalk, xJ⟩
  have RF_NoWalk : RF K d_NoWalk d_JoinError fi_NoWalk := ⟨⟨_, _, _, _, _, _, _, _, _, _, _, _, _, _, _, o_NoWalk⟩, fiNoWalk, fnNoWalk, kpNoWalk, X_NoWalk⟩
  have FI_NoWalk := fun_mk (st := clsFn (top 3) 0) lINoWalk cINoWalk kINoWalk
  exact ⟨PySem.W.fnOf "law" "law" (defArgs (top 34)) (defBody (top 34)) (defScope (top 34)) .none kV34 dc34 pm34 an34 cd34 ct34, fun s v => .of_eq rfl, fun base _ _ => (by
    have dr := d_draw (P := l.prog) (w := w) (base := base) F23 m23 B
    have dp := d_price F24 m24 dr
    have iw := d_is_whole (P := l.prog) (w := w) (base := base) F10 m10 B
    have tn := d_is_tie_number F15 m15 (d_is_set F14 m14 B (d_is_rising_below F12 m12 B (d_is_rising F11 m11 B iw)))
    have la := d_law_ahead (P := l.prog) (w := w) (base := base) F29 m29
    have rz : RaiseOk l.prog w K mg base "NoWalk" d_NoWalk (spX1 d_NoWalk "number") := x_NoWalk FI_NoWalk RF_NoWalk jok O_NoWalk.nm fd_NoWalk_number
    have wd := d_walkedX F20 m20 (d_places_walkedX F19 m19 B B7 rz (d_is_stepX F18 m18 tn) (d_other_end F17 m17))
    have td := d_law_told F32 m32 BV X_NoWalk fd_NoWalk_number O_JoinError O_NoWalk O_NoLine O_NoPaper O_NoText O_NoTie O_NoTurns O_TooMany no_NoWalk_NoLine no_NoWalk_NoPaper no_NoWalk_NoText no_NoWalk_NoTie no_NoWalk_NoTurns no_NoWalk_TooMany wd
    exact d_law F34 BL (d_feed F22 m22) dr (d_web F25 m25 B B2 dr dp) (d_law_row F30 m30 B B2 dr la) (d_odd2 F27 m27 dr) (d_bent F28 m28 B B3 B4 dr (d_odd F27 m27 dr) 3) (d_law_due F31 m31 B B2 (d_whole F26 m26 B) la) td (d_two_amiss F33 m33 B B2 dr))⟩
theorem walk {l : PySem.W.OpenLaw} {q : Program} {loose : List Str} {XP : (Str → Option Value) → Heap → Prop} {YP : World → Heap → Prop} {d : DefRec} {K : Params → PySem.W.Frag} (hn : l.most = some 63) (hdf : d.params.defaults = [])
    (hY : ∀ (w : World) (h : Heap), YP w h → (K w.params).In h)
    (F : ∀ (w : World) (mg : Str → Option Value) (fa : Addr) (h : Heap), (K w.params).In h → h.Ns mainGlobals mg → mg d.name = some (.ref fa) →
      ∃ fd : FuncData, (∀ (s : Shared) (u : Value), BindsTo s fd ⟨[u], []⟩ [("_law_script", u)]) ∧ ∀ base : Heap, (K w.params).In base → base.Ns mainGlobals mg → FnOk l.prog w (K w.params) mg base CX0 20 fa fd ["_law_script"] (spLaw (K w.params))) :
    PySem.W.WalkO q loose XP YP l.row.toRowW d [] (fun f vs => PySem.call f vs) :=
  L2.walk_of (n := 63) (k := 20) (x := "_law_script") (CX := fun _ => CX0) (sp := fun w => spLaw (K w.params)) hn (by decide) hdf ⟨rfl, by decide, by decide, rfl⟩ hY F (fun _ _ a ns hl _ hS => ⟨a, ns, rfl, hS, hl, fun _ => rfl⟩) fun _ _ _ _ _ z => z
end Odj
def PySem.W.Fast.tw6010509049613892640 : Unit := ()
def PySem.W.Fast.tw6279599906517687888 : Unit := ()
def PySem.W.Fast.tw11408448242162980038 : Unit := ()
def PySem.W.Fast.tw13480444003817585725 : Unit := ()
def PySem.W.Fast.tw9081338889500830376 : Unit := ()
def PySem.W.Fast.tw10207794498379242285 : Unit := ()
def PySem.W.Fast.tw7754965620459281785 : Unit := ()
open PySem PySem.W PyProof.Rows
set_option maxRecDepth 100000 in
set_option maxHeartbeats 0 in
theorem PySem.Challenge.cw_oddjoins_k06_rows_walked_holds : PySem.Challenge.rw_oddjoins_k06_rows_walked.Holds := by
  w_on; o_law; k_head; (case hw => w_witness2)
  k_fill
  refine Odj.walk (l := PySem.Challenge.rw_oddjoins_k06_rows_walked) rfl rfl (fun w h Y => PySem.W.kIn_of Y) ?F
  case F =>
    intro w mg fa h KX G hmg
    refine' Odj.all_mk KX G hmg ?a10 ?l10 ?c10 ?k10 ?a11 ?l11 ?c11 ?k11 ?a12 ?l12 ?c12 ?k12 ?a14 ?l14 ?c14 ?k14 ?a15 ?l15 ?c15 ?k15 ?a17 ?l17 ?c17 ?k17 ?a18 ?l18 ?c18 ?k18 ?a19 ?l19 ?c19 ?k19 ?a20 ?l20 ?c20 ?k20 ?a22 ?l22 ?c22 ?k22 ?a23 ?l23 ?c23 ?k23 ?a24 ?l24 ?c24 ?k24 ?a25 ?l25 ?c25 ?k25 ?a26 ?l26 ?c26 ?k26 ?a27 ?l27 ?c27 ?k27 ?a28 ?l28 ?c28 ?k28 ?a29 ?l29 ?c29 ?k29 ?a30 ?l30 ?c30 ?k30 ?a31 ?l31 ?c31 ?k31 ?a32 ?l32 ?c32 ?k32 ?a33 ?l33 ?c33 ?k33 ?a34 ?l34 ?c34 ?k34 ?z_isinstance ?z_int ?z_bool ?z_tuple ?z_len ?z_range ?z_list ?z_min ?z_max ?z_str ?z_repr ?z_sorted ?z_sum ?z_enumerate ?z_ValueError ?na_JoinError ?ty_JoinError ?cl_JoinError ?na_NoPaper ?ty_NoPaper ?cl_NoPaper ?na_NoWalk ?ty_NoWalk ?cl_NoWalk ?na_NoText ?ty_NoText ?cl_NoText ?na_NoTurns ?ty_NoTurns ?cl_NoTurns ?na_NoTie ?ty_NoTie ?cl_NoTie ?na_TooMany ?ty_TooMany ?cl_TooMany ?na_NoLine ?ty_NoLine ?cl_NoLine ?lJ ?nJ ?lN ?sJ ?iJ ?xJ ?o_NoWalk ?fiNoWalk ?fnNoWalk ?kpNoWalk ?gaNoWalk ?ghNoWalk ?saNoWalk ?hdNoWalk ?bxNoWalk ?obNoWalk ?hcNoWalk ?hgNoWalk ?tkNoWalk ?owNoWalk ?veNoWalk ?upNoWalk ?no_NoWalk_NoPaper ?no_NoWalk_NoText ?no_NoWalk_NoTurns ?no_NoWalk_NoTie ?no_NoWalk_TooMany ?no_NoWalk_NoLine ?lINoWalk ?cINoWalk ?kINoWalk ?fd_NoWalk_number
    (case a10 => k_is); (case l10 => k_is); (case c10 => k_is); (case k10 => k_is)
    (case a11 => k_is); (case l11 => k_is); (case c11 => k_is); (case k11 => k_is)
    (case a12 => k_is); (case l12 => k_is); (case c12 => k_is); (case k12 => k_is)
    (case a14 => k_is); (case l14 => k_is); (case c14 => k_is); (case k14 => k_is)
    (case a15 => k_is); (case l15 => k_is); (case c15 => k_is); (case k15 => k_is)
    (case a17 => k_is); (case l17 => k_is); (case c17 => k_is); (case k17 => k_is)
    (case a18 => k_is); (case l18 => k_is); (case c18 => k_is); (case k18 => k_is)
    (case a19 => k_is); (case l19 => k_is); (case c19 => k_is); (case k19 => k_is)
    (case a20 => k_is); (case l20 => k_is); (case c20 => k_is); (case k20 => k_is)
    (case a22 => k_is); (case l22 => k_is); (case c22 => k_is); (case k22 => k_is)
    (case a23 => k_is); (case l23 => k_is); (case c23 => k_is); (case k23 => k_is)
    (case a24 => k_is); (case l24 => k_is); (case c24 => k_is); (case k24 => k_is)
    (case a25 => k_is); (case l25 => k_is); (case c25 => k_is); (case k25 => k_is)
    (case a26 => k_is); (case l26 => k_is); (case c26 => k_is); (case k26 => k_is)
    (case a27 => k_is); (case l27 => k_is); (case c27 => k_is); (case k27 => k_is)
    (case a28 => k_is); (case l28 => k_is); (case c28 => k_is); (case k28 => k_is)
    (case a29 => k_is); (case l29 => k_is); (case c29 => k_is); (case k29 => k_is)
    (case a30 => k_is); (case l30 => k_is); (case c30 => k_is); (case k30 => k_is)
    (case a31 => k_is); (case l31 => k_is); (case c31 => k_is); (case k31 => k_is)
    (case a32 => k_is); (case l32 => k_is); (case c32 => k_is); (case k32 => k_is)
    (case a33 => k_is); (case l33 => k_is); (case c33 => k_is); (case k33 => k_is)
    (case a34 => k_is); (case l34 => k_is); (case c34 => k_is); (case k34 => k_is)
    (case z_isinstance => k_is); (case z_int => k_is); (case z_bool => k_is); (case z_tuple => k_is)
    (case z_len => k_is); (case z_range => k_is); (case z_list => k_is); (case z_min => k_is)
    (case z_max => k_is); (case z_str => k_is); (case z_repr => k_is); (case z_sorted => k_is)
    (case z_sum => k_is); (case z_enumerate => k_is); (case z_ValueError => k_is); (case na_JoinError => k_is)
    (case ty_JoinError => k_is); (case cl_JoinError => k_is); (case na_NoPaper => k_is); (case ty_NoPaper => k_is)
    (case cl_NoPaper => k_is); (case na_NoWalk => k_is); (case ty_NoWalk => k_is); (case cl_NoWalk => k_is)
    (case na_NoText => k_is); (case ty_NoText => k_is); (case cl_NoText => k_is); (case na_NoTurns => k_is)
    (case ty_NoTurns => k_is); (case cl_NoTurns => k_is); (case na_NoTie => k_is); (case ty_NoTie => k_is)
    (case cl_NoTie => k_is); (case na_TooMany => k_is); (case ty_TooMany => k_is); (case cl_TooMany => k_is)
    (case na_NoLine => k_is); (case ty_NoLine => k_is); (case cl_NoLine => k_is); (case lJ => k_is)
    (case nJ => rfl); (case lN => k_is); (case sJ => rfl); (case iJ => rfl)
    (case xJ => k_is); (case o_NoWalk => k_is); (case fiNoWalk => k_is); (case fnNoWalk => k_is)
    (case kpNoWalk => k_is); (case gaNoWalk => k_is); (case ghNoWalk => k_is); (case saNoWalk => k_is)
    (case hdNoWalk => k_is); (case bxNoWalk => k_is); (case obNoWalk => k_is); (case hcNoWalk => k_is)
    (case hgNoWalk => k_is); (case tkNoWalk => k_is); (case owNoWalk => k_is); (case veNoWalk => k_is)
    (case upNoWalk => k_is); (case no_NoWalk_NoPaper => k_is); (case no_NoWalk_NoText => k_is); (case no_NoWalk_NoTurns => k_is)
    (case no_NoWalk_NoTie => k_is); (case no_NoWalk_TooMany => k_is); (case no_NoWalk_NoLine => k_is); (case lINoWalk => k_is)
    (case cINoWalk => k_is); (case kINoWalk => k_is); (case fd_NoWalk_number => k_is)

