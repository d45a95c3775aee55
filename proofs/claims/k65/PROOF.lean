import PyProof.Rows.All
import Wide.All
import OpenK.AllK
import Wide.FinOn
import Lean
import PyProof.EqAt
import PyProof.EqKinds
import PyProof.TupleCall
import KE.KTryMore
import PyProof.P3Statements
import PySem.Challenge.RW_oddjoins_k65_oneway_webs_of_any_thing
set_option Elab.async false
set_option linter.all false
set_option maxRecDepth 100000
/-! THE HAND LAYER, for ints, bools, texts, own classes, LISTS and tuples (index, slices, in, append, pop ..), calls, loops. Paste it whole ahead of your own text; what your proof does not reach may be deleted. -/
namespace L2
open PySem PySem.Spec PyProof.Rows

/-- a key: an int or a str -/
abbrev Key := Sum Int Str
def keyIs : Key → Value → Bool
  | .inl k, v => Value.isInt k v
  | .inr x, v => Value.isStrOf x v
def keyH (w : World) : Key → Int
  | .inl k => hashInt k
  | .inr x => hashStr w x
theorem keyIs_shape : ∀ {k : Key} {v : Value}, keyIs k v = true → (∃ i t, k = Sum.inl i ∧ v = Value.int i t) ∨ (∃ x t, k = Sum.inr x ∧ v = Value.str x t)
  | .inl i, v, h => by
    obtain ⟨t, e⟩ := Value.isInt_shape (k := i) (v := v) h
    exact .inl ⟨i, t, rfl, e⟩
  | .inr x, v, h => by
    obtain ⟨t, e⟩ := Value.isStrOf_shape (x := x) (v := v) h
    exact .inr ⟨x, t, rfl, e⟩
theorem keyIs_int (i : Int) (t : Tok) : keyIs (.inl i) (.int i t) = true := by simp [keyIs, Value.isInt]
theorem keyIs_str (x : Str) (t : Tok) : keyIs (.inr x) (.str x t) = true := by simp [keyIs, Value.isStrOf]
theorem key_ll (a b : Int) : decide ((Sum.inl a : Key) = Sum.inl b) = (a == b) := by
  by_cases e : a = b
  · subst e; simp
  · have h : ¬ (Sum.inl a : Key) = Sum.inl b := fun q => e (Sum.inl.inj q)
    rw [decide_eq_false h]
    exact (beq_eq_false_iff_ne.mpr e).symm
theorem key_rr (a b : Str) : decide ((Sum.inr a : Key) = Sum.inr b) = decide (a = b) := by
  by_cases e : a = b
  · subst e; simp
  · have h : ¬ (Sum.inr a : Key) = Sum.inr b := fun q => e (Sum.inr.inj q)
    rw [decide_eq_false h, decide_eq_false e]
theorem key_lr (a : Int) (b : Str) : decide ((Sum.inl a : Key) = Sum.inr b) = false := decide_eq_false (fun q => nomatch q)
theorem key_rl (a : Str) (b : Int) : decide ((Sum.inr a : Key) = Sum.inl b) = false := decide_eq_false (fun q => nomatch q)

def mixKind (prog : Program) (w : World) : PySem.KeyKind prog w Key where
  is := keyIs
  hash := keyH w
  inj := fun v a b ha hb => by
    rcases keyIs_shape ha with ⟨i, t, rfl, rfl⟩ | ⟨x, t, rfl, rfl⟩
    · rcases keyIs_shape hb with ⟨j, u, rfl, e⟩ | ⟨y, u, rfl, e⟩
      · injection e with e1 _; rw [e1]
      · exact nomatch e
    · rcases keyIs_shape hb with ⟨j, u, rfl, e⟩ | ⟨y, u, rfl, e⟩
      · exact nomatch e
      · injection e with e1 _; rw [e1]
  byValue := fun k v h => by
    rcases keyIs_shape h with ⟨i, t, rfl, rfl⟩ | ⟨x, t, rfl, rfl⟩ <;> rfl
  pyHash := fun hv h => by
    rcases keyIs_shape hv with ⟨i, t, rfl, rfl⟩ | ⟨x, t, rfl, rfl⟩
    · exact wpAny_pyHash_int h
    · exact wpAny_pyHash_str h
  eqBool := fun hu hv h => by
    rcases keyIs_shape hu with ⟨i, t, rfl, rfl⟩ | ⟨x, t, rfl, rfl⟩
    · rcases keyIs_shape hv with ⟨j, u, rfl, rfl⟩ | ⟨y, u, rfl, rfl⟩
      · rw [key_ll] at h; exact wpAny_eqBool_int h
      · rw [key_lr] at h; exact SeqAt.EqAt.int_str i t y u _ _ _ _ h
    · rcases keyIs_shape hv with ⟨j, u, rfl, rfl⟩ | ⟨y, u, rfl, rfl⟩
      · rw [key_rl] at h; exact SeqAt.EqAt.str_int x t j u _ _ _ _ h
      · rw [key_rr] at h; exact wpAny_eqBool_str h
  «strs» := fun k x t v h => by
    rcases keyIs_shape h with ⟨i, u, rfl, e⟩ | ⟨y, u, rfl, e⟩
    · exact nomatch e
    · injection e with e1 _
      subst e1
      cases v <;> rfl

theorem mixKind_int (prog : Program) (w : World) (i : Int) (t : Tok) : (mixKind prog w).is (.inl i) (.int i t) = true := keyIs_int i t
theorem mixKind_str (prog : Program) (w : World) (x : Str) (t : Tok) : (mixKind prog w).is (.inr x) (.str x t) = true := keyIs_str x t
end L2

namespace L2
open PySem PySem.Spec PyProof.Rows

/-- a value, without the heap -/
inductive V where
  | non | bl (b : Bool) | int (i : Int) | str (x : Str) | byt (b : Array UInt8) | flt (b : UInt64) | ref (a : Addr) | ty (n : String)
  deriving DecidableEq

def RelV : V → Value → Prop
  | .non, u => u = Value.none
  | .bl b, u => u = Value.bool b
  | .int i, u => ∃ t, u = Value.int i t
  | .str x, u => ∃ t, u = Value.str x t
  | .byt b, u => ∃ t, u = Value.bytes b t
  | .flt b, u => ∃ t, u = Value.float b t
  | .ref a, u => u = Value.ref a
  | .ty n, u => u = Value.type n

abbrev Vals : List V → List Value → Prop := Paired RelV
theorem Vals.length {xs : List V} {us : List Value} (r : Vals xs us) : xs.length = us.length := Paired.length r
theorem Vals.get : ∀ {xs : List V} {us : List Value} {i : Nat} {x : V}, Vals xs us → xs[i]? = some x → ∃ u, us[i]? = some u ∧ RelV x u
  | _, _, _, _, .nil, e => by simp at e
  | _, _, 0, _, .cons r _, e => by simp at e; subst e; exact ⟨_, rfl, r⟩
  | _, _, i + 1, x, .cons _ t, e => by
    obtain ⟨u, h1, h2⟩ := Vals.get (i := i) (x := x) t (by simpa using e)
    exact ⟨u, by simpa using h1, h2⟩
theorem Vals.set {x : V} {u : Value} (r : RelV x u) : ∀ {xs : List V} {us : List Value} (i : Nat), Vals xs us → Vals (xs.set i x) (us.set i u)
  | _, _, _, .nil => .nil
  | _, _, 0, .cons _ t => .cons r t
  | _, _, i + 1, .cons q t => .cons q (Vals.set r i t)
theorem Vals.append : ∀ {xs ys : List V} {us ws : List Value}, Vals xs us → Vals ys ws → Vals (xs ++ ys) (us ++ ws)
  | _, _, _, _, .nil, s => s
  | _, _, _, _, .cons r t, s => .cons r (Vals.append t s)
theorem Vals.take : ∀ {xs : List V} {us : List Value} (n : Nat), Vals xs us → Vals (xs.take n) (us.take n)
  | _, _, 0, _ => .nil
  | _, _, _ + 1, .nil => .nil
  | _, _, n + 1, .cons r t => .cons r (Vals.take n t)
theorem Vals.drop : ∀ {xs : List V} {us : List Value} (n : Nat), Vals xs us → Vals (xs.drop n) (us.drop n)
  | _, _, 0, r => r
  | _, _, _ + 1, .nil => .nil
  | _, _, n + 1, .cons _ t => Vals.drop n t
def RelO : Option V → Option Value → Prop
  | some v, some u => RelV v u
  | none, none => True
  | _, _ => False
def KV {κ : Type} : List (κ × V) → List (κ × Value) → Prop := Paired fun (p : κ × V) (q : κ × Value) => p.1 = q.1 ∧ RelV p.2 q.2

/-- a key of a dict (00_mix): an int or a text -/
def kV : Key → V
  | .inl i => .int i
  | .inr x => .str x

/-- what stands at a tracked address -/
inductive HO where
  /-- a list -/
  | lst (xs : List V)
  /-- a tuple (never changes) -/
  | tup (xs : List V)
  /-- a dict whose keys are ints and texts; one whose keys are tuples of ints and texts (the empty one is both) -/
  | dK (kvs : List (Key × V)) | dT (kvs : List (List Key × V))
  /-- a set of ints: its members, its size -/
  | set (S : Int → Bool) (n : Nat)
  /-- an instance of the class at C, its dict at dx, its attributes -/
  | ins (C dx : Addr) (fs : List (Str × V))
  /-- the dict of the instance at x -/
  | own (x : Addr)
  /-- the dict of an exception -/
  | xd (fs : List (Str × V))
  /-- a bound method, f of x -/
  | met (f x : Addr)
  /-- a range object lo, lo + 1, .. below hi -/
  | rng (lo hi : Int)
  /-- a thing that is known to the object (the script; a dict while a loop walks it): read, never written while it is so -/
  | frz (o : Obj) (u : HO)
  /-- a code object's table -/
  | tbl (ps : Array Value)
  /-- any other thing, by what is true of its one object (a def of one's own: SetO a S n := HO.ext fun h => ..) -/
  | ext (φ : Heap → Prop)

abbrev Hp := Addr → Option HO
def upd (H : Hp) (a : Addr) (o : HO) : Hp := fun b => if b = a then some o else H b
theorem upd_same {H : Hp} {a : Addr} {o : HO} : upd H a o a = some o := by unfold upd; rw [if_pos rfl]
theorem upd_ne {H : Hp} {a b : Addr} {o : HO} (h : b ≠ a) : upd H a o b = H b := by unfold upd; rw [if_neg h]
/-- two objects of different content stand apart -/
theorem ne_of {H : Hp} {a b : Addr} {o u : HO} (h : H a = some o) (h' : H b = some u) (d : o ≠ u) : a ≠ b := by
  intro e; subst e; rw [h] at h'; exact d (Option.some.inj h')
theorem ne_of_none {H : Hp} {a b : Addr} {o : HO} (h : H a = some o) (h' : H b = none) : a ≠ b := by
  intro e; subst e; rw [h] at h'; cases h'

section
variable (P : Program) (w : World)
def TupN (h : Heap) (a : Addr) (items : Array Value) : Prop := ∃ o, h.get? a = some o ∧ o.cls = .type "tuple" ∧ ∃ n, o.data = .seq items n ∧ o.dict = none
omit P w in
theorem TupN.tup {h : Heap} {a : Addr} {items : Array Value} (p : TupN h a items) : IsTup h a items := let ⟨o, e, c, n, d, _⟩ := p; ⟨o, e, c, n, d⟩
omit P w in
theorem TupN.new (h : Heap) (items : Array Value) : TupN (h.push { cls := .type "tuple", data := .seq items }) h.objs.size items := ⟨_, Heap.get?_push_size _ rfl, rfl, _, rfl, rfl⟩
def ObjOk (H : Hp) (h : Heap) (a : Addr) : HO → Prop
  | .lst xs => xs.length ≤ sizeLine ∧ ∃ (its : List Value) (n : Nat), Vals xs its ∧ h.get? a = some { cls := .type "list", data := .seq its.toArray n }
  | .tup xs => xs.length ≤ sizeLine ∧ ∃ its : List Value, Vals xs its ∧ TupN h a its.toArray
  | .dK kvs => kvs.length ≤ sizeLine ∧ (a == sysModules) = false ∧ ∃ vs, KV kvs vs ∧ h.DictOf (mixKind P w) a vs
  | .dT kvs => kvs.length ≤ sizeLine ∧ (a == sysModules) = false ∧ ∃ xs : List (List Key × Addr × Value),
      Paired (fun (p : List Key × V) (q : List Key × Addr × Value) => p.1 = q.1 ∧ H q.2.1 = some (.tup (p.1.map kV)) ∧ RelV p.2 q.2.2) kvs xs ∧
      ∃ o es ep, h.get? a = some o ∧ o.ExactDict ∧ o.data = .dict es ep ∧ es.toList = xs.map (entryOfKey (tupleKind (mixKind P w))) ∧ (xs.map (·.1)).Nodup
  | .set S n => h.SetOf (intKind P w) a S n
  | .ins C dx fs => H dx = some (.own a) ∧ fs.length ≤ 1000 ∧ dx ≠ a ∧ h.get? a = some (PySem.W.instObj C dx) ∧
      ∃ mA, h.Ns1 dx mA ∧ (∀ f, RelO (fs.lookup f) (mA f)) ∧ PySem.Within mA (fs.map (·.1))
  | .own _ => ∃ o, h.get? a = some o
  | .xd fs => ∃ mA, h.Ns1 a mA ∧ ∀ f, RelO (fs.lookup f) (mA f)
  | .rng lo hi => ∃ t u v, h.get? a = some { cls := .type "range", data := .fields #[.int lo t, .int hi u, .int 1 v] }
  | .frz o u => h.get? a = some o ∧ ObjOk H h a u
  | .tbl ps => h.get? a = some { cls := .none, data := .fields ps }
  | .met f x => h.get? a = some (PySem.W.methodObj (.ref f) (.ref x))
  | .ext φ => φ h ∧ (∃ o, h.get? a = some o) ∧ ∀ h1 h2 : Heap, φ h1 → (∀ o, h1.get? a = some o → h2.get? a = some o) → φ h2
/-- the abstract heap is held -/
def HOk (H : Hp) (h : Heap) : Prop := ∀ a o, H a = some o → ObjOk P w H h a o
end

section
variable {P : Program} {w : World} {H H' : Hp} {h h' : Heap} {a : Addr} {o : HO}
theorem ObjOk.lt (x : ObjOk P w H h a o) : a < h.objs.size := by
  cases o with
  | lst xs => obtain ⟨_, _, _, _, e⟩ := x; exact Heap.lt_size e
  | tup xs => obtain ⟨_, _, _, p⟩ := x; exact p.tup.lt
  | dK kvs => obtain ⟨_, _, _, _, o, _, _, e, _⟩ := x; exact Heap.lt_size e
  | dT kvs => obtain ⟨_, _, _, _, o, _, _, e, _⟩ := x; exact Heap.lt_size e
  | set S n => obtain ⟨o, _, _, _, e, _⟩ := x; exact Heap.lt_size e
  | ins C dx fs => obtain ⟨_, _, _, e, _⟩ := x; exact Heap.lt_size e
  | own y => obtain ⟨_, e⟩ := x; exact Heap.lt_size e
  | xd fs => obtain ⟨_, ⟨_, _, _, e, _⟩, _⟩ := x; exact Heap.lt_size e
  | rng lo hi => obtain ⟨_, _, _, e⟩ := x; exact Heap.lt_size e
  | frz ob u => obtain ⟨e, _⟩ := x; exact Heap.lt_size e
  | tbl ps => exact Heap.lt_size (show h.get? a = some _ from x)
  | met f y => exact Heap.lt_size (show h.get? a = some _ from x)
  | ext φ => obtain ⟨_, ⟨_, e⟩, _⟩ := x; exact Heap.lt_size e
theorem Paired.mapP {α β : Type} {F G : α → β → Prop} : ∀ {l₁ : List α} {l₂ : List β}, Paired F l₁ l₂ → (∀ a b, F a b → G a b) → Paired G l₁ l₂
  | _, _, .nil, _ => .nil
  | _, _, .cons r t, f => .cons (f _ _ r) (Paired.mapP t f)
/-- what an object's description leans on: its own object, its own dict, the tuples -/
theorem ObjOk.stay (x : ObjOk P w H h a o) (k : ∀ b u, (b = a ∨ H b = some (.own a)) → h.get? b = some u → h'.get? b = some u)
    (ho : ∀ b, H b = some (.own a) → H' b = some (.own a)) (ht : ∀ b xs, H b = some (.tup xs) → H' b = some (.tup xs)) : ObjOk P w H' h' a o := by
  induction o with
  | lst xs => obtain ⟨z, its, n, r, e⟩ := x; exact ⟨z, its, n, r, k _ _ (.inl rfl) e⟩
  | tup xs => obtain ⟨z, its, r, ob, e, c⟩ := x; exact ⟨z, its, r, ob, k _ _ (.inl rfl) e, c⟩
  | dK kvs => obtain ⟨z, y, vs, r, ob, es, ep, e, c⟩ := x; exact ⟨z, y, vs, r, ob, es, ep, k _ _ (.inl rfl) e, c⟩
  | dT kvs =>
    obtain ⟨z, y, xs, r, ob, es, ep, e, c⟩ := x
    exact ⟨z, y, xs, Paired.mapP r fun p q z => ⟨z.1, ht _ _ z.2.1, z.2.2⟩, ob, es, ep, k _ _ (.inl rfl) e, c⟩
  | set S n => obtain ⟨ob, es, ep, t, e, c⟩ := x; exact ⟨ob, es, ep, t, k _ _ (.inl rfl) e, c⟩
  | ins C dx fs =>
    obtain ⟨d, z, ne, e, mA, ⟨od, es, ep, e2, c⟩, r⟩ := x
    exact ⟨ho _ d, z, ne, k _ _ (.inl rfl) e, mA, ⟨od, es, ep, k _ _ (.inr d) e2, c⟩, r⟩
  | own y => obtain ⟨ob, e⟩ := x; exact ⟨ob, k _ _ (.inl rfl) e⟩
  | xd fs => obtain ⟨mA, ⟨od, es, ep, e, c⟩, r⟩ := x; exact ⟨mA, ⟨od, es, ep, k _ _ (.inl rfl) e, c⟩, r⟩
  | rng lo hi => obtain ⟨t, u, v, e⟩ := x; exact ⟨t, u, v, k _ _ (.inl rfl) e⟩
  | frz ob u ih => obtain ⟨e, q⟩ := x; exact ⟨k _ _ (.inl rfl) e, ih q⟩
  | tbl ps =>
    have e : h.get? a = some { cls := .none, data := .fields ps } := x
    show h'.get? a = some { cls := .none, data := .fields ps }
    exact k a _ (.inl rfl) e
  | met f y =>
    have e : h.get? a = some (PySem.W.methodObj (.ref f) (.ref y)) := x
    show h'.get? a = some (PySem.W.methodObj (.ref f) (.ref y))
    exact k a _ (.inl rfl) e
  | ext φ => obtain ⟨p, ⟨o, e⟩, st⟩ := x; exact ⟨st _ _ p fun o q => k _ _ (.inl rfl) q, ⟨o, k _ _ (.inl rfl) e⟩, st⟩
theorem HOk.lt (x : HOk P w H h) (e : H a = some o) : a < h.objs.size := (x a o e).lt
theorem HOk.fresh (x : HOk P w H h) (e : h.objs.size ≤ a) : H a = none := by
  cases q : H a with
  | none => rfl
  | some u => exact absurd (Nat.lt_of_lt_of_le (x.lt q) e) (Nat.lt_irrefl _)
/-- every object of the heap is kept -/
theorem HOk.kept (x : HOk P w H h) (k : ∀ b u, h.get? b = some u → h'.get? b = some u) : HOk P w H h' := fun a o e =>
  (x a o e).stay (fun b u _ q => k b u q) (fun _ q => q) fun _ _ q => q
/-- a new object is laid and tracked -/
theorem HOk.laid (x : HOk P w H h) (k : ∀ b u, h.get? b = some u → h'.get? b = some u) (hp : h.objs.size ≤ a) (new : ObjOk P w (upd H a o) h' a o) : HOk P w (upd H a o) h' := fun b u e => by
  have hn := x.fresh hp
  by_cases hb : b = a
  · subst hb; rw [upd_same] at e; cases e; exact new
  · rw [upd_ne hb] at e
    exact (x b u e).stay (fun c v _ q => k c v q) (fun c q => by rw [upd_ne (ne_of_none q hn)]; exact q) fun c xs q => by rw [upd_ne (ne_of_none q hn)]; exact q
end

/-- what may be read as u: it is u, or a known u -/
def Rd (H : Hp) (a : Addr) (u : HO) : Prop := H a = some u ∨ ∃ o, H a = some (.frz o u)
theorem Rd.of {H : Hp} {a : Addr} {u : HO} (h : H a = some u) : Rd H a u := .inl h
theorem Rd.ok {P : Program} {w : World} {H : Hp} {h : Heap} {a : Addr} {u : HO} (r : Rd H a u) (x : HOk P w H h) : ObjOk P w H h a u := by
  rcases r with r | ⟨o, r⟩
  · exact x a u r
  · obtain ⟨_, q⟩ := x a _ r
    exact q
/-- what may be written -/
def Mut : Option HO → Prop
  | some (.lst _) => True
  | some (.dK _) => True
  | some (.dT _) => True
  | some (.set _ _) => True
  | some (.ins _ _ _) => True
  | some (.ext _) => True
  | _ => False
section
variable {P : Program} {w : World} {H : Hp} {h h' : Heap} {x e : Addr} {o' : HO}
/-- the object at e is changed: x itself, or the dict of the instance x -/
theorem HOk.write (ok : HOk P w H h) (mu : Mut (H x)) (he : e = x ∨ H e = some (.own x)) (k : ∀ b u, b ≠ e → h.get? b = some u → h'.get? b = some u) (heo : ∃ u, h'.get? e = some u)
    (new : ObjOk P w (upd H x o') h' x o') : HOk P w (upd H x o') h' := fun b u q => by
  have nown : ∀ c y, H c = some (.own y) → c ≠ x := fun c y r z => by subst z; rw [r] at mu; exact mu
  have ntup : ∀ c xs, H c = some (.tup xs) → c ≠ x := fun c xs r z => by subst z; rw [r] at mu; exact mu
  by_cases hb : b = x
  · subst hb; rw [upd_same] at q; cases q; exact new
  · rw [upd_ne hb] at q
    by_cases hbe : b = e
    · have q' : H b = some (.own x) := by
        rcases he with z | z
        · exact absurd (hbe.trans z) hb
        · rw [hbe]; exact z
      rw [q] at q'; cases q'
      obtain ⟨v, hv⟩ := heo
      exact ⟨v, by rw [hbe]; exact hv⟩
    · refine (ok b u q).stay (fun c v hc r => k c v ?_ r) (fun c r => by rw [upd_ne (nown c b r)]; exact r) fun c xs r => by rw [upd_ne (ntup c xs r)]; exact r
      rcases hc with rfl | hc
      · exact hbe
      · rintro rfl
        rcases he with z | z
        · exact nown c b hc z
        · rw [hc] at z; cases z; exact hb rfl
end

/-! ### kept unless tracked; of the frames at fs (the callers') the slots may change (an exception that passes writes there); of the records at ex (iterators) nothing is said -/
structure Un (fs ex : List Addr) (H H' : Hp) (h h' : Heap) : Prop where
  keep : ∀ b o, h.get? b = some o → H b = none → b ∉ fs → b ∉ ex → h'.get? b = some o
  slot : ∀ b o, h.get? b = some o → H b = none → b ∈ fs → b ∉ ex → ∃ sl, h'.get? b = some { o with slots := sl }
  free : ∀ b o, h.get? b = some o → H b = none → b ∉ ex → H' b = none
  there : ∀ b o, h.get? b = some o → b ∉ ex → ∃ o', h'.get? b = some o'
  tups : ∀ b xs, H b = some (.tup xs) → H' b = some (.tup xs)
  frzs : ∀ b o u, H b = some (.frz o u) → H' b = some (.frz o u)
  tbls : ∀ b ps, H b = some (.tbl ps) → ∃ more, H' b = some (.tbl (ps ++ more))
section
variable {fs fs' ex ex' : List Addr} {H H1 H2 : Hp} {h h1 h2 h' : Heap} {a x e : Addr} {o : HO}
theorem Un.any (u : Un fs ex H H1 h h1) {b : Addr} {ob : Obj} (q : h.get? b = some ob) (n : H b = none) (hx : b ∉ ex) : ∃ sl, h1.get? b = some { ob with slots := sl } := by
  by_cases hb : b ∈ fs
  · exact u.slot b ob q n hb hx
  · exact ⟨ob.slots, u.keep b ob q n hb hx⟩
theorem Un.trans (a : Un fs ex H H1 h h1) (b : Un fs ex H1 H2 h1 h2) : Un fs ex H H2 h h2 where
  keep := fun c ob q n hc hx => b.keep c ob (a.keep c ob q n hc hx) (a.free c ob q n hx) hc hx
  slot := fun c ob q n hc hx => by
    obtain ⟨sl, e1⟩ := a.slot c ob q n hc hx
    obtain ⟨sl', e2⟩ := b.slot c _ e1 (a.free c ob q n hx) hc hx
    exact ⟨sl', e2⟩
  free := fun c ob q n hx => by
    obtain ⟨o', e1⟩ := a.there c ob q hx
    exact b.free c o' e1 (a.free c ob q n hx) hx
  there := fun c ob q hx => by
    obtain ⟨o', e1⟩ := a.there c ob q hx
    exact b.there c o' e1 hx
  tups := fun c xs q => b.tups c xs (a.tups c xs q)
  frzs := fun c ob xs q => b.frzs c ob xs (a.frzs c ob xs q)
  tbls := fun c ps q => by
    obtain ⟨m1, e1⟩ := a.tbls c ps q
    obtain ⟨m2, e2⟩ := b.tbls c _ e1
    exact ⟨m1 ++ m2, by rw [e2, Array.append_assoc]⟩
theorem Un.kept (k : ∀ b u, h.get? b = some u → h'.get? b = some u) : Un fs ex H H h h' :=
  ⟨fun b ob q _ _ _ => k b ob q, fun b ob q _ _ _ => ⟨ob.slots, k b ob q⟩, fun _ _ _ n _ => n, fun b ob q _ => ⟨ob, k b ob q⟩, fun _ _ q => q, fun _ _ _ q => q, fun _ ps q => ⟨#[], by rw [q]; simp⟩⟩
theorem Un.refl : Un fs ex H H h h := Un.kept fun _ _ q => q
theorem Un.laid (k : ∀ b u, h.get? b = some u → h'.get? b = some u) (hp : h.objs.size ≤ a) (hn : H a = none) : Un fs ex H (upd H a o) h h' where
  keep := fun b u q _ _ _ => k b u q
  slot := fun b u q _ _ _ => ⟨u.slots, k b u q⟩
  free := fun b u q n _ => by rw [upd_ne (Nat.ne_of_lt (Nat.lt_of_lt_of_le (Heap.lt_size q) hp))]; exact n
  there := fun b u q _ => ⟨u, k b u q⟩
  tups := fun b xs q => by rw [upd_ne (ne_of_none q hn)]; exact q
  frzs := fun b u xs q => by rw [upd_ne (ne_of_none q hn)]; exact q
  tbls := fun b ps q => ⟨#[], by rw [upd_ne (ne_of_none q hn), q]; simp⟩
theorem Un.write (mu : Mut (H x)) (he : e = x ∨ H e = some (.own x)) (k : ∀ b u, b ≠ e → h.get? b = some u → h'.get? b = some u) (heo : ∃ u, h'.get? e = some u) : Un fs ex H (upd H x o) h h' := by
  have hx : ∀ b, H b = none → b ≠ x := fun b n z => by subst z; rw [n] at mu; exact mu
  have hb : ∀ b, H b = none → b ≠ e := fun b n z => by
    subst z
    rcases he with r | r
    · exact hx b n r
    · rw [n] at r; cases r
  have hm : ∀ b u, H b = some u → ¬ Mut (some u) → b ≠ x := fun b u q nm z => by subst z; rw [q] at mu; exact nm mu
  refine ⟨fun b u q n _ _ => k b u (hb b n) q, fun b u q n _ _ => ⟨u.slots, k b u (hb b n) q⟩, fun b u q n _ => by rw [upd_ne (hx b n)]; exact n, fun b u q _ => ?_,
    fun b xs q => by rw [upd_ne (hm b _ q fun z => z)]; exact q, fun b u xs q => by rw [upd_ne (hm b _ q fun z => z)]; exact q, fun b ps q => ⟨#[], by rw [upd_ne (hm b _ q fun z => z), q]; simp⟩⟩
  by_cases hbe : b = e
  · subst hbe; exact heo
  · exact ⟨u, k b u hbe q⟩
theorem Un.mono (u : Un fs ex H H1 h h1) (hs : ∀ b ∈ fs, b ∈ fs') (hx : ∀ b ∈ ex, b ∈ ex') : Un fs' ex' H H1 h h1 :=
  ⟨fun b ob q n hb he => u.keep b ob q n (fun z => hb (hs b z)) fun z => he (hx b z), fun _ _ q n _ he => u.any q n fun z => he (hx _ z), fun b ob q n he => u.free b ob q n fun z => he (hx b z), fun b ob q he => u.there b ob q fun z => he (hx b z), u.tups, u.frzs, u.tbls⟩
end

/-! ### the heap without what is tracked -/
def trk (h : Heap) (H : Hp) : List Addr := (List.range h.objs.size).filter fun a => (H a).isSome
def hidT (h : Heap) (H : Hp) : Heap := PySem.W.hideAll h (trk h H)
theorem hidT_size (h : Heap) (H : Hp) : (hidT h H).objs.size = h.objs.size := PySem.W.hideAll_size _ _
theorem hidT_get {h : Heap} {H : Hp} {b : Addr} {o : Obj} (e : h.get? b = some o) (n : H b = none) : (hidT h H).get? b = some o :=
  PySem.W.hideAll_get _ e fun hm => by
    have q : (H b).isSome = true := (List.mem_filter.mp hm).2
    rw [n] at q; simp at q
theorem of_hidT {h : Heap} {H : Hp} {b : Addr} {o : Obj} (e : (hidT h H).get? b = some o) : h.get? b = some o ∧ H b = none := by
  have e' : h.get? b = some o := PySem.W.of_hideAll (trk h H) e
  refine ⟨e', ?_⟩
  cases q : H b with
  | none => rfl
  | some x =>
    have hm : b ∈ trk h H := List.mem_filter.mpr ⟨List.mem_range.mpr (Heap.lt_size e'), by simp [q]⟩
    have z : (hidT h H).get? b = none := PySem.W.hideAll_none (trk h H) hm
    rw [z] at e; cases e

/-! ### OpenK's ledger, filled with every new object but one -/
def allNews (g h : Heap) (L : Addr) : List (Addr × Obj) := (List.range h.objs.size).filterMap fun a => if a = L ∨ (g.get? a).isSome = true then none else (h.get? a).map fun o => (a, o)
def rest (g h : Heap) (L d : Addr) : List (Addr × Obj) := (allNews g h L).filter fun p => decide (p.1 ≠ d)
end L2

namespace L2
open PySem PySem.Spec PyProof.Rows

/-- the module's facts, over the base: the heap at the law's entry without what is tracked there -/
structure Mod (K : PySem.W.Frag) (mg : Str → Option Value) (base : Heap) : Prop where
  kin : K.In base
  glob : base.Ns mainGlobals mg
  blt : ∃ mb, base.Ns builtinsNs mb ∧ ∀ x : Str, x ≠ "__name__" → mb x = bootBuiltins x
  nolimit : base.NoLimit

/-- the context: a def's body (or a comprehension's block) running. base: fixed through the whole law; s₀, H₀: the entry; outer: the frames whose slots others may change (a def's callers); stack: all frames that run;
   ex: iterators that were made ahead of the entry and are walked here (a comprehension's); fn: the names whose cells were made at the entry (a def: all; a comprehension's block: its own); calm: not within an except suite; pn: pins that every state bears; xe: what is wanted of an exception that leaves the code -/
structure Cx where
  prog : Program
  w : World
  K : PySem.W.Frag
  mg : Str → Option Value
  base : Heap
  A : Around
  N : List Str
  s₀ : Shared
  H₀ : Hp
  env : Env
  outer : List Env
  stack : List Env
  ex : List Addr
  fn : Str → Bool
  calm : Bool
  pn : List (Addr × Obj)
  xe : Value → Shared → Prop
/-- the callers' frames -/
def frs (l : List Env) : List Addr := l.filterMap (·.frame)
abbrev Cx.fs (X : Cx) : List Addr := frs X.outer

def Vis (sc : Scope) (x : Str) : Prop := sc.names.lookup x = some .local ∨ sc.names.lookup x = some .cell ∨ sc.names.lookup x = some .free
def Loc (sc : Scope) (x : Str) : Prop := sc.names.lookup x = some .local ∨ sc.names.lookup x = some .cell
def Look (env : Env) (h : Heap) (m : Str → Option Value) (x : Str) (u : Value) : Prop :=
  (env.kindOf x = some .local ∧ m x = some u) ∨ ((env.kindOf x = some .cell ∨ env.kindOf x = some .free) ∧ ∃ c, env.cells.lookup x = some c ∧ h.IsCell c (some u))

structure Cx.Ok (X : Cx) : Prop where
  mod : Mod X.K X.mg X.base
  kind : X.env.scope.kind = .function
  glob : X.env.globals = mainGlobals
  blt : X.env.builtins = builtinsNs
  above : X.s₀.heap.objs.size ≤ X.env.locals
  inj : ∀ x y c, X.env.cells.lookup x = some c → X.env.cells.lookup y = some c → x = y
  has : ∀ x, (X.env.kindOf x = some .cell ∨ X.env.kindOf x = some .free) → ∃ c, X.env.cells.lookup x = some c
  cab : ∀ x c, X.fn x = true → X.env.cells.lookup x = some c → X.s₀.heap.objs.size ≤ c
  hd : X.calm = true → X.A.handled = none
  frames : X.A.frames = some X.stack
  stk : X.stack = X.outer ∨ (X.stack = X.env :: X.outer ∧ X.env.frame = some X.env.locals)
  exf : ∀ b ∈ X.ex, b ≠ X.env.locals ∧ ∀ x c, X.env.cells.lookup x = some c → c ≠ b
  bs : ∀ b o, X.base.get? b = some o → X.s₀.heap.get? b = some o ∧ X.H₀ b = none
  bsz : X.base.objs.size ≤ X.s₀.heap.objs.size
  noex : ∀ b o, X.base.get? b = some o → b ∉ X.ex
  exfs : ∀ b ∈ X.ex, b ∉ X.fs
  funs : X.s₀.heap.FunFrames X.base X.outer
  frf : ∀ b ∈ X.fs, X.H₀ b = none

structure Inv (X : Cx) (pins : List (Addr × Obj)) (σ : List (Option V)) (H : Hp) (s : Shared) : Prop where
  ok : X.Ok
  os : s.os = X.s₀.os
  bare : AllBare s.gens
  base : Un X.fs X.ex X.H₀ H X.s₀.heap s.heap
  loc : ∃ m, s.heap.Ns X.env.locals m ∧ ∀ (i : Nat) (x : Str) (v : V), X.N[i]? = some x → σ[i]? = some (some v) → Vis X.env.scope x → ∃ u, RelV v u ∧ Look X.env s.heap m x u
  cell : ∀ x c, X.env.cells.lookup x = some c → ∃ v, s.heap.IsCell c v
  free : H X.env.locals = none
  freeC : ∀ x c, X.env.cells.lookup x = some c → H c = none
  pin : ∀ p ∈ X.pn ++ pins, s.heap.get? p.1 = some p.2 ∧ H p.1 = none ∧ p.1 ≠ X.env.locals ∧ p.1 ∉ X.fs ∧ ∀ v, p.2.data ≠ .cell v
  hok : HOk X.prog X.w H s.heap
  len : σ.length = X.N.length

section
variable {X : Cx} {pins : List (Addr × Obj)} {σ : List (Option V)} {H H' : Hp} {s : Shared} {h' : Heap}

theorem Cx.Ok.nofr (ok : X.Ok) {b : Addr} {o : Obj} (e : X.base.get? b = some o) : b ∉ X.fs := fun hb => by
  have := (ok.funs.mem hb).1
  rw [e] at this; cases this
theorem Inv.bs (I : Inv X pins σ H s) : ∀ b o, X.base.get? b = some o → s.heap.get? b = some o ∧ H b = none := fun b o e =>
  ⟨I.base.keep b o (I.ok.bs b o e).1 (I.ok.bs b o e).2 (I.ok.nofr e) (I.ok.noex b o e), I.base.free b o (I.ok.bs b o e).1 (I.ok.bs b o e).2 (I.ok.noex b o e)⟩
theorem Inv.bk (I : Inv X pins σ H s) : ∀ b o, X.base.get? b = some o → s.heap.get? b = some o := fun b o e => (I.bs b o e).1
theorem Inv.mod (I : Inv X pins σ H s) : Mod X.K X.mg X.base := I.ok.mod
theorem Inv.kIn (I : Inv X pins σ H s) : X.K.In s.heap := I.ok.mod.kin.keeps I.bk
theorem Inv.nolimit (I : Inv X pins σ H s) : s.heap.NoLimit := I.ok.mod.nolimit.keeps I.bk
theorem Inv.lt (I : Inv X pins σ H s) : X.env.locals < s.heap.objs.size := let ⟨_, hn, _⟩ := I.loc; hn.lt
theorem Inv.sz (I : Inv X pins σ H s) : X.s₀.heap.objs.size ≤ s.heap.objs.size := Nat.le_trans I.ok.above (Nat.le_of_lt I.lt)
theorem Inv.nofs (I : Inv X pins σ H s) {a : Addr} (h : s.heap.objs.size ≤ a) : a ∉ X.fs := fun hb => by
  obtain ⟨_, o, ho, _⟩ := I.ok.funs.mem hb
  exact absurd (Nat.lt_of_lt_of_le (Heap.lt_size ho) (Nat.le_trans I.sz h)) (Nat.lt_irrefl _)
theorem Inv.cne (I : Inv X pins σ H s) : ∀ x c, X.env.cells.lookup x = some c → c ≠ X.env.locals := fun x c e z => by
  obtain ⟨v, o, ho, hd⟩ := I.cell x c e
  obtain ⟨m, ⟨o', es, ep, ho', hd', _⟩, _⟩ := I.loc
  rw [z, ho'] at ho; cases ho; rw [hd'] at hd; cases hd
theorem Inv.funs (I : Inv X pins σ H s) : s.heap.FunFrames X.base X.outer := by
  have all : ∀ (l : List Env), (∀ b ∈ frs l, b ∈ X.fs) → X.s₀.heap.FunFrames X.base l → s.heap.FunFrames X.base l := by
    intro l
    induction l with
    | nil => intro _ _; trivial
    | cons env r ih =>
      intro hs hl
      obtain ⟨hk, ⟨L, o, hf, hn, ho, hd⟩, hr⟩ := hl
      have hL : L ∈ X.fs := hs L (by unfold frs; rw [List.filterMap_cons, hf]; exact List.mem_cons_self)
      obtain ⟨sl, e⟩ := I.base.slot L o ho (I.ok.frf L hL) hL fun z => I.ok.exfs L z hL
      exact ⟨hk, ⟨L, _, hf, hn, e, hd⟩, ih (fun b hb => hs b (by unfold frs; rw [List.filterMap_cons, hf]; exact List.mem_cons_of_mem _ hb)) hr⟩
  exact all X.outer (fun _ hb => hb) I.ok.funs

/-- the frames that run, for a call -/
theorem Inv.stack (I : Inv X pins σ H s) : s.heap.FunFrames X.base X.stack := by
  rcases I.ok.stk with e | ⟨e, hf⟩
  · rw [e]; exact I.funs
  · rw [e]
    obtain ⟨m, hn, _⟩ := I.loc
    refine .cons (by rw [I.ok.kind]; decide) hf hn ?_ I.funs
    exact Heap.get?_none_of_le (Nat.le_trans I.ok.bsz I.ok.above)
theorem Inv.stkSub (I : Inv X pins σ H s) : ∀ b ∈ frs X.stack, b ∈ X.env.locals :: X.fs := fun b hb => by
  rcases I.ok.stk with e | ⟨e, hf⟩
  · rw [e] at hb; exact List.mem_cons_of_mem _ hb
  · rw [e] at hb
    unfold frs at hb
    rw [List.filterMap_cons, hf] at hb
    exact hb
theorem Inv.stkFree (I : Inv X pins σ H s) : ∀ b ∈ frs X.stack, H b = none := fun b hb => by
  rcases List.mem_cons.mp (I.stkSub b hb) with e | hb
  · rw [e]; exact I.free
  · obtain ⟨_, o, ho, _⟩ := I.ok.funs.mem hb
    exact I.base.free b o ho (I.ok.frf b hb) fun z => I.ok.exfs b z hb

/-- THE STEP: the untracked objects but the frame and the records at ch are kept (the callers' frames up to slots), the frame's map is kept, the new abstract heap is held -/
theorem Inv.step {g' : Array GenState} {t' : Nat} {d' : Drawn} {ch : List Addr} (I : Inv X pins σ H s)
    (hch : ∀ b ∈ ch, (b ∈ X.ex ∨ X.s₀.heap.objs.size ≤ b) ∧ b ≠ X.env.locals ∧ (∀ x c, X.env.cells.lookup x = some c → c ≠ b) ∧ ∀ p ∈ X.pn ++ pins, p.1 ≠ b)
    (keep : ∀ b o, b ≠ X.env.locals → b ∉ X.fs → b ∉ ch → s.heap.get? b = some o → H b = none → h'.get? b = some o)
    (slot : ∀ b o, b ≠ X.env.locals → b ∈ X.fs → b ∉ ch → s.heap.get? b = some o → H b = none → ∃ sl, h'.get? b = some { o with slots := sl }) (free : ∀ b o, b ∉ ch → s.heap.get? b = some o → H b = none → H' b = none)
    (there : ∀ b o, b ∉ ch → s.heap.get? b = some o → ∃ o', h'.get? b = some o')
    (tups : ∀ b xs, H b = some (.tup xs) → H' b = some (.tup xs)) (frzs : ∀ b o u, H b = some (.frz o u) → H' b = some (.frz o u)) (tbls : ∀ b ps, H b = some (.tbl ps) → ∃ more, H' b = some (.tbl (ps ++ more)))
    (ns : ∀ m, s.heap.Ns X.env.locals m → h'.Ns X.env.locals m) (hok : HOk X.prog X.w H' h') (hg : AllBare g') :
    Inv X pins σ H' { s with heap := h', gens := g', drawn := d', toks := t' } := by
  have neL : ∀ b o, X.s₀.heap.get? b = some o → b ≠ X.env.locals := fun b o e => Nat.ne_of_lt (Nat.lt_of_lt_of_le (Heap.lt_size e) I.ok.above)
  have neC : ∀ b o, X.s₀.heap.get? b = some o → b ∉ X.ex → b ∉ ch := fun b o e hx hb => by
    rcases (hch b hb).1 with z | z
    · exact hx z
    · exact absurd (Nat.lt_of_lt_of_le (Heap.lt_size e) z) (Nat.lt_irrefl _)
  have cellK : ∀ x c, X.env.cells.lookup x = some c → ∀ v, s.heap.IsCell c v → h'.IsCell c v := fun x c e v ⟨o, ho, hd⟩ => by
    have nch : c ∉ ch := fun z => (hch c z).2.2.1 x c e rfl
    by_cases hc : c ∈ X.fs
    · obtain ⟨sl, q⟩ := slot c o (I.cne x c e) hc nch ho (I.freeC x c e)
      exact ⟨_, q, hd⟩
    · exact ⟨o, keep c o (I.cne x c e) hc nch ho (I.freeC x c e), hd⟩
  refine ⟨I.ok, I.os, hg, ⟨fun b o e n hb hx => ?_, fun b o e n hb hx => ?_, fun b o e n hx => ?_, fun b o e hx => ?_, fun b xs e => tups b xs (I.base.tups b xs e), fun b o xs e => frzs b o xs (I.base.frzs b o xs e), fun b ps e => ?_⟩, ?_, fun x c e => ?_, ?_, fun x c e => ?_, fun p hp => ?_, hok, I.len⟩
  · exact keep b o (neL b o e) hb (neC b o e hx) (I.base.keep b o e n hb hx) (I.base.free b o e n hx)
  · obtain ⟨sl, e1⟩ := I.base.slot b o e n hb hx
    obtain ⟨sl', e2⟩ := slot b _ (neL b o e) hb (neC b o e hx) e1 (I.base.free b o e n hx)
    exact ⟨sl', e2⟩
  · obtain ⟨o', e1⟩ := I.base.there b o e hx
    exact free b o' (neC b o e hx) e1 (I.base.free b o e n hx)
  · obtain ⟨o', e1⟩ := I.base.there b o e hx
    exact there b o' (neC b o e hx) e1
  · obtain ⟨m1, e1⟩ := I.base.tbls b ps e
    obtain ⟨m2, e2⟩ := tbls b _ e1
    exact ⟨m1 ++ m2, by rw [e2, Array.append_assoc]⟩
  · obtain ⟨m, hn, hl⟩ := I.loc
    refine ⟨m, ns m hn, fun i x v e1 e2 e3 => ?_⟩
    obtain ⟨u, r, l⟩ := hl i x v e1 e2 e3
    refine ⟨u, r, ?_⟩
    rcases l with l | ⟨k, c, e, z⟩
    · exact .inl l
    · exact .inr ⟨k, c, e, cellK x c e _ z⟩
  · obtain ⟨v, z⟩ := I.cell x c e
    exact ⟨v, cellK x c e v z⟩
  · obtain ⟨m, ⟨o, _, _, ho, _⟩, _⟩ := I.loc
    exact free _ o (fun z => (hch _ z).2.1 rfl) ho I.free
  · obtain ⟨v, o, ho, hd⟩ := I.cell x c e
    exact free c o (fun z => (hch c z).2.2.1 x c e rfl) ho (I.freeC x c e)
  · obtain ⟨e, n, ne, nf, d⟩ := I.pin p hp
    have nch : p.1 ∉ ch := fun z => (hch p.1 z).2.2.2 p hp rfl
    exact ⟨keep p.1 p.2 ne nf nch e n, free p.1 p.2 nch e n, ne, nf, d⟩
/-- .. where the frame's own object is kept too -/
theorem Inv.un {t' : Nat} (I : Inv X pins σ H s) (u : Un X.fs [] H H' s.heap h') (hok : HOk X.prog X.w H' h') : Inv X pins σ H' { s with heap := h', toks := t' } := by
  obtain ⟨m, ⟨o, es, ep, ho, r⟩, _⟩ := id I.loc
  obtain ⟨sl, hL⟩ := u.any ho I.free (by simp)
  exact I.step (g' := s.gens) (d' := s.drawn) (ch := []) (fun _ z => nomatch z) (fun b o _ hb _ e n => u.keep b o e n hb (by simp)) (fun b o _ hb _ e n => u.slot b o e n hb (by simp)) (fun b o _ e n => u.free b o e n (by simp)) (fun b o _ e => u.there b o e (by simp)) u.tups u.frzs u.tbls (fun m' hm => by
    obtain ⟨o', es', ep', ho', r'⟩ := hm
    rw [ho] at ho'; cases ho'
    exact ⟨_, es', ep', hL, r'⟩) hok I.bare
/-- behind a call (or a comprehension's block): the slots of this frame may have changed too, the records at ch may have turned -/
theorem Inv.call {g' : Array GenState} {t' : Nat} {d' : Drawn} {ch : List Addr} (I : Inv X pins σ H s) (u : Un (frs X.stack) ch H H' s.heap h') (hok : HOk X.prog X.w H' h') (hg : AllBare g')
    (hch : ∀ b ∈ ch, (b ∈ X.ex ∨ X.s₀.heap.objs.size ≤ b) ∧ b ≠ X.env.locals ∧ (∀ x c, X.env.cells.lookup x = some c → c ≠ b) ∧ ∀ p ∈ X.pn ++ pins, p.1 ≠ b) :
    Inv X pins σ H' { s with heap := h', gens := g', drawn := d', toks := t' } := by
  obtain ⟨m, ⟨o, es, ep, ho, r⟩, _⟩ := id I.loc
  obtain ⟨sl, hL⟩ := u.any ho I.free fun z => (hch _ z).2.1 rfl
  exact I.step (ch := ch) hch (fun b o hL hb hc e n => u.keep b o e n (fun z => (List.mem_cons.mp (I.stkSub b z)).elim hL hb) hc) (fun b o _ _ hc e n => u.any e n hc) (fun b o hc e n => u.free b o e n hc) (fun b o hc e => u.there b o e hc) u.tups u.frzs u.tbls (fun m' hm => by
    obtain ⟨o', es', ep', ho', r'⟩ := hm
    rw [ho] at ho'; cases ho'
    exact ⟨_, es', ep', hL, r'⟩) hok hg
/-- an untracked record of ours (an iterator) has turned -/
theorem Inv.turned {t' : Nat} {it : Addr} (I : Inv X pins σ H s) (k : ∀ b o, b ≠ it → s.heap.get? b = some o → h'.get? b = some o) (hn : H it = none) (hL : it ≠ X.env.locals)
    (h1 : it ∈ X.ex ∨ X.s₀.heap.objs.size ≤ it) (h2 : ∀ x c, X.env.cells.lookup x = some c → c ≠ it) (h3 : ∀ p ∈ X.pn ++ pins, p.1 ≠ it) : Inv X pins σ H { s with heap := h', toks := t' } := by
  have nit : ∀ b u, H b = some u → b ≠ it := fun b u e z => by rw [z, hn] at e; cases e
  refine I.step (g' := s.gens) (d' := s.drawn) (ch := [it]) (fun b hb => ?_) (fun b o _ _ hc e _ => k b o (fun z => hc (by simp [z])) e) (fun b o _ _ hc e _ => ⟨o.slots, k b o (fun z => hc (by simp [z])) e⟩) (fun _ _ _ _ n => n)
    (fun b o hc e => ⟨o, k b o (fun z => hc (by simp [z])) e⟩) (fun _ _ e => e) (fun _ _ _ e => e) (fun b ps e => ⟨#[], by rw [e]; simp⟩) (fun m hm => ?_) (fun b u e => ?_) I.bare
  · have e : b = it := by simpa using hb
    subst e
    exact ⟨h1, hL, h2, h3⟩
  · obtain ⟨o, es, ep, ho, r⟩ := hm
    exact ⟨o, es, ep, k _ o (Ne.symm hL) ho, r⟩
  · refine (I.hok b u e).stay (fun c v hc q => k c v ?_ q) (fun _ q => q) fun _ _ q => q
    rcases hc with z | z
    · rw [z]; exact nit b u e
    · exact nit c _ z
theorem Inv.tok (I : Inv X pins σ H s) (t : Nat) : Inv X pins σ H { s with toks := t } := I.un (h' := s.heap) (t' := t) Un.refl I.hok
/-- all objects kept -/
theorem Inv.kept {t' : Nat} (I : Inv X pins σ H s) (k : ∀ b u, s.heap.get? b = some u → h'.get? b = some u) : Inv X pins σ H { s with heap := h', toks := t' } := I.un (Un.kept k) (I.hok.kept k)
/-- a new object laid and tracked -/
theorem Inv.laid {a : Addr} {o : HO} {t' : Nat} (I : Inv X pins σ H s) (k : ∀ b u, s.heap.get? b = some u → h'.get? b = some u) (hp : s.heap.objs.size ≤ a) (new : ObjOk X.prog X.w (upd H a o) h' a o) :
    Inv X pins σ (upd H a o) { s with heap := h', toks := t' } := I.un (Un.laid k hp (I.hok.fresh hp)) (I.hok.laid k hp new)
/-- an object written -/
theorem Inv.write {x e : Addr} {o : HO} {t' : Nat} (I : Inv X pins σ H s) (mu : Mut (H x)) (he : e = x ∨ H e = some (.own x)) (k : ∀ b u, b ≠ e → s.heap.get? b = some u → h'.get? b = some u) (heo : ∃ u, h'.get? e = some u)
    (new : ObjOk X.prog X.w (upd H x o) h' x o) : Inv X pins σ (upd H x o) { s with heap := h', toks := t' } := I.un (Un.write mu he k heo) (I.hok.write mu he k heo new)
theorem Inv.pins_of {pins' : List (Addr × Obj)} (I : Inv X pins σ H s) (h : ∀ p ∈ pins', s.heap.get? p.1 = some p.2 ∧ H p.1 = none ∧ p.1 ≠ X.env.locals ∧ p.1 ∉ X.fs ∧ ∀ v, p.2.data ≠ .cell v) : Inv X pins' σ H s :=
  ⟨I.ok, I.os, I.bare, I.base, I.loc, I.cell, I.free, I.freeC, fun p hp => (List.mem_append.mp hp).elim (fun z => I.pin p (List.mem_append_left _ z)) (h p), I.hok, I.len⟩

theorem nodup_ix {N : List Str} (hN : N.Nodup) {i j : Nat} {x : Str} (a : N[i]? = some x) (b : N[j]? = some x) : i = j := by
  obtain ⟨h1, e1⟩ := List.getElem?_eq_some_iff.mp a
  obtain ⟨h2, e2⟩ := List.getElem?_eq_some_iff.mp b
  exact (List.getElem_inj hN).mp (e1.trans e2.symm)

/-- a name is stored; what changed -/
theorem store_ok2 {M : Model} {A : Around} {E : Value → Shared → Prop} {i : Nat} {x : Str} {v : V} {u : Value} {Q : Unit → Shared → Prop} (I : Inv X pins σ H s) (hN : X.N.Nodup) (hi : X.N[i]? = some x) (hx : Loc X.env.scope x) (r : RelV v u)
    (h : ∀ s', Inv X pins (σ.set i (some v)) H s' → (∃ a, Heap.SameBut a s.heap s'.heap ∧ (a = X.env.locals ∨ X.env.cells.lookup x = some a)) → Q () s') (hf : X.fn x = true ∨ X.env.scope.names.lookup x = some .local := by first | exact .inl rfl | exact .inr rfl | assumption) : wpAny M A (storeName X.env x u) Q E s := by
  obtain ⟨m, hn, hl⟩ := id I.loc
  have hcls : (X.env.scope.kind == .class || (X.env.scope.kind == .module && X.env.locals != X.env.globals)) = false := by rw [I.ok.kind]; rfl
  have hiσ : i < σ.length := by rw [I.len]; exact (List.getElem?_eq_some_iff.mp hi).1
  have cne := I.cne
  have tracked : ∀ {a : Addr} {h' : Heap}, (∃ o, s.heap.get? a = some o ∧ H a = none) → Heap.SameBut a s.heap h' → HOk X.prog X.w H h' := fun {a h'} ha hs b ob e => by
    obtain ⟨_, _, hfree⟩ := ha
    refine (I.hok b ob e).stay (fun c w' hc q => (hs.2 c ?_).trans q) (fun _ q => q) fun _ _ q => q
    rintro rfl
    rcases hc with rfl | hc
    · rw [hfree] at e; cases e
    · rw [hfree] at hc; cases hc
  rcases hx with hk | hk
  · refine wpAny_storeName_local hk hn (fun h' hn' hs => ?_) hcls
    obtain ⟨oL, _, _, hoL, _⟩ := id hn
    refine h _ ⟨I.ok, I.os, I.bare, ⟨fun b o e n hb hx => ?_, fun b o e n hb hx => ?_, I.base.free, fun b o e hx => ?_, I.base.tups, I.base.frzs, I.base.tbls⟩, ⟨_, hn', fun j y v' e1 e2 e3 => ?_⟩, fun y c e => ?_, I.free, I.freeC, fun p hp => ?_, tracked ⟨oL, hoL, I.free⟩ hs, by simpa using I.len⟩ ⟨_, hs, .inl rfl⟩
    · exact (hs.2 b (Nat.ne_of_lt (Nat.lt_of_lt_of_le (Heap.lt_size e) I.ok.above))).trans (I.base.keep b o e n hb hx)
    · obtain ⟨sl, e1⟩ := I.base.slot b o e n hb hx
      exact ⟨sl, (hs.2 b (Nat.ne_of_lt (Nat.lt_of_lt_of_le (Heap.lt_size e) I.ok.above))).trans e1⟩
    · obtain ⟨o', e1⟩ := I.base.there b o e hx
      exact ⟨o', (hs.2 b (Nat.ne_of_lt (Nat.lt_of_lt_of_le (Heap.lt_size e) I.ok.above))).trans e1⟩
    · by_cases hj : j = i
      · subst hj
        rw [hi] at e1; cases e1
        rw [List.getElem?_set_self hiσ] at e2
        cases e2
        exact ⟨u, r, .inl ⟨hk, by simp⟩⟩
      · rw [List.getElem?_set_ne (Ne.symm hj)] at e2
        obtain ⟨u', r', q⟩ := hl j y v' e1 e2 e3
        refine ⟨u', r', ?_⟩
        rcases q with ⟨k, e⟩ | ⟨k, c, e, z⟩
        · refine .inl ⟨k, ?_⟩
          have : y ≠ x := fun e => hj (nodup_ix hN e1 (e ▸ hi))
          simp [this, e]
        · exact .inr ⟨k, c, e, z.sameBut hs (cne y c e)⟩
    · obtain ⟨w', z⟩ := I.cell y c e
      exact ⟨w', z.sameBut hs (cne y c e)⟩
    · obtain ⟨e, n, ne, nf, d⟩ := I.pin p hp
      exact ⟨(hs.2 p.1 ne).trans e, n, ne, nf, d⟩
  · have hfn : X.fn x = true := by
      rcases hf with z | z
      · exact z
      · rw [z] at hk; cases hk
    obtain ⟨c, hc⟩ := I.ok.has x (.inl hk)
    obtain ⟨w', z⟩ := I.cell x c hc
    refine wpAny_storeName_cell I.ok.kind hk hc z (fun h' hc' hs => ?_)
    obtain ⟨oc, hoc, hocd⟩ := id z
    refine h { s with heap := h' } ⟨I.ok, I.os, I.bare, ⟨fun b o e n hb hx => ?_, fun b o e n hb hx => ?_, I.base.free, fun b o e hx => ?_, I.base.tups, I.base.frzs, I.base.tbls⟩, ⟨m, hn.sameBut hs (Ne.symm (cne x c hc)), fun j y v' e1 e2 e3 => ?_⟩, fun y c' e => ?_, I.free, I.freeC, fun p hp => ?_, tracked ⟨oc, hoc, I.freeC x c hc⟩ hs, by simpa using I.len⟩ ⟨c, hs, .inr hc⟩
    · exact (hs.2 b (Nat.ne_of_lt (Nat.lt_of_lt_of_le (Heap.lt_size e) (I.ok.cab x c hfn hc)))).trans (I.base.keep b o e n hb hx)
    · obtain ⟨sl, e1⟩ := I.base.slot b o e n hb hx
      exact ⟨sl, (hs.2 b (Nat.ne_of_lt (Nat.lt_of_lt_of_le (Heap.lt_size e) (I.ok.cab x c hfn hc)))).trans e1⟩
    · obtain ⟨o', e1⟩ := I.base.there b o e hx
      exact ⟨o', (hs.2 b (Nat.ne_of_lt (Nat.lt_of_lt_of_le (Heap.lt_size e) (I.ok.cab x c hfn hc)))).trans e1⟩
    · by_cases hj : j = i
      · subst hj
        rw [hi] at e1; cases e1
        rw [List.getElem?_set_self hiσ] at e2
        cases e2
        exact ⟨u, r, .inr ⟨.inl hk, c, hc, hc'⟩⟩
      · rw [List.getElem?_set_ne (Ne.symm hj)] at e2
        obtain ⟨u', r', q⟩ := hl j y v' e1 e2 e3
        refine ⟨u', r', ?_⟩
        rcases q with q | ⟨k, c', e, z'⟩
        · exact .inl q
        · refine .inr ⟨k, c', e, z'.sameBut hs ?_⟩
          rintro rfl
          exact hj (nodup_ix hN e1 (I.ok.inj _ _ _ e hc ▸ hi))
    · by_cases hcc : c' = c
      · subst hcc; exact ⟨_, hc'⟩
      · obtain ⟨w2, z2⟩ := I.cell y c' e
        exact ⟨w2, z2.sameBut hs hcc⟩
    · obtain ⟨e, n, ne, nf, d⟩ := I.pin p hp
      refine ⟨(hs.2 p.1 ?_).trans e, n, ne, nf, d⟩
      intro q
      rw [q, hoc] at e
      have q' : oc = p.2 := Option.some.inj e
      exact d w' (by rw [← q']; exact hocd)
theorem store_ok {M : Model} {A : Around} {E : Value → Shared → Prop} {i : Nat} {x : Str} {v : V} {u : Value} {Q : Unit → Shared → Prop} (I : Inv X pins σ H s) (hN : X.N.Nodup) (hi : X.N[i]? = some x) (hx : Loc X.env.scope x) (r : RelV v u)
    (h : ∀ s', Inv X pins (σ.set i (some v)) H s' → Q () s') (hf : X.fn x = true ∨ X.env.scope.names.lookup x = some .local := by first | exact .inl rfl | exact .inr rfl | assumption) : wpAny M A (storeName X.env x u) Q E s :=
  store_ok2 I hN hi hx r (fun s' I' _ => h s' I') hf
/-- behind a call or a block, the state as it is -/
theorem Inv.call' {s' : Shared} {ch : List Addr} (I : Inv X pins σ H s) (ho : s'.os = s.os) (u : Un (frs X.stack) ch H H' s.heap s'.heap) (hok : HOk X.prog X.w H' s'.heap) (hg : AllBare s'.gens)
    (hch : ∀ b ∈ ch, (b ∈ X.ex ∨ X.s₀.heap.objs.size ≤ b) ∧ b ≠ X.env.locals ∧ (∀ x c, X.env.cells.lookup x = some c → c ≠ b) ∧ ∀ p ∈ X.pn ++ pins, p.1 ≠ b) : Inv X pins σ H' s' := by
  obtain ⟨h', g', d', t', o'⟩ := s'
  have e : o' = s.os := ho
  subst e
  exact I.call (g' := g') (t' := t') (d' := d') u hok hg hch
end

/-! ### the judgements -/
/-- an exception: its class, its own dict's address (where it has one), the abstract heap behind it -/
abbrev XK := Value → Option Addr → Hp → Prop
abbrev St := List (Option V)
abbrev VK := V → Hp → Prop
/-- an expression's reading; a test's; an argument list's -/
abbrev TE := St → Hp → VK → Prop
abbrev TT := St → Hp → (Bool → Hp → Prop) → Prop
abbrev TA := St → Hp → (List V → Hp → Prop) → Prop
/-- what is wanted behind a statement -/
structure Ends where
  nx : St → Hp → Prop
  rt : VK
  bk : St → Hp → Prop := fun _ _ => False
  ct : St → Hp → Prop := fun _ _ => False
abbrev TS := Ends → St → Hp → Prop

def EP (X : Cx) (pins : List (Addr × Obj)) (σ : St) (Q : VK) (u : Value) (s' : Shared) : Prop := ∃ v H', Inv X pins σ H' s' ∧ RelV v u ∧ Q v H'
def TP (X : Cx) (pins : List (Addr × Obj)) (σ : St) (Q : Bool → Hp → Prop) (b : Bool) (s' : Shared) : Prop := ∃ H', Inv X pins σ H' s' ∧ Q b H'
def AP (X : Cx) (pins : List (Addr × Obj)) (σ : St) (Q : List V → Hp → Prop) (us : List Value) (s' : Shared) : Prop := ∃ vs H', Inv X pins σ H' s' ∧ Vals vs us ∧ Q vs H'
def SP (X : Cx) (pins : List (Addr × Obj)) (D : Ends) (f : Flow) (s' : Shared) : Prop :=
  match f with
  | .next => ∃ σ' H', Inv X pins σ' H' s' ∧ D.nx σ' H'
  | .brk => ∃ σ' H', Inv X pins σ' H' s' ∧ D.bk σ' H'
  | .cont => ∃ σ' H', Inv X pins σ' H' s' ∧ D.ct σ' H'
  | .ret u => ∃ v σ' H', Inv X pins σ' H' s' ∧ RelV v u ∧ D.rt v H'

def PE (X : Cx) (e : Expr) (t : TE) : Prop :=
  ∀ (pins : List (Addr × Obj)) (s : Shared) (σ : St) (H : Hp) (Q : VK), Inv X pins σ H s → t σ H Q → wpAny (model X.prog X.w) X.A (eval e X.env) (EP X pins σ Q) X.xe s
def PT (X : Cx) (e : Expr) (t : TT) : Prop :=
  ∀ (pins : List (Addr × Obj)) (s : Shared) (σ : St) (H : Hp) (Q : Bool → Hp → Prop), Inv X pins σ H s → t σ H Q → wpAny (model X.prog X.w) X.A (isTrue e X.env (eval e X.env)) (TP X pins σ Q) X.xe s
/-- a test whatever its 'whole' is (and, or) -/
def PW (X : Cx) (e : Expr) (t : TT) : Prop :=
  ∀ (whole : Sem Value) (pins : List (Addr × Obj)) (s : Shared) (σ : St) (H : Hp) (Q : Bool → Hp → Prop), Inv X pins σ H s → t σ H Q → wpAny (model X.prog X.w) X.A (isTrue e X.env whole) (TP X pins σ Q) X.xe s
theorem PW.pt {X : Cx} {e : Expr} {t : TT} (h : PW X e t) : PT X e t := h _
/-- an argument list (no star), from the left -/
def PA (X : Cx) (es : List Expr) (t : TA) : Prop :=
  ∀ (pos : Pos) (pins : List (Addr × Obj)) (s : Shared) (σ : St) (H : Hp) (Q : List V → Hp → Prop), Inv X pins σ H s → t σ H Q → wpAny (model X.prog X.w) X.A (spliced (backTo pos (starEach es X.env))) (AP X pins σ Q) X.xe s
def PS (X : Cx) (st : Stmt) (t : TS) : Prop :=
  ∀ (pins : List (Addr × Obj)) (s : Shared) (σ : St) (H : Hp) (D : Ends), Inv X pins σ H s → t D σ H → wpAny (model X.prog X.w) X.A (exec st X.env) (SP X pins D) X.xe s
def PSs (X : Cx) (st : List Stmt) (t : TS) : Prop :=
  ∀ (pins : List (Addr × Obj)) (s : Shared) (σ : St) (H : Hp) (D : Ends), Inv X pins σ H s → t D σ H → wpAny (model X.prog X.w) X.A (execs st X.env) (SP X pins D) X.xe s
/-- weaken the end -/
theorem thn {α : Type} {t : Sem α} {Q Q' : α → Shared → Prop} {M : Model} {A : Around} {E : Value → Shared → Prop} {s : Shared} (h : wpAny M A t Q E s) (hQ : ∀ a s, Q a s → Q' a s) : wpAny M A t Q' E s := wpAny_mono h hQ fun _ _ x => x
end L2

namespace L2
open PySem PySem.Spec PyProof.Rows
section
variable {X : Cx}

/-! ### names and constants -/
def tVar (i : Nat) : TE := fun σ H Q => ∃ v, σ[i]? = some (some v) ∧ Q v H
def tC (v : V) : TE := fun _ H Q => Q v H
theorem pe_var {i : Nat} {x : Str} {pos : Pos} (hN : X.N[i]? = some x) (hv : Vis X.env.scope x) (hd : (x == ("__debug__" : Str)) = false := by decide) (hcd : (x == ("__classdict__" : Str)) = false := by decide) : PE X (.Name x pos) (tVar i) := by
  intro pins s σ H Q I h
  obtain ⟨v, e, h⟩ := h
  obtain ⟨m, hn, hl⟩ := I.loc
  obtain ⟨u, r, l⟩ := hl i x v hN e hv
  have fin : EP X pins σ Q u s := ⟨v, H, I, r, h⟩
  rcases l with ⟨hk, hm⟩ | ⟨hk, c, hc, hcell⟩
  · exact wpAny_Name (wpAny_loadName_local I.ok.kind hk hn hm fin) hd
  · rcases hk with hk | hk
    · exact wpAny_Name (wpAny_loadName_cell I.ok.kind hk hc hcell fin) hd
    · exact wpAny_Name (wpAny_loadName_free I.ok.kind hk hc hcell fin hcd) hd
theorem pe_int {i j pos} : PE X (.Constant (.int i) j pos) (tC (.int i)) := fun _ _ _ H _ I h => wpAny_Constant_int ⟨.int i, H, I.tok _, ⟨_, rfl⟩, h⟩
theorem pe_bl {b j pos} : PE X (.Constant (.bool b) j pos) (tC (.bl b)) := fun _ _ _ H _ I h => Constant_bool ⟨.bl b, H, I, rfl, h⟩
theorem pe_non {j pos} : PE X (.Constant .none j pos) (tC .non) := fun _ _ _ H _ I h => Constant_none ⟨.non, H, I, rfl, h⟩
theorem pe_str {x j pos} : PE X (.Constant (.str x) j pos) (tC (.str x)) := fun _ _ _ H _ I h => Calls.Constant_str ⟨.str x, H, I.tok _, ⟨_, rfl⟩, h⟩

/-- a global name of the def -/
def Gl (X : Cx) (x : Str) : Prop := X.env.kindOf x = some .globalImplicit
theorem ld_glob {E : Value → Shared → Prop} {pins : List (Addr × Obj)} {s : Shared} {σ : St} {H : Hp} {x : Str} {u : Value} {pos : Pos} {Q : Value → Shared → Prop} (I : Inv X pins σ H s) (hg : Gl X x) (hm : X.mg x = some u) (h : Q u s)
    (hd : (x == ("__debug__" : Str)) = false := by decide) : wpAny (model X.prog X.w) X.A (eval (.Name x pos) X.env) Q E s :=
  Calls.Name_function_global I.ok.kind hg (Calls.loadGlobal_global (by rw [I.ok.glob]; exact I.mod.glob.keeps I.bk) hm h) hd
theorem ld_blt {E : Value → Shared → Prop} {pins : List (Addr × Obj)} {s : Shared} {σ : St} {H : Hp} {x : Str} {u : Value} {pos : Pos} {Q : Value → Shared → Prop} (I : Inv X pins σ H s) (hg : Gl X x) (hm : X.mg x = none) (hv : bootBuiltins x = some u) (h : Q u s)
    (hn : x ≠ "__name__" := by decide) (hd : (x == ("__debug__" : Str)) = false := by decide) : wpAny (model X.prog X.w) X.A (eval (.Name x pos) X.env) Q E s := by
  obtain ⟨mb, h1, h2⟩ := I.mod.blt
  exact Calls.Name_function_global I.ok.kind hg (Calls.loadGlobal_builtin (by rw [I.ok.glob]; exact I.mod.glob.keeps I.bk) hm (by rw [I.ok.blt]; exact h1.keeps I.bk) ((h2 x hn).trans hv) h) hd
/-- a module's constant, a class, a function, as a value -/
theorem pe_glob {x : Str} {v : V} {u : Value} {pos : Pos} (hg : Gl X x) (hm : X.mg x = some u) (r : RelV v u) (hd : (x == ("__debug__" : Str)) = false := by decide) : PE X (.Name x pos) (tC v) :=
  fun _ _ _ H _ I h => ld_glob I hg hm ⟨v, H, I, r, h⟩ hd
theorem pe_bltn {x : Str} {v : V} {u : Value} {pos : Pos} (hg : Gl X x) (hm : X.mg x = none) (hv : bootBuiltins x = some u) (r : RelV v u) (hn : x ≠ "__name__" := by decide) (hd : (x == ("__debug__" : Str)) = false := by decide) : PE X (.Name x pos) (tC v) :=
  fun _ _ _ H _ I h => ld_blt I hg hm hv ⟨v, H, I, r, h⟩ hn hd

/-! ### arithmetic -/
variable {a b : Expr} {ta tb : TE} {pos : Pos}
/-! ### comparisons -/
/-- a comparison as a value, as a test -/
def tB (t : TE) : TT := fun σ H Q => t σ H fun x H1 => ∃ c, x = .bl c ∧ Q c H1
/-- an expression whose value is a bool, as a test -/
theorem pt_val {e : Expr} {t : TE} (h : PE X e t) (he : ∀ whole, isTrue e X.env whole = (do let v ← whole; standAt e.pos; holding [v] (truthy v)) := by intro _; rfl) : PT X e (tB t) := by
  intro pins s σ H Q I hw
  refine isTrue_plain (thn (h pins s σ H _ I hw) fun v s1 ⟨x, H1, I1, r1, q1⟩ => ?_) (he _)
  obtain ⟨d, rfl, q⟩ := q1
  cases r1
  exact wpAny_truthy_bool ⟨H1, I1, q⟩

/-! ### and, or, not -/
variable {tA tB' : TT} {rest : List Expr}
def tAnd (t u : TT) : TT := fun σ H Q => t σ H fun c H1 => if c = true then u σ H1 Q else Q false H1
def tOr (t u : TT) : TT := fun σ H Q => t σ H fun c H1 => if c = true then Q true H1 else u σ H1 Q
def tNot (t : TT) : TT := fun σ H Q => t σ H fun c H1 => Q (!c) H1
theorem pw_and1 (ha : PT X a tA) : PW X (.BoolOp .And [a] pos) tA := by
  intro wh pins s σ H Q I h
  refine isTrue_and (thn (ha pins s σ H Q I h) fun c s1 e => ?_)
  cases c with
  | true => exact isTrue_and_nil e
  | false => exact e
theorem pw_or1 (ha : PT X a tA) : PW X (.BoolOp .Or [a] pos) tA := by
  intro wh pins s σ H Q I h
  refine isTrue_or (thn (ha pins s σ H Q I h) fun c s1 e => ?_)
  cases c with
  | false => exact isTrue_or_nil e
  | true => exact e
theorem pw_and (ha : PT X a tA) (hb : PW X (.BoolOp .And (b :: rest) pos) tB') : PW X (.BoolOp .And (a :: b :: rest) pos) (tAnd tA tB') := by
  intro wh pins s σ H Q I h
  refine isTrue_and (thn (ha pins s σ H _ I h) fun c s1 ⟨H1, I1, q1⟩ => ?_)
  cases c with
  | true => exact hb wh pins s1 σ H1 Q I1 q1
  | false => exact ⟨H1, I1, q1⟩
theorem pw_or (ha : PT X a tA) (hb : PW X (.BoolOp .Or (b :: rest) pos) tB') : PW X (.BoolOp .Or (a :: b :: rest) pos) (tOr tA tB') := by
  intro wh pins s σ H Q I h
  refine isTrue_or (thn (ha pins s σ H _ I h) fun c s1 ⟨H1, I1, q1⟩ => ?_)
  cases c with
  | true => exact ⟨H1, I1, q1⟩
  | false => exact hb wh pins s1 σ H1 Q I1 q1
theorem pt_not (ha : PT X a tA) : PT X (.UnaryOp .Not a pos) (tNot tA) := by
  intro pins s σ H Q I h
  exact isTrue_not (ha pins s σ H (fun c H1 => Q (!c) H1) I h)
/-- .. as values (bools) -/
def tAndV (ta tb : TE) : TE := fun σ H Q => ta σ H fun x H1 => ∃ c, x = .bl c ∧ if c = true then tb σ H1 Q else Q (.bl false) H1
def tNotV (ta : TE) : TE := fun σ H Q => ta σ H fun x H1 => ∃ c, x = .bl c ∧ Q (.bl (!c)) H1
theorem pe_one {op} {t : TE} (h : PE X a t) : PE X (.BoolOp op [a] pos) t := fun pins s σ H Q I hw => BoolOp_one (h pins s σ H Q I hw)
theorem pe_and (ha : PE X a ta) (hb : PE X (.BoolOp .And (b :: rest) pos) tb) : PE X (.BoolOp .And (a :: b :: rest) pos) (tAndV ta tb) := by
  intro pins s σ H Q I h
  refine BoolOp_and (thn (ha pins s σ H _ I h) fun v s1 ⟨x, H1, I1, r1, q1⟩ => ?_)
  obtain ⟨c, rfl, q1⟩ := q1
  cases r1
  refine wpAny_truthy_bool ?_
  cases c with
  | true => exact hb pins s1 σ H1 Q I1 q1
  | false => exact ⟨.bl false, H1, I1, rfl, q1⟩
theorem pe_not (ha : PE X a ta) : PE X (.UnaryOp .Not a pos) (tNotV ta) := by
  intro pins s σ H Q I h
  refine UnaryOp_ (thn (ha pins s σ H _ I h) fun v s1 ⟨x, H1, I1, r1, q1⟩ => ?_)
  obtain ⟨c, rfl, q1⟩ := q1
  cases r1
  exact not_of (wpAny_truthy_bool ⟨.bl (!c), H1, I1, rfl, q1⟩)
end
end L2

namespace L2
open PySem PySem.Spec PyProof.Rows

/-! ### a list, a tuple that is read: tracked, frozen, or an object of the module -/
def SqL (K : PySem.W.Frag) (H : Hp) (a : Addr) (xs : List V) : Prop :=
  Rd H a (.lst xs) ∨
    ∃ (o : Obj) (its : Array Value) (n : Nat), K.lookup a = some o ∧ o.cls = .type "list" ∧ o.dict = none ∧ o.data = .seq its n ∧ its.size ≤ sizeLine ∧ Vals xs its.toList
def SqT (K : PySem.W.Frag) (H : Hp) (a : Addr) (xs : List V) : Prop :=
  Rd H a (.tup xs) ∨
    ∃ (o : Obj) (its : Array Value) (n : Nat), K.lookup a = some o ∧ o.cls = .type "tuple" ∧ o.data = .seq its n ∧ its.size ≤ sizeLine ∧ Vals xs its.toList
def absV : Value → Option V
  | .none => some .non
  | .bool b => some (.bl b)
  | .int i _ => some (.int i)
  | .str x _ => some (.str x)
  | .bytes b _ => some (.byt b)
  | .float b _ => some (.flt b)
  | .ref a => some (.ref a)
  | .type n => some (.ty n)
  | _ => none
theorem RelV.abs {x : V} {u : Value} (r : RelV x u) : absV u = some x := by
  cases x with
  | non => cases r; rfl
  | bl _ => cases r; rfl
  | int _ => obtain ⟨t, rfl⟩ := r; rfl
  | str _ => obtain ⟨t, rfl⟩ := r; rfl
  | byt _ => obtain ⟨t, rfl⟩ := r; rfl
  | flt _ => obtain ⟨t, rfl⟩ := r; rfl
  | ref _ => cases r; rfl
  | ty _ => cases r; rfl
theorem RelV.inj {x y : V} {u : Value} (r : RelV x u) (q : RelV y u) : x = y := Option.some.inj (r.abs.symm.trans q.abs)
theorem Vals.inj : ∀ {xs ys : List V} {us : List Value}, Vals xs us → Vals ys us → xs = ys
  | _, _, _, .nil, .nil => rfl
  | _, _, _, .cons r t, .cons r' t' => by rw [r.inj r', Vals.inj t t']
section
variable {X : Cx} {pins : List (Addr × Obj)} {σ : St} {H : Hp} {s : Shared} {a : Addr} {xs ys : List V}
theorem SqL.of {K : PySem.W.Frag} (h : H a = some (.lst xs)) : SqL K H a xs := .inl (.inl h)
theorem SqT.of {K : PySem.W.Frag} (h : H a = some (.tup xs)) : SqT K H a xs := .inl (.inl h)
theorem Inv.list (I : Inv X pins σ H s) (h : SqL X.K H a xs) : ∃ its : List Value, Vals xs its ∧ PlainL s.heap a its.toArray ∧ xs.length ≤ sizeLine := by
  rcases h with h | ⟨o, its, n, hk, hc, hd, hs, hz, r⟩
  · obtain ⟨z, its, n, r, e⟩ := h.ok I.hok
    exact ⟨its, r, ⟨_, n, e, rfl, rfl, rfl⟩, z⟩
  · refine ⟨its.toList, r, ⟨o, n, I.kIn a o hk, hc, hd, by simpa using hs⟩, ?_⟩
    have e := r.length
    simp only [Array.length_toList] at e
    omega
theorem Inv.tuple (I : Inv X pins σ H s) (h : SqT X.K H a xs) : ∃ its : List Value, Vals xs its ∧ IsTup s.heap a its.toArray ∧ xs.length ≤ sizeLine := by
  rcases h with h | ⟨o, its, n, hk, hc, hs, hz, r⟩
  · obtain ⟨z, its, r, p⟩ := h.ok I.hok
    exact ⟨its, r, p.tup, z⟩
  · refine ⟨its.toList, r, ⟨o, I.kIn a o hk, hc, n, by simpa using hs⟩, ?_⟩
    have e := r.length
    simp only [Array.length_toList] at e
    omega
theorem Inv.list_inj (I : Inv X pins σ H s) (h : SqL X.K H a xs) (h' : SqL X.K H a ys) : xs = ys := by
  obtain ⟨its, r, ⟨o, n, e, _, _, d⟩, _⟩ := I.list h
  obtain ⟨its', r', ⟨o', n', e', _, _, d'⟩, _⟩ := I.list h'
  rw [e] at e'; cases e'
  rw [d] at d'
  injection d' with d1 _
  have : its = its' := by simpa using congrArg Array.toList d1
  subst this
  exact r.inj r'
theorem Inv.tuple_inj (I : Inv X pins σ H s) (h : SqT X.K H a xs) (h' : SqT X.K H a ys) : xs = ys := by
  obtain ⟨its, r, ⟨o, e, _, n, d⟩, _⟩ := I.tuple h
  obtain ⟨its', r', ⟨o', e', _, n', d'⟩, _⟩ := I.tuple h'
  rw [e] at e'; cases e'
  rw [d] at d'
  injection d' with d1 _
  have : its = its' := by simpa using congrArg Array.toList d1
  subst this
  exact r.inj r'
end

/-! ### another wish about exceptions -/
abbrev Cx.wish (X : Cx) (E : Value → Shared → Prop) : Cx := { X with xe := E }
/-- no exception leaves -/
abbrev Cx.nox (X : Cx) : Cx := X.wish fun _ _ => False
theorem Cx.Ok.wish {X : Cx} (ok : X.Ok) (E : Value → Shared → Prop) : (X.wish E).Ok :=
  ⟨ok.mod, ok.kind, ok.glob, ok.blt, ok.above, ok.inj, ok.has, ok.cab, ok.hd, ok.frames, ok.stk, ok.exf, ok.bs, ok.bsz, ok.noex, ok.exfs, ok.funs, ok.frf⟩
theorem Cx.Ok.unwish {X : Cx} {E : Value → Shared → Prop} (ok : (X.wish E).Ok) : X.Ok :=
  ⟨ok.mod, ok.kind, ok.glob, ok.blt, ok.above, ok.inj, ok.has, ok.cab, ok.hd, ok.frames, ok.stk, ok.exf, ok.bs, ok.bsz, ok.noex, ok.exfs, ok.funs, ok.frf⟩
section
variable {X : Cx} {pins : List (Addr × Obj)} {σ : St} {H : Hp} {s : Shared} {E : Value → Shared → Prop}
theorem Inv.wish (I : Inv X pins σ H s) (E : Value → Shared → Prop) : Inv (X.wish E) pins σ H s := ⟨I.ok.wish E, I.os, I.bare, I.base, I.loc, I.cell, I.free, I.freeC, I.pin, I.hok, I.len⟩
theorem Inv.unwish (I : Inv (X.wish E) pins σ H s) : Inv X pins σ H s := ⟨I.ok.unwish, I.os, I.bare, I.base, I.loc, I.cell, I.free, I.freeC, I.pin, I.hok, I.len⟩
theorem SP.unwish {D : Ends} {f : Flow} {s' : Shared} (h : SP (X.wish E) pins D f s') : SP X pins D f s' := by
  cases f with
  | next => obtain ⟨σ', H', I, q⟩ := h; exact ⟨σ', H', I.unwish, q⟩
  | brk => obtain ⟨σ', H', I, q⟩ := h; exact ⟨σ', H', I.unwish, q⟩
  | cont => obtain ⟨σ', H', I, q⟩ := h; exact ⟨σ', H', I.unwish, q⟩
  | ret u => obtain ⟨v, σ', H', I, r, q⟩ := h; exact ⟨v, σ', H', I.unwish, r, q⟩
theorem PE.nox {e : Expr} {t : TE} (h : PE X.nox e t) : PE X e t := fun pins s σ H Q I hw =>
  wpAny_mono (h pins s σ H Q (I.wish _) hw) (fun _ _ ⟨v, H', I', r, q⟩ => ⟨v, H', I'.unwish, r, q⟩) fun _ _ z => False.elim z
theorem PT.nox {e : Expr} {t : TT} (h : PT X.nox e t) : PT X e t := fun pins s σ H Q I hw =>
  wpAny_mono (h pins s σ H Q (I.wish _) hw) (fun _ _ ⟨H', I', q⟩ => ⟨H', I'.unwish, q⟩) fun _ _ z => False.elim z
theorem PSs.nox {st : List Stmt} {t : TS} (h : PSs X.nox st t) : PSs X st t := fun pins s σ H D I hw =>
  wpAny_mono (h pins s σ H D (I.wish _) hw) (fun _ _ q => q.unwish) fun _ _ z => False.elim z
end

/-! ### blocks and small statements -/
section
variable {X : Cx} {st : Stmt} {rest : List Stmt} {t u : TS} {e : Expr} {te : TE} {pos : Pos}
def tNext : TS := fun D σ H => D.nx σ H
def tSeq (t u : TS) : TS := fun D σ H => t { D with nx := u D } σ H
theorem pss_nil : PSs X [] tNext := fun _ _ σ H _ I h => wpAny_execs_nil ⟨σ, H, I, h⟩
theorem pss_cons (h1 : PS X st t) (h2 : PSs X rest u) : PSs X (st :: rest) (tSeq t u) := by
  intro pins s σ H D I h
  refine wpAny_execs_cons (thn (h1 pins s σ H { D with nx := u D } I h) fun f s1 q => ?_)
  cases f with
  | next =>
    obtain ⟨σ', H', I', q⟩ := q
    exact h2 pins s1 σ' H' D I' q
  | ret v => exact q
  | brk => exact q
  | cont => exact q
theorem pss_one (h1 : PS X st t) : PSs X [st] t := by
  intro pins s σ H D I h
  refine wpAny_execs_cons (thn (h1 pins s σ H D I h) fun f s1 q => ?_)
  cases f with
  | next => exact wpAny_execs_nil q
  | ret v => exact q
  | brk => exact q
  | cont => exact q
/-- in a def's body nothing is shown -/
theorem Inv.quiet {pins : List (Addr × Obj)} {σ : St} {H : Hp} {s : Shared} (I : Inv X pins σ H s) : interactive X.env = false := by simp [interactive, I.ok.kind]
/-- an expression whose value is dropped -/
def tDrop (te : TE) : TS := fun D σ H => te σ H fun _ H1 => D.nx σ H1
theorem ps_expr (he : PE X e te) (hs : swapsWith e none pos.line X.env = pure false := by rfl) : PS X (.Expr e pos) (tDrop te) := by
  intro pins s σ H D I h
  exact wpAny_Expr_any (thn (he pins s σ H _ I h) fun v s1 ⟨x, H1, I1, r1, q1⟩ => ⟨σ, H1, I1, q1⟩) I.quiet hs
def tRet (te : TE) : TS := fun D σ H => te σ H D.rt
theorem ps_ret (he : PE X e te) : PS X (.Return (some e) pos) (tRet te) := by
  intro pins s σ H D I h
  exact wpAny_Return_some (thn (he pins s σ H _ I h) fun v s1 ⟨x, H1, I1, r1, q1⟩ => ⟨x, σ, H1, I1, r1, q1⟩)
def tIfS (c : TT) (t u : TS) : TS := fun D σ H => c σ H fun b H1 => if b = true then t D σ H1 else u D σ H1
theorem ps_if {c : Expr} {a b : List Stmt} {tc : TT} (hc : PT X c tc) (ha : PSs X a t) (hb : PSs X b u) : PS X (.If c a b pos) (tIfS tc t u) := by
  intro pins s σ H D I h
  refine wpAny_If (thn (hc pins s σ H _ I h) fun d s1 ⟨H1, I1, q1⟩ => ?_)
  cases d with
  | true => exact ha pins s1 σ H1 D I1 q1
  | false => exact hb pins s1 σ H1 D I1 q1
end

/-! ### targets -/
abbrev TG := V → St → Hp → (St → Hp → Prop) → Prop
abbrev TGs := List V → St → Hp → (St → Hp → Prop) → Prop
def PG (X : Cx) (target : Expr) (t : TG) : Prop :=
  ∀ (pins : List (Addr × Obj)) (s : Shared) (σ : St) (H : Hp) (v : V) (u : Value) (Q : St → Hp → Prop), Inv X pins σ H s → RelV v u → t v σ H Q →
    wpAny (model X.prog X.w) X.A (assign target X.env u) (fun _ s' => ∃ σ' H', Inv X pins σ' H' s' ∧ Q σ' H') X.xe s
/-- several targets, one after another -/
def PGs (X : Cx) (ts : List Expr) (t : TGs) : Prop :=
  ∀ (pins : List (Addr × Obj)) (s : Shared) (σ : St) (H : Hp) (vs : List V) (us : List Value) (Q : St → Hp → Prop), Inv X pins σ H s → Vals vs us → t vs σ H Q →
    wpAny (model X.prog X.w) X.A (assignInOrder ((assignEach ts X.env).map (·.2)) us) (fun _ s' => ∃ σ' H', Inv X pins σ' H' s' ∧ Q σ' H') X.xe s
/-- o[i] = v, by values -/
abbrev TSet := V → V → V → Hp → (Hp → Prop) → Prop
def PSet (X : Cx) (t : TSet) : Prop :=
  ∀ (pins : List (Addr × Obj)) (s : Shared) (σ : St) (H : Hp) (o i v : V) (ov iv u : Value) (Q : Hp → Prop), Inv X pins σ H s → RelV o ov → RelV i iv → RelV v u → t o i v H Q →
    wpAny (model X.prog X.w) X.A (setItem ov iv u) (fun _ s' => ∃ H', Inv X pins σ H' s' ∧ Q H') X.xe s
section
variable {X : Cx} {pos : Pos}
def gName (i : Nat) : TG := fun v σ H Q => Q (σ.set i (some v)) H
theorem pg_name {i : Nat} {x : Str} (hN : X.N.Nodup) (hi : X.N[i]? = some x) (hx : Loc X.env.scope x) (hf : X.fn x = true ∨ X.env.scope.names.lookup x = some .local := by first | exact .inl rfl | exact .inr rfl | assumption) : PG X (.Name x pos) (gName i) := by
  intro pins s σ H v u Q I r h
  exact wpAny_assign_Name (store_ok I hN hi hx r (fun s' I' => ⟨_, H, I', h⟩) hf)
/-- o[i] = .. -/
def gSub (to ti : TE) (t : TSet) : TG := fun v σ H Q => to σ H fun o H1 => ti σ H1 fun i H2 => t o i v H2 fun H3 => Q σ H3
theorem pg_sub {o i : Expr} {to ti : TE} {t : TSet} (ho : PE X o to) (hi : PE X i ti) (hs : PSet X t)
    (ha : ∀ v, assign (.Subscript o i pos) X.env v = (do
      let ov ← holding [v] (eval o X.env)
      let iv ← holding [v, ov] (eval i X.env)
      standAt pos
      holding [v, ov, iv] (setItem ov iv v)
      release [v, ov, iv] []) := by intro _; rfl) : PG X (.Subscript o i pos) (gSub to ti t) := by
  intro pins s σ H v u Q I r h
  rw [ha]
  refine wpAny_bind (wpAny_holding (thn (ho pins s σ H _ I h) fun ov s1 ⟨x, H1, I1, r1, q1⟩ => ?_))
  refine wpAny_bind (wpAny_holding (thn (hi pins s1 σ H1 _ I1 q1) fun iv s2 ⟨y, H2, I2, r2, q2⟩ => ?_))
  refine wpAny_bind (wpAny_standAt (wpAny_bind (wpAny_holding (thn (hs pins s2 σ H2 x y v ov iv u _ I2 r1 r2 r q2) fun _ s3 ⟨H3, I3, q3⟩ => ?_))))
  exact wpAny_release ⟨σ, H3, I3, q3⟩
/-- target = value -/
def tAsg (te : TE) (g : TG) : TS := fun D σ H => te σ H fun x H1 => g x σ H1 D.nx
theorem ps_asg {tg e : Expr} {te : TE} {g : TG} (he : PE X e te) (hg : PG X tg g) (hs : swapsWithSole [tg] e pos.line X.env = pure false := by rfl) (hw : swappedStores [tg] e X.env = pure none := by rfl)
    (h1 : (assignEach [tg] X.env).map (·.2) = [assign tg X.env] := by rfl) : PS X (.Assign [tg] e pos) (tAsg te g) := by
  intro pins s σ H D I h
  refine wpAny_Assign_stores (thn (he pins s σ H _ I h) fun v s1 ⟨x, H1, I1, r1, q1⟩ => ?_) hs hw
  rw [h1]
  exact thn (hg pins s1 σ H1 x v _ I1 r1 q1) fun _ s2 q => q
/-- name = value -/
theorem ps_set {i : Nat} {x : Str} {e : Expr} {te : TE} {pos' : Pos} (hN : X.N.Nodup) (hi : X.N[i]? = some x) (hx : Loc X.env.scope x) (he : PE X e te) (hs : swapsWith e (some (.Name x pos')) pos.line X.env = pure false := by rfl) (hf : X.fn x = true ∨ X.env.scope.names.lookup x = some .local := by first | exact .inl rfl | exact .inr rfl | assumption) :
    PS X (.Assign [.Name x pos'] e pos) (tAsg te (gName i)) := by
  intro pins s σ H D I h
  refine wpAny_Assign_Name (thn (he pins s σ H _ I h) fun v s1 ⟨y, H1, I1, r1, q1⟩ => ?_) hs
  exact store_ok I1 hN hi hx r1 (fun s2 I2 => ⟨_, H1, I2, q1⟩) hf
end

/-! ### while -/
section
variable {X : Cx} {pos : Pos}
end

/-! ### what a loop or a comprehension walks -/
/-- at turn i: it yields x (the heap may grow), or it stops -/
structure It where
  go : Nat → Hp → Prop
  yld : Nat → Hp → V → Hp → Prop
  stop : Nat → Hp → Prop
/-- the iterator's own objects may turn: they are not the frame's, not pinned, younger than the entry (or a comprehension's own) -/
def FpOk (X : Cx) (pins : List (Addr × Obj)) (H : Hp) (b : Addr) : Prop :=
  H b = none ∧ b ≠ X.env.locals ∧ b ∉ X.fs ∧ (b ∈ X.ex ∨ X.s₀.heap.objs.size ≤ b) ∧ (∀ x c, X.env.cells.lookup x = some c → c ≠ b) ∧ ∀ p ∈ X.pn ++ pins, p.1 ≠ b
theorem Inv.fpOk {X : Cx} {pins : List (Addr × Obj)} {σ : St} {H H' : Hp} {s : Shared} {b : Addr} (I : Inv X pins σ H s) (hb : s.heap.objs.size ≤ b) (hn : H' b = none) : FpOk X pins H' b := by
  refine ⟨hn, Nat.ne_of_gt (Nat.lt_of_lt_of_le I.lt hb), I.nofs hb, .inr (Nat.le_trans I.sz hb), fun x c e z => ?_, fun p hp z => ?_⟩
  · obtain ⟨v, q⟩ := I.cell x c e
    exact absurd (Nat.lt_of_lt_of_le q.lt (by rw [z]; exact hb)) (Nat.lt_irrefl _)
  · exact absurd (Nat.lt_of_lt_of_le (Heap.lt_size (I.pin p hp).1) (by rw [z]; exact hb)) (Nat.lt_irrefl _)
structure Turn (P : Program) (w : World) (K : PySem.W.Frag) (tg : Expr) (J : It) (fp : List Addr) (it : Addr) (tn : Nat → Heap → Prop) : Prop where
  mem : it ∈ fp
  obj : ∀ i h, tn i h → ∀ b ∈ fp, ∃ o, h.get? b = some o ∧ ∀ v, o.data ≠ .cell v
  keep : ∀ i h h', tn i h → (∀ b ∈ fp, ∀ o, h.get? b = some o → h'.get? b = some o) → tn i h'
  item : ∀ (X : Cx), X.prog = P → X.w = w → X.K = K → X.calm = true → ∀ (i : Nat) (pins : List (Addr × Obj)) (s : Shared) (σ : St) (H : Hp) (E : Value → Shared → Prop), Inv X pins σ H s → (∀ b ∈ fp, FpOk X pins H b) → tn i s.heap → J.go i H →
    wpAny (model P w) X.A (pyNext (.ref it)) (fun r s1 => ∃ u, r = some u ∧
      wpAny (model P w) X.A (letOwnedTupleGo tg (.ref it) u) (fun _ s2 => ∃ x H', Inv X pins σ H' s2 ∧ RelV x u ∧ J.yld i H x H' ∧ tn (i + 1) s2.heap ∧ ∀ b ∈ fp, H' b = none) E s1) E s
  done : ∀ (X : Cx), X.prog = P → X.w = w → X.K = K → X.calm = true → ∀ (i : Nat) (pins : List (Addr × Obj)) (s : Shared) (σ : St) (H : Hp) (E : Value → Shared → Prop), Inv X pins σ H s → (∀ b ∈ fp, FpOk X pins H b) → tn i s.heap → J.stop i H →
    wpAny (model P w) X.A (pyNext (.ref it)) (fun r s1 => r = none ∧ Inv X pins σ H s1) E s
  self : ∀ (A : Around) (i : Nat) (s : Shared) (Q : Value → Shared → Prop) (E : Value → Shared → Prop), tn i s.heap → Q (.ref it) s → wpAny (model P w) A (pyIter (.ref it)) Q E s
abbrev TI := St → Hp → (It → Hp → Prop) → Prop
/-- an iterator has come -/
def PIE (X : Cx) (pins : List (Addr × Obj)) (σ : St) (tg : Expr) (R : It → Hp → Prop) (itv : Value) (s2 : Shared) : Prop :=
  ∃ (it : Addr) (fp : List Addr) (tn : Nat → Heap → Prop) (J : It) (H' : Hp), itv = .ref it ∧ Inv X pins σ H' s2 ∧ Turn X.prog X.w X.K tg J fp it tn ∧ tn 0 s2.heap ∧ (∀ b ∈ fp, FpOk X pins H' b) ∧ R J H'
def PI (X : Cx) (tg iter : Expr) (wi : TI) : Prop :=
  ∀ (pins : List (Addr × Obj)) (s : Shared) (σ : St) (H : Hp) (R : It → Hp → Prop), Inv X pins σ H s → wi σ H R →
    wpAny (model X.prog X.w) X.A (eval iter X.env) (fun v s1 => wpAny (model X.prog X.w) X.A (pyIter v) (PIE X pins σ tg R) X.xe s1) X.xe s

/-- the step ahead of the store is nothing for an iterator that keeps no tuple -/
theorem go_of {M : Model} {A : Around} {E : Value → Shared → Prop} {s : Shared} {tg : Expr} {it : Addr} {u : Value} {o : Obj} {n : String} {vs : Array Value} {Q : Unit → Shared → Prop} (ho : s.heap.get? it = some o) (hc : o.cls = .type n) (hd : o.data = .fields vs)
    (hn : ["enumerate", "zip", "dict_itemiterator", "dict_reverseitemiterator", "odict_iterator", "itertools.zip_longest", "itertools.pairwise"].contains n = false) (hQ : Q () s) : wpAny M A (letOwnedTupleGo tg (.ref it) u) Q E s := by
  unfold letOwnedTupleGo
  cases tg <;> first
    | exact wpAny_pure hQ
    | (cases u <;> first
        | exact wpAny_pure hQ
        | (refine wpAny_bind (wpAny_load ho ?_)
           rw [hc, hd]
           show wpAny M A (if (["enumerate", "zip", "dict_itemiterator", "dict_reverseitemiterator", "odict_iterator", "itertools.zip_longest", "itertools.pairwise"].contains n && vs[0]? == some (rawInt _)) = true then _ else _) Q E s
           rw [if_neg (by intro h; rw [hn, Bool.false_and] at h; cases h)]
           exact wpAny_pure hQ))

/-- the list at a, as it stands at each turn (a loop may append to it) -/
def Itl (K : PySem.W.Frag) (a : Addr) : It :=
  ⟨fun i H => ∃ xs x, SqL K H a xs ∧ xs[i]? = some x, fun i H x H' => H' = H ∧ ∀ xs, SqL K H a xs → xs[i]? = some x, fun i H => ∃ xs, SqL K H a xs ∧ xs.length ≤ i⟩
def Itt (K : PySem.W.Frag) (a : Addr) : It :=
  ⟨fun i H => ∃ xs x, SqT K H a xs ∧ xs[i]? = some x, fun i H x H' => H' = H ∧ ∀ xs, SqT K H a xs → xs[i]? = some x, fun i H => ∃ xs, SqT K H a xs ∧ xs.length ≤ i⟩
/-- lo, lo + 1, .. (n of them) -/
def Itr (lo : Int) (n : Nat) : It := ⟨fun i _ => i < n, fun i H x H' => H' = H ∧ x = .int (lo + i), fun i _ => n ≤ i⟩
theorem turn_list {P : Program} {w : World} {K : PySem.W.Frag} {tg : Expr} (a it : Addr) : Turn P w K tg (Itl K a) [it] it (fun i h => h.IsListIter it a i) where
  mem := by simp
  obj := fun i h st b hb => by
    have e : b = it := by simpa using hb
    subst e
    obtain ⟨o, e, c, d⟩ := st
    exact ⟨o, e, fun v z => by rw [d] at z; cases z⟩
  keep := fun i h h' st k => st.at fun o e => k it (by simp) o e
  item := by
    intro X hP hw hK hc i pins s σ H E I hf st hg
    subst hP hw hK
    obtain ⟨xs, x, hq, hx⟩ := hg
    obtain ⟨its, rv, p, hz⟩ := I.list hq
    obtain ⟨u, hu, ru⟩ := rv.get hx
    obtain ⟨f0, f1, f2, f3, f4, f5⟩ := hf it (by simp)
    refine wpAny_pyNext_list_item st p.isList (x := u) (by simpa using hu) fun h' st' sb => ?_
    have I1 : Inv X pins σ H { s with heap := h' } := I.turned (t' := s.toks) (fun b o hb e => (sb.2 b hb).trans e) f0 f1 f3 f4 f5
    obtain ⟨o, e, c, d⟩ := id st'
    exact ⟨u, rfl, go_of (s := { s with heap := h' }) e c d (by decide) ⟨x, H, I1, ru, ⟨rfl, fun ys hy => by rw [I.list_inj hy hq]; exact hx⟩, st', fun b hb => (hf b hb).1⟩⟩
  done := by
    intro X hP hw hK hc i pins s σ H E I hf st hg
    subst hP hw hK
    obtain ⟨xs, hq, hx⟩ := hg
    obtain ⟨its, rv, p, hz⟩ := I.list hq
    obtain ⟨f0, f1, f2, f3, f4, f5⟩ := hf it (by simp)
    have hl := rv.length
    exact wpAny_pyNext_list_end (I.ok.hd hc) st p.isList (by simp; omega) fun h' eb => ⟨rfl, I.turned (t' := s.toks) (fun b o hb e => eb b o hb e) f0 f1 f3 f4 f5⟩
  self := fun _ _ _ _ _ st h => wpAny_pyIter_listiter st h
theorem turn_tuple {P : Program} {w : World} {K : PySem.W.Frag} {tg : Expr} (a it : Addr) : Turn P w K tg (Itt K a) [it] it (fun i h => h.IsTupleIter it a i) where
  mem := by simp
  obj := fun i h st b hb => by
    have e : b = it := by simpa using hb
    subst e
    obtain ⟨o, e, c, d⟩ := st
    exact ⟨o, e, fun v z => by rw [d] at z; cases z⟩
  keep := fun i h h' st k => st.at fun o e => k it (by simp) o e
  item := by
    intro X hP hw hK hc i pins s σ H E I hf st hg
    subst hP hw hK
    obtain ⟨xs, x, hq, hx⟩ := hg
    obtain ⟨its, rv, p, hz⟩ := I.tuple hq
    obtain ⟨u, hu, ru⟩ := rv.get hx
    obtain ⟨f0, f1, f2, f3, f4, f5⟩ := hf it (by simp)
    refine wpAny_pyNext_tuple_item st (show s.heap.IsTuple a its.toArray from p) (x := u) (by simpa using hu) fun h' st' sb => ?_
    have I1 : Inv X pins σ H { s with heap := h' } := I.turned (t' := s.toks) (fun b o hb e => (sb.2 b hb).trans e) f0 f1 f3 f4 f5
    obtain ⟨o, e, c, d⟩ := id st'
    exact ⟨u, rfl, go_of (s := { s with heap := h' }) e c d (by decide) ⟨x, H, I1, ru, ⟨rfl, fun ys hy => by rw [I.tuple_inj hy hq]; exact hx⟩, st', fun b hb => (hf b hb).1⟩⟩
  done := by
    intro X hP hw hK hc i pins s σ H E I hf st hg
    subst hP hw hK
    obtain ⟨xs, hq, hx⟩ := hg
    obtain ⟨its, rv, p, hz⟩ := I.tuple hq
    obtain ⟨f0, f1, f2, f3, f4, f5⟩ := hf it (by simp)
    have hl := rv.length
    exact wpAny_pyNext_tuple_end (I.ok.hd hc) st (show s.heap.IsTuple a its.toArray from p) (by simp; omega) fun h' eb => ⟨rfl, I.turned (t' := s.toks) (fun b o hb e => eb b o hb e) f0 f1 f3 f4 f5⟩
  self := fun _ _ _ _ _ st h => wpAny_pyIter_tupleiter st h
theorem turn_range {P : Program} {w : World} {K : PySem.W.Frag} {tg : Expr} (it : Addr) (lo : Int) (n : Nat) : Turn P w K tg (Itr lo n) [it] it (fun i h => IsRangeIter h it (lo + (i : Nat) * 1) ((n : Int) - (i : Nat)) 1) where
  mem := by simp
  obj := fun i h st b hb => by
    have e : b = it := by simpa using hb
    subst e
    exact ⟨_, st, fun v z => by
      have z' : Data.fields _ = Data.cell v := z
      cases z'⟩
  keep := fun i h h' st k => k it (by simp) _ st
  item := by
    intro X hP hw hK hc i pins s σ H E I hf st hg
    subst hP hw hK
    obtain ⟨f0, f1, f2, f3, f4, f5⟩ := hf it (by simp)
    have W := Walks.range (prog := X.prog) (w := X.w) (I.ok.hd hc) it lo 1 n
    refine W.item i s _ _ hg st fun v h' tk hv st' kk => ?_
    obtain ⟨t, rfl⟩ := hv
    have I1 : Inv X pins σ H { s with heap := h', toks := tk } := I.turned (fun b o hb e => kk b o (by simpa using hb) e) f0 f1 f3 f4 f5
    refine ⟨_, rfl, go_of (s := { s with heap := h', toks := tk }) (n := "range_iterator") st' rfl rfl (by decide) ⟨.int (lo + i), H, I1, ⟨t, ?_⟩, ⟨rfl, rfl⟩, st', fun b hb => (hf b hb).1⟩⟩
    rw [Int.mul_one]
  done := by
    intro X hP hw hK hc i pins s σ H E I hf st hg
    subst hP hw hK
    obtain ⟨f0, f1, f2, f3, f4, f5⟩ := hf it (by simp)
    exact wpAny_pyNext_range_end (I.ok.hd hc) st (by have : n ≤ i := hg; omega) fun h' eb => ⟨rfl, I.turned (t' := s.toks) (fun b o hb e => eb b o hb e) f0 f1 f3 f4 f5⟩
  self := fun _ _ _ _ _ st h => wpAny_pyIter_rangeiter st h
end L2

namespace L2
open PySem PySem.Spec PyProof.Rows
section
variable {X : Cx} {tg : Expr}
def iList (K : PySem.W.Frag) (tl : TE) : TI := fun σ H R => tl σ H fun x H1 => ∃ a, x = .ref a ∧ (∃ xs, SqL K H1 a xs) ∧ R (Itl K a) H1
def iTup (K : PySem.W.Frag) (tl : TE) : TI := fun σ H R => tl σ H fun x H1 => ∃ a, x = .ref a ∧ (∃ xs, SqT K H1 a xs) ∧ R (Itt K a) H1
theorem pi_list {l : Expr} {tl : TE} (hl : PE X l tl) : PI X tg l (iList X.K tl) := by
  intro pins s σ H R I h
  refine thn (hl pins s σ H _ I h) fun v s1 ⟨x, H1, I1, r1, q1⟩ => ?_
  obtain ⟨a, e, ⟨xs, hq⟩, q⟩ := q1
  subst e
  cases r1
  obtain ⟨its, rv, p, hz⟩ := I1.list hq
  refine wpAny_pyIter_list p.isList ?_
  refine ⟨s1.heap.objs.size, [s1.heap.objs.size], _, _, H1, rfl, I1.kept (t' := s1.toks) fun b o e => Heap.get?_push_of_some _ e, turn_list a _, ⟨_, Heap.get?_push_size _ rfl, rfl, rfl⟩, fun b hb => ?_, q⟩
  have e : b = s1.heap.objs.size := by simpa using hb
  subst e
  exact I1.fpOk (Nat.le_refl _) (I1.hok.fresh (Nat.le_refl _))
theorem pi_tup {l : Expr} {tl : TE} (hl : PE X l tl) : PI X tg l (iTup X.K tl) := by
  intro pins s σ H R I h
  refine thn (hl pins s σ H _ I h) fun v s1 ⟨x, H1, I1, r1, q1⟩ => ?_
  obtain ⟨a, e, ⟨xs, hq⟩, q⟩ := q1
  subst e
  cases r1
  obtain ⟨its, rv, p, hz⟩ := I1.tuple hq
  refine wpAny_pyIter_tuple (show s1.heap.IsTuple a its.toArray from p) ?_
  refine ⟨s1.heap.objs.size, [s1.heap.objs.size], _, _, H1, rfl, I1.kept (t' := s1.toks) fun b o e => Heap.get?_push_of_some _ e, turn_tuple a _, ⟨_, Heap.get?_push_size _ rfl, rfl, rfl⟩, fun b hb => ?_, q⟩
  have e : b = s1.heap.objs.size := by simpa using hb
  subst e
  exact I1.fpOk (Nat.le_refl _) (I1.hok.fresh (Nat.le_refl _))
/-- a range object just made, walked -/
theorem range_it {pins : List (Addr × Obj)} {σ : St} {H : Hp} {s : Shared} {R : It → Hp → Prop} {E : Value → Shared → Prop} {lo hi : Int} {t u v : Tok} {tk : Nat} (I : Inv X pins σ H s) (h1 : -(2 ^ 62) ≤ lo) (h2 : lo < 2 ^ 62) (h3 : -(2 ^ 62) ≤ hi) (h4 : hi < 2 ^ 62)
    (q : R (Itr lo (hi - lo).toNat) H) : wpAny (model X.prog X.w) X.A (pyIter (.ref s.heap.objs.size)) (PIE X pins σ tg R) E { s with heap := s.heap.push { cls := .type "range", data := .fields #[.int lo t, .int hi u, .int 1 v] }, toks := tk } := by
  refine wpAny_pyIter_range (IsRange.new ..) (small_one h1 h2 h3 h4) ?_
  have I1 : Inv X pins σ H { s with heap := s.heap.push { cls := .type "range", data := .fields #[.int lo t, .int hi u, .int 1 v] }, toks := tk } := I.kept fun b o e => Heap.get?_push_of_some _ e
  refine ⟨(s.heap.push { cls := .type "range", data := .fields #[.int lo t, .int hi u, .int 1 v] }).objs.size, [(s.heap.push { cls := .type "range", data := .fields #[.int lo t, .int hi u, .int 1 v] }).objs.size], _, _, H, rfl,
    I1.kept (t' := tk) fun b o e => Heap.get?_push_of_some _ e, turn_range _ lo (hi - lo).toNat, ?_, fun b hb => ?_, q⟩
  · have e1 : lo + ((0 : Nat) : Int) * 1 = lo := by simp
    have e2 : (((hi - lo).toNat : Nat) : Int) - ((0 : Nat) : Int) = Builtin.Range.rangeSize lo hi 1 := by rw [rangeSize_one]; split <;> omega
    show IsRangeIter _ _ (lo + ((0 : Nat) : Int) * 1) ((((hi - lo).toNat : Nat) : Int) - ((0 : Nat) : Int)) 1
    rw [e1, e2]
    exact Heap.get?_push_size _ rfl
  · have e : b = (s.heap.push { cls := .type "range", data := .fields #[.int lo t, .int hi u, .int 1 v] }).objs.size := by simpa using hb
    subst e
    exact I1.fpOk (Nat.le_refl _) (I1.hok.fresh (Nat.le_refl _))
def iRng1 (ta : TA) : TI := fun σ H R => ta σ H fun vs H1 => ∃ j : Int, vs = [.int j] ∧ -(2 ^ 62) ≤ j ∧ j < 2 ^ 62 ∧ R (Itr 0 j.toNat) H1
theorem pi_range1 {a : Expr} {ta : TA} {p pos : Pos} (hg : Gl X "range") (hm : X.mg "range" = none) (ha : PA X [a] ta) (hs : starEach [a] X.env = [(false, eval a X.env)] := by rfl) : PI X tg (.Call (.Name "range" p) [a] [] pos) (iRng1 ta) := by
  intro pins s σ H R I h
  refine Call_ (ld_blt I hg hm boot_range (PyProof.Rows.callWith_type1 (thn (ha pos pins s σ H _ I h) fun us s1 ⟨vs, H1, I1, r1, q1⟩ => ?_) hs rfl))
  obtain ⟨j, e, q1, q2, q⟩ := q1
  subst e
  cases r1 with
  | cons r rr =>
    cases rr
    obtain ⟨t, rfl⟩ := r
    exact call_range_1 (range_it I1 (by omega) (by omega) q1 q2 (by simpa using q))
/-! ### for -/
/-- W: the invariant by the turn and a measure; N: what the body is to reach -/
def tFor (wi : TI) (g : TG) (tb : TS) : TS := fun D σ H => wi σ H fun J H1 => ∃ W : Nat → Nat → St → Hp → Prop, (∃ m, W 0 m σ H1) ∧ ∀ i m σ H, W i m σ H →
  (J.stop i H ∧ D.nx σ H) ∨ (J.go i H ∧ ∃ N : St → Hp → Prop, (∀ σ' H', N σ' H' → ∃ m', m' < m ∧ W (i + 1) m' σ' H') ∧ ∀ x H', J.yld i H x H' → g x σ H' fun σ2 H2 => tb { D with nx := N, ct := N, bk := D.nx } σ2 H2)
/-- the records at fp as they stand -/
def pinsAt (fp : List Addr) (h : Heap) : List (Addr × Obj) := fp.filterMap fun b => (h.get? b).map fun o => (b, o)
theorem mem_pinsAt {fp : List Addr} {h : Heap} {b : Addr} {o : Obj} (hb : b ∈ fp) (e : h.get? b = some o) : (b, o) ∈ pinsAt fp h := List.mem_filterMap.mpr ⟨b, hb, by rw [e]; rfl⟩
theorem of_pinsAt {fp : List Addr} {h : Heap} {p : Addr × Obj} (hp : p ∈ pinsAt fp h) : p.1 ∈ fp ∧ h.get? p.1 = some p.2 := by
  obtain ⟨b, hb, e⟩ := List.mem_filterMap.mp hp
  cases q : h.get? b with
  | none => rw [q] at e; cases e
  | some o =>
    rw [q] at e
    have e' : (b, o) = p := Option.some.inj e
    subst e'
    exact ⟨hb, q⟩
theorem Inv.pinned {pins : List (Addr × Obj)} {σ : St} {H : Hp} {s : Shared} {fp : List Addr} (I : Inv X pins σ H s) (hf : ∀ b ∈ fp, FpOk X pins H b) (ho : ∀ b ∈ fp, ∃ o, s.heap.get? b = some o ∧ ∀ v, o.data ≠ .cell v) : Inv X (pins ++ pinsAt fp s.heap) σ H s :=
  I.pins_of fun p hp => (List.mem_append.mp hp).elim (fun z => I.pin p (List.mem_append_right _ z)) fun z => by
    obtain ⟨hb, e⟩ := of_pinsAt z
    obtain ⟨f0, f1, f2, _⟩ := hf p.1 hb
    obtain ⟨o, e', d⟩ := ho p.1 hb
    rw [e] at e'; cases e'
    exact ⟨e, f0, f1, f2, d⟩
theorem Inv.unpinned {pins pl : List (Addr × Obj)} {σ : St} {H : Hp} {s : Shared} (I : Inv X (pins ++ pl) σ H s) : Inv X pins σ H s := I.pins_of fun p hp => I.pin p (List.mem_append_right _ (List.mem_append_left _ hp))
theorem ps_for {iter : Expr} {body : List Stmt} {wi : TI} {g : TG} {tb : TS} {pos : Pos} (hp : PassesOwn (model X.prog X.w) X.A X.env X.xe) (hc : X.calm = true) (hi : PI X tg iter wi) (hg : PG X tg g) (hb : PSs X body tb)
    (hs : ∀ x, foldedSetIterable iter X.env x = pure x := by intro _; rfl) : PS X (.For tg iter body [] pos) (tFor wi g tb) := by
  intro pins s σ H D I h
  refine wpAny_For (thn (hi pins s σ H _ I h) fun v s1 h1 => thn h1 fun itv s2 h2 => ?_) hs
  obtain ⟨it, fp, tn, J, H2, e, I2, T, st2, f2, W, ⟨m0, w0⟩, turn⟩ := h2
  subst e
  -- what stays true of the iterator's objects through the loop
  have stat : ∀ {H' : Hp}, (∀ b ∈ fp, H' b = none) → ∀ b ∈ fp, FpOk X pins H' b := fun hn b hb => ⟨hn b hb, (f2 b hb).2⟩
  refine codeAny_forLoop_any (fun n s' => ∃ i σ' H', Inv X pins σ' H' s' ∧ tn i s'.heap ∧ (∀ b ∈ fp, H' b = none) ∧ W i n σ' H') ?_ m0 ⟨0, σ, H2, I2, st2, fun b hb => (f2 b hb).1, w0⟩
  rintro n s3 ⟨i, σ3, H3, I3, st3, fr3, w3⟩
  rcases turn i n σ3 H3 w3 with ⟨stop, qn⟩ | ⟨go, N, hN, step⟩
  · refine wpAny_passesOwn hp (thn (T.done X rfl rfl rfl hc i pins s3 σ3 H3 X.xe I3 (stat fr3) st3 stop) fun r s4 ⟨hr, I4⟩ => ?_)
    subst hr
    exact wpAny_execs_nil ⟨σ3, H3, I4, qn⟩
  · refine wpAny_passesOwn hp (thn (T.item X rfl rfl rfl hc i pins s3 σ3 H3 X.xe I3 (stat fr3) st3 go) fun r s4 ⟨u, hr, h4⟩ => ?_)
    subst hr
    refine wpAny_passesOwn hp (thn h4 fun _ s5 ⟨x, H5, I5, r5, y5, st5, fr5⟩ => ?_)
    have I5' := I5.pinned (stat fr5) (T.obj _ _ st5)
    refine wpAny_passesOwn hp (thn (hg _ s5 σ3 H5 x u _ I5' r5 (step x H5 y5)) fun _ s6 ⟨σ6, H6, I6, q6⟩ => ?_)
    refine wpAny_passesOwn hp (thn (hb _ s6 σ6 H6 _ I6 q6) fun f s7 q7 => ?_)
    have again : ∀ {σ7 : St} {H7 : Hp}, Inv X (pins ++ pinsAt fp s5.heap) σ7 H7 s7 → N σ7 H7 → ∃ m, m < n ∧ ∃ i σ' H', Inv X pins σ' H' s7 ∧ tn i s7.heap ∧ (∀ b ∈ fp, H' b = none) ∧ W i m σ' H' := fun {σ7 H7} I7 n7 => by
      obtain ⟨m', hm, w7⟩ := hN σ7 H7 n7
      refine ⟨m', hm, i + 1, σ7, H7, I7.unpinned, T.keep _ _ _ st5 fun b hb o e => (I7.pin (b, o) (List.mem_append_right _ (List.mem_append_right _ (mem_pinsAt hb e)))).1, fun b hb => ?_, w7⟩
      obtain ⟨o, e, d⟩ := T.obj _ _ st5 b hb
      exact (I7.pin (b, o) (List.mem_append_right _ (List.mem_append_right _ (mem_pinsAt hb e)))).2.1
    cases f with
    | next => obtain ⟨σ7, H7, I7, n7⟩ := q7; exact again I7 n7
    | cont => obtain ⟨σ7, H7, I7, n7⟩ := q7; exact again I7 n7
    | brk => obtain ⟨σ7, H7, I7, q7⟩ := q7; exact ⟨σ7, H7, I7.unpinned, q7⟩
    | ret v => obtain ⟨x7, σ7, H7, I7, r7, q7⟩ := q7; exact ⟨x7, σ7, H7, I7.unpinned, r7, q7⟩
end

/-! ### the forms one uses -/
/-- over a list that the body leaves as it is -/
theorem for_list {K : PySem.W.Frag} {a : Addr} {xs : List V} {g : TG} {tb : TS} {D : Ends} {σ : St} {H : Hp} (Pv : Nat → St → Hp → Prop) (h0 : Pv 0 σ H) (hl : ∀ i σ H, i ≤ xs.length → Pv i σ H → SqL K H a xs)
    (hs : ∀ i x σ H, xs[i]? = some x → Pv i σ H → g x σ H fun σ2 H2 => tb { D with nx := Pv (i + 1), ct := Pv (i + 1), bk := D.nx } σ2 H2) (hd : ∀ σ H, Pv xs.length σ H → D.nx σ H) :
    ∃ W : Nat → Nat → St → Hp → Prop, (∃ m, W 0 m σ H) ∧ ∀ i m σ H, W i m σ H →
      ((Itl K a).stop i H ∧ D.nx σ H) ∨ ((Itl K a).go i H ∧ ∃ N : St → Hp → Prop, (∀ σ' H', N σ' H' → ∃ m', m' < m ∧ W (i + 1) m' σ' H') ∧ ∀ x H', (Itl K a).yld i H x H' → g x σ H' fun σ2 H2 => tb { D with nx := N, ct := N, bk := D.nx } σ2 H2) := by
  refine ⟨fun i m σ H => m = xs.length - i ∧ i ≤ xs.length ∧ Pv i σ H, ⟨xs.length, by simp, Nat.zero_le _, h0⟩, ?_⟩
  rintro i m σ H ⟨rfl, hi, p⟩
  have q := hl i σ H hi p
  by_cases hlt : i < xs.length
  · refine .inr ⟨⟨xs, xs[i], q, by simp [hlt]⟩, Pv (i + 1), fun σ' H' p' => ⟨xs.length - (i + 1), by omega, rfl, hlt, p'⟩, fun x H' y => ?_⟩
    obtain ⟨e, y⟩ := y
    subst e
    exact hs i x σ _ (y xs q) p
  · have e : i = xs.length := by omega
    subst e
    exact .inl ⟨⟨xs, q, Nat.le_refl _⟩, hd σ H p⟩
theorem for_tup {K : PySem.W.Frag} {a : Addr} {xs : List V} {g : TG} {tb : TS} {D : Ends} {σ : St} {H : Hp} (Pv : Nat → St → Hp → Prop) (h0 : Pv 0 σ H) (hl : ∀ i σ H, i ≤ xs.length → Pv i σ H → SqT K H a xs)
    (hs : ∀ i x σ H, xs[i]? = some x → Pv i σ H → g x σ H fun σ2 H2 => tb { D with nx := Pv (i + 1), ct := Pv (i + 1), bk := D.nx } σ2 H2) (hd : ∀ σ H, Pv xs.length σ H → D.nx σ H) :
    ∃ W : Nat → Nat → St → Hp → Prop, (∃ m, W 0 m σ H) ∧ ∀ i m σ H, W i m σ H →
      ((Itt K a).stop i H ∧ D.nx σ H) ∨ ((Itt K a).go i H ∧ ∃ N : St → Hp → Prop, (∀ σ' H', N σ' H' → ∃ m', m' < m ∧ W (i + 1) m' σ' H') ∧ ∀ x H', (Itt K a).yld i H x H' → g x σ H' fun σ2 H2 => tb { D with nx := N, ct := N, bk := D.nx } σ2 H2) := by
  refine ⟨fun i m σ H => m = xs.length - i ∧ i ≤ xs.length ∧ Pv i σ H, ⟨xs.length, by simp, Nat.zero_le _, h0⟩, ?_⟩
  rintro i m σ H ⟨rfl, hi, p⟩
  have q := hl i σ H hi p
  by_cases hlt : i < xs.length
  · refine .inr ⟨⟨xs, xs[i], q, by simp [hlt]⟩, Pv (i + 1), fun σ' H' p' => ⟨xs.length - (i + 1), by omega, rfl, hlt, p'⟩, fun x H' y => ?_⟩
    obtain ⟨e, y⟩ := y
    subst e
    exact hs i x σ _ (y xs q) p
  · have e : i = xs.length := by omega
    subst e
    exact .inl ⟨⟨xs, q, Nat.le_refl _⟩, hd σ H p⟩
theorem for_range {lo : Int} {n : Nat} {g : TG} {tb : TS} {D : Ends} {σ : St} {H : Hp} (Pv : Nat → St → Hp → Prop) (h0 : Pv 0 σ H)
    (hs : ∀ i σ H, i < n → Pv i σ H → g (.int (lo + i)) σ H fun σ2 H2 => tb { D with nx := Pv (i + 1), ct := Pv (i + 1), bk := D.nx } σ2 H2) (hd : ∀ σ H, Pv n σ H → D.nx σ H) :
    ∃ W : Nat → Nat → St → Hp → Prop, (∃ m, W 0 m σ H) ∧ ∀ i m σ H, W i m σ H →
      ((Itr lo n).stop i H ∧ D.nx σ H) ∨ ((Itr lo n).go i H ∧ ∃ N : St → Hp → Prop, (∀ σ' H', N σ' H' → ∃ m', m' < m ∧ W (i + 1) m' σ' H') ∧ ∀ x H', (Itr lo n).yld i H x H' → g x σ H' fun σ2 H2 => tb { D with nx := N, ct := N, bk := D.nx } σ2 H2) := by
  refine ⟨fun i m σ H => m = n - i ∧ i ≤ n ∧ Pv i σ H, ⟨n, by simp, Nat.zero_le _, h0⟩, ?_⟩
  rintro i m σ H ⟨rfl, hi, p⟩
  by_cases hlt : i < n
  · refine .inr ⟨hlt, Pv (i + 1), fun σ' H' p' => ⟨n - (i + 1), by omega, rfl, hlt, p'⟩, fun x H' y => ?_⟩
    obtain ⟨e, y⟩ := y
    subst e y
    exact hs i σ _ hlt p
  · have e : i = n := by omega
    subst e
    exact .inl ⟨Nat.le_refl _, hd σ H p⟩
end L2

namespace L2
open PySem PySem.Spec PyProof.Rows

abbrev R2 := V → V → Hp → VK → Prop
/-- a two-place operation on values: f is binaryOp op, inplaceOp op or compareOp op -/
def OpR (X : Cx) (f : Value → Value → Sem Value) (r : R2) : Prop :=
  ∀ (pins : List (Addr × Obj)) (s : Shared) (σ : St) (H : Hp) (x y : V) (v u : Value) (Q : VK), Inv X pins σ H s → RelV x v → RelV y u → r x y H Q →
    wpAny (model X.prog X.w) X.A (f v u) (EP X pins σ Q) X.xe s
/-- a one-place operation -/
def UnR (X : Cx) (f : Value → Sem Value) (r : V → Hp → VK → Prop) : Prop :=
  ∀ (pins : List (Addr × Obj)) (s : Shared) (σ : St) (H : Hp) (x : V) (v : Value) (Q : VK), Inv X pins σ H s → RelV x v → r x H Q →
    wpAny (model X.prog X.w) X.A (f v) (EP X pins σ Q) X.xe s
/-- a call of a value that is known (a builtin, a type) with values -/
def CallR (X : Cx) (f : Value) (r : List V → Hp → VK → Prop) : Prop :=
  ∀ (pins : List (Addr × Obj)) (s : Shared) (σ : St) (H : Hp) (xs : List V) (us : List Value) (Q : VK), Inv X pins σ H s → Vals xs us → r xs H Q →
    wpAny (model X.prog X.w) X.A (call f us) (EP X pins σ Q) X.xe s
def tOp (r : R2) (ta tb : TE) : TE := fun σ H Q => ta σ H fun x H1 => tb σ H1 fun y H2 => r x y H2 Q
def tUn (r : V → Hp → VK → Prop) (ta : TE) : TE := fun σ H Q => ta σ H fun x H1 => r x H1 Q
/-- ints in, under C, and a value out -/
def rI (C : Int → Int → Prop) (g : Int → Int → V) : R2 := fun x y H Q => ∃ i j, x = .int i ∧ y = .int j ∧ C i j ∧ Q (g i j) H
def rI0 (g : Int → Int → V) : R2 := fun x y H Q => ∃ i j, x = .int i ∧ y = .int j ∧ Q (g i j) H
def rU (g : Int → V) : V → Hp → VK → Prop := fun x H Q => ∃ i, x = .int i ∧ Q (g i) H

section
variable {X : Cx} {a b c : Expr} {ta tb tc : TE} {pos : Pos}

theorem binT (ha : PE X a ta) (hb : PE X b tb) {pins : List (Addr × Obj)} {s : Shared} {σ : St} {H : Hp} {R : V → V → Hp → Prop} (I : Inv X pins σ H s)
    (h : ta σ H fun x H1 => tb σ H1 fun y H2 => R x y H2) {Q : Value → Shared → Prop} {f : Value → Value → Sem Value}
    (hf : ∀ v u s2 x y H2, Inv X pins σ H2 s2 → RelV x v → RelV y u → R x y H2 → wpAny (model X.prog X.w) X.A (f v u) Q X.xe s2) :
    wpAny (model X.prog X.w) X.A (eval a X.env) (fun v s₁ => wpAny (model X.prog X.w) X.A (eval b X.env) (fun u s₂ => wpAny (model X.prog X.w) X.A (f v u) Q X.xe s₂) X.xe s₁) X.xe s := by
  refine thn (ha pins s σ H _ I h) fun v s1 ⟨x, H1, I1, r1, q1⟩ => ?_
  refine thn (hb pins s1 σ H1 _ I1 q1) fun u s2 ⟨y, H2, I2, r2, q2⟩ => ?_
  exact hf v u s2 x y H2 I2 r1 r2 q2

theorem pe_op {op : Operator} {r : R2} (ho : OpR X (binaryOp op) r) (ha : PE X a ta) (hb : PE X b tb) : PE X (.BinOp a op b pos) (tOp r ta tb) := by
  intro pins s σ H Q I h
  exact wpAny_BinOp (binT ha hb I h fun v u s2 x y H2 I2 rx ry q => ho pins s2 σ H2 x y v u Q I2 rx ry q)
theorem pe_un {op : UnaryOp} {r : V → Hp → VK → Prop} (ho : UnR X (unaryOp op) r) (ha : PE X a ta) : PE X (.UnaryOp op a pos) (tUn r ta) := by
  intro pins s σ H Q I h
  exact UnaryOp_ (thn (ha pins s σ H _ I h) fun v s1 ⟨x, H1, I1, r1, q1⟩ => ho pins s1 σ H1 x v Q I1 r1 q1)
/-! ### ints -/
theorem opI {f : Value → Value → Sem Value} {C : Int → Int → Prop} {g : Int → Int → Int}
    (rule : ∀ (i j : Int) (t u : Tok) (s : Shared) (Q : Value → Shared → Prop) (E : Value → Shared → Prop), C i j → Q (.int (g i j) s.toks) { s with toks := s.toks + 1 } → wpAny (model X.prog X.w) X.A (f (.int i t) (.int j u)) Q E s) :
    OpR X f (rI C fun i j => .int (g i j)) := by
  intro pins s σ H x y v u Q I rx ry h
  obtain ⟨i, j, rfl, rfl, hc, q⟩ := h
  obtain ⟨t, rfl⟩ := rx
  obtain ⟨t', rfl⟩ := ry
  exact rule i j t t' s _ _ hc ⟨.int (g i j), H, I.tok _, ⟨_, rfl⟩, q⟩
theorem opI0 {f : Value → Value → Sem Value} {g : Int → Int → Int}
    (rule : ∀ (i j : Int) (t u : Tok) (s : Shared) (Q : Value → Shared → Prop) (E : Value → Shared → Prop), Q (.int (g i j) s.toks) { s with toks := s.toks + 1 } → wpAny (model X.prog X.w) X.A (f (.int i t) (.int j u)) Q E s) :
    OpR X f (rI0 fun i j => .int (g i j)) := by
  intro pins s σ H x y v u Q I rx ry h
  obtain ⟨i, j, rfl, rfl, q⟩ := h
  obtain ⟨t, rfl⟩ := rx
  obtain ⟨t', rfl⟩ := ry
  exact rule i j t t' s _ _ ⟨.int (g i j), H, I.tok _, ⟨_, rfl⟩, q⟩
theorem opB0 {f : Value → Value → Sem Value} {g : Int → Int → Bool}
    (rule : ∀ (i j : Int) (t u : Tok) (s : Shared) (Q : Value → Shared → Prop) (E : Value → Shared → Prop), Q (.bool (g i j)) s → wpAny (model X.prog X.w) X.A (f (.int i t) (.int j u)) Q E s) :
    OpR X f (rI0 fun i j => .bl (g i j)) := by
  intro pins s σ H x y v u Q I rx ry h
  obtain ⟨i, j, rfl, rfl, q⟩ := h
  obtain ⟨t, rfl⟩ := rx
  obtain ⟨t', rfl⟩ := ry
  exact rule i j t t' s _ _ ⟨.bl (g i j), H, I, rfl, q⟩

def CDiv (i j : Int) : Prop := 0 < j ∧ j < 1073741824
def CPow (i j : Int) : Prop := 0 ≤ j ∧ j ≤ 1000000 ∧ i.natAbs < 2 ^ 64
def CMul (i j : Int) : Prop := (-(2 ^ 64) < i ∧ i < 2 ^ 64) ∨ (-(2 ^ 64) < j ∧ j < 2 ^ 64)
theorem CMul.ok {i j : Int} (h : CMul i j) : IntMulOk i j := by
  rcases h with ⟨h1, h2⟩ | ⟨h1, h2⟩
  · exact .of_left (intBits_le_64 h1 h2)
  · exact .of_right (intBits_le_64 h1 h2)
theorem op_add : OpR X (binaryOp .Add) (rI0 fun i j => .int (i + j)) := opI0 fun _ _ _ _ _ _ _ q => add_int q
theorem op_sub : OpR X (binaryOp .Sub) (rI0 fun i j => .int (i - j)) := opI0 fun _ _ _ _ _ _ _ q => sub_int q
theorem op_mul : OpR X (binaryOp .Mult) (rI CMul fun i j => .int (i * j)) := opI fun _ _ _ _ _ _ _ hc q => mul_int q hc.ok
/-- // by a positive divisor -/
theorem op_fdiv : OpR X (binaryOp .FloorDiv) (rI CDiv fun i j => .int (i / j)) := opI fun i j _ _ _ _ _ hc q => by
  have h1 : (0 : Int) < j := hc.1
  have h2 : j < 1073741824 := hc.2
  exact floordiv_int (by omega) (by rw [Int.fdiv_eq_ediv_of_nonneg i (by omega)]; exact q) (.inl (PyProof.noPylong_small (by omega)))
/-- % by a positive divisor of any size -/
theorem op_mod : OpR X (binaryOp .Mod) (rI (fun _ j => 0 < j) fun i j => .int (i % j)) := opI fun i j _ _ _ _ _ hc q => by
  have h1 : (0 : Int) < j := hc
  exact mod_int' (by omega) (by rw [Int.fmod_eq_emod_of_nonneg i (by omega)]; exact q)
theorem op_pow : OpR X (binaryOp .Pow) (rI CPow fun i j => .int (i ^ j.toNat)) := opI fun _ _ _ _ _ _ _ hc q => pow_int_small hc.1 hc.2.1 hc.2.2 q
theorem unI {f : Value → Sem Value} {g : Int → Int}
    (rule : ∀ (i : Int) (t : Tok) (s : Shared) (Q : Value → Shared → Prop) (E : Value → Shared → Prop), Q (.int (g i) s.toks) { s with toks := s.toks + 1 } → wpAny (model X.prog X.w) X.A (f (.int i t)) Q E s) :
    UnR X f (rU fun i => .int (g i)) := by
  intro pins s σ H x v Q I rx h
  obtain ⟨i, rfl, q⟩ := h
  obtain ⟨t, rfl⟩ := rx
  exact rule i t s _ _ ⟨.int (g i), H, I.tok _, ⟨_, rfl⟩, q⟩
theorem un_neg : UnR X (unaryOp .USub) (rU fun i => .int (-i)) := unI fun _ _ _ _ _ q => neg_int q
/-! ### bools among ints: n += (a < b) -/
end

/-! ### comparisons -/
/-- the scalars that == tells apart as data does -/
def scal : V → V → Bool
  | .non, .non => true | .non, .int _ => true | .int _, .non => true | .non, .bl _ => true | .bl _, .non => true | .non, .str _ => true | .str _, .non => true
  | .int _, .int _ => true | .bl _, .bl _ => true | .str _, .str _ => true | .byt _, .byt _ => true
  | .int _, .str _ => true | .str _, .int _ => true | .bl _, .str _ => true | .str _, .bl _ => true
  | _, _ => false
def rEq : R2 := fun x y H Q => scal x y = true ∧ Q (.bl (decide (x = y))) H
def rNe : R2 := fun x y H Q => scal x y = true ∧ Q (.bl (!decide (x = y))) H

theorem dec_int {i j : Int} : decide (V.int i = V.int j) = (i == j) := by
  rw [Bool.eq_iff_iff]
  simp
theorem dec_bl {i j : Bool} : decide (V.bl i = V.bl j) = (i == j) := by
  rw [Bool.eq_iff_iff]
  simp
theorem dec_str {i j : Str} : decide (V.str i = V.str j) = (i == j) := by
  rw [Bool.eq_iff_iff]
  simp
theorem dec_byt {i j : Array UInt8} : decide (V.byt i = V.byt j) = (i.toList == j.toList) := by
  rw [Bool.eq_iff_iff]
  cases i
  cases j
  simp

section
variable {X : Cx} {a b c : Expr} {ta tb tc : TE} {pos : Pos}
theorem fin_bl {pins : List (Addr × Obj)} {σ : St} {H : Hp} {s : Shared} {Q : VK} {k k' : Bool} (I : Inv X pins σ H s) (q : Q (.bl k) H) (e : k = k') : EP X pins σ Q (.bool k') s := by
  subst e
  exact ⟨.bl k, H, I, rfl, q⟩
theorem op_eq : OpR X (compareOp .Eq) rEq := by
  intro pins s σ H x y v u Q I rx ry h
  obtain ⟨hs, q⟩ := h
  cases x with
  | non =>
    cases rx
    cases y with
    | non => cases ry; exact PySem.EqNone.eq_none_none (fin_bl I q (by simp))
    | bl j => cases ry; exact PySem.EqNone.eq_none_bool (fin_bl I q (by simp))
    | int j => obtain ⟨t', rfl⟩ := ry; exact PySem.EqNone.eq_none_int (fin_bl I q (by simp))
    | str j => obtain ⟨t', rfl⟩ := ry; exact PySem.EqNone.eq_none_str (fin_bl I q (by simp))
    | _ => exact absurd (show false = true from hs) Bool.false_ne_true
  | bl i =>
    cases rx
    cases y with
    | non => cases ry; exact PySem.EqNone.eq_bool_none (fin_bl I q (by simp))
    | bl j => cases ry; exact eq_bool (fin_bl I q dec_bl)
    | str j => obtain ⟨t', rfl⟩ := ry; exact PySem.EqMixed.eq_bool_str (fin_bl I q (by simp))
    | _ => exact absurd (show false = true from hs) Bool.false_ne_true
  | int i =>
    obtain ⟨t, rfl⟩ := rx
    cases y with
    | non => cases ry; exact PySem.EqNone.eq_int_none (fin_bl I q (by simp))
    | int j => obtain ⟨t', rfl⟩ := ry; exact eq_int (fin_bl I q dec_int)
    | str j => obtain ⟨t', rfl⟩ := ry; exact PySem.EqMixed.eq_int_str (fin_bl I q (by simp))
    | _ => exact absurd (show false = true from hs) Bool.false_ne_true
  | str i =>
    obtain ⟨t, rfl⟩ := rx
    cases y with
    | non => cases ry; exact PySem.EqNone.eq_str_none (fin_bl I q (by simp))
    | bl j => cases ry; exact PySem.EqMixed.eq_str_bool (fin_bl I q (by simp))
    | int j => obtain ⟨t', rfl⟩ := ry; exact PySem.EqMixed.eq_str_int (fin_bl I q (by simp))
    | str j => obtain ⟨t', rfl⟩ := ry; exact eq_str (fin_bl I q dec_str)
    | _ => exact absurd (show false = true from hs) Bool.false_ne_true
  | byt i =>
    obtain ⟨t, rfl⟩ := rx
    cases y with
    | byt j => obtain ⟨t', rfl⟩ := ry; exact PySem.W.eq_bytes (fin_bl I q dec_byt)
    | _ => exact absurd (show false = true from hs) Bool.false_ne_true
  | _ => cases y <;> exact absurd (show false = true from hs) Bool.false_ne_true
theorem op_ne : OpR X (compareOp .NotEq) rNe := by
  intro pins s σ H x y v u Q I rx ry h
  obtain ⟨hs, q⟩ := h
  cases x with
  | non =>
    cases rx
    cases y with
    | non => cases ry; exact PySem.EqNone.ne_none_none (fin_bl I q (by simp))
    | bl j => cases ry; exact PySem.EqNone.ne_none_bool (fin_bl I q (by simp))
    | int j => obtain ⟨t', rfl⟩ := ry; exact PySem.EqNone.ne_none_int (fin_bl I q (by simp))
    | str j => obtain ⟨t', rfl⟩ := ry; exact PySem.EqNone.ne_none_str (fin_bl I q (by simp))
    | _ => exact absurd (show false = true from hs) Bool.false_ne_true
  | bl i =>
    cases rx
    cases y with
    | non => cases ry; exact PySem.EqNone.ne_bool_none (fin_bl I q (by simp))
    | bl j => cases ry; exact ne_bool (fin_bl I q (congrArg not dec_bl))
    | str j => obtain ⟨t', rfl⟩ := ry; exact PySem.EqMixed.ne_bool_str (fin_bl I q (by simp))
    | _ => exact absurd (show false = true from hs) Bool.false_ne_true
  | int i =>
    obtain ⟨t, rfl⟩ := rx
    cases y with
    | non => cases ry; exact PySem.EqNone.ne_int_none (fin_bl I q (by simp))
    | int j => obtain ⟨t', rfl⟩ := ry; exact ne_int (fin_bl I q (congrArg not dec_int))
    | str j => obtain ⟨t', rfl⟩ := ry; exact PySem.EqMixed.ne_int_str (fin_bl I q (by simp))
    | _ => exact absurd (show false = true from hs) Bool.false_ne_true
  | str i =>
    obtain ⟨t, rfl⟩ := rx
    cases y with
    | non => cases ry; exact PySem.EqNone.ne_str_none (fin_bl I q (by simp))
    | bl j => cases ry; exact PySem.EqMixed.ne_str_bool (fin_bl I q (by simp))
    | int j => obtain ⟨t', rfl⟩ := ry; exact PySem.EqMixed.ne_str_int (fin_bl I q (by simp))
    | str j => obtain ⟨t', rfl⟩ := ry; exact ne_str (fin_bl I q (congrArg not dec_str))
    | _ => exact absurd (show false = true from hs) Bool.false_ne_true
  | byt i =>
    obtain ⟨t, rfl⟩ := rx
    cases y with
    | byt j => obtain ⟨t', rfl⟩ := ry; exact PySem.W.ne_bytes (fin_bl I q (congrArg not dec_byt))
    | _ => exact absurd (show false = true from hs) Bool.false_ne_true
  | _ => cases y <;> exact absurd (show false = true from hs) Bool.false_ne_true

theorem op_lt : OpR X (compareOp .Lt) (rI0 fun i j => .bl (decide (i < j))) := opB0 fun _ _ _ _ _ _ _ q => lt_int q
theorem op_le : OpR X (compareOp .LtE) (rI0 fun i j => .bl (decide (i ≤ j))) := opB0 fun _ _ _ _ _ _ _ q => le_int q
theorem op_gt : OpR X (compareOp .Gt) (rI0 fun i j => .bl (decide (j < i))) := opB0 fun _ _ _ _ _ _ _ q => gt_int q
theorem op_ge : OpR X (compareOp .GtE) (rI0 fun i j => .bl (decide (j ≤ i))) := opB0 fun _ _ _ _ _ _ _ q => ge_int q
/-- two rules for one operation: by cases -/
theorem OpR.or {f : Value → Value → Sem Value} {r r' : R2} (h : OpR X f r) (h' : OpR X f r') : OpR X f (fun x y H Q => r x y H Q ∨ r' x y H Q) := by
  intro pins s σ H x y v u Q I rx ry q
  rcases q with q | q
  · exact h pins s σ H x y v u Q I rx ry q
  · exact h' pins s σ H x y v u Q I rx ry q

theorem nomark (b : Expr) {op : CmpOp} (h : op ≠ .In := by decide) (h2 : op ≠ .NotIn := by decide) : behindInMarks op b = false := by
  have e1 : (op == CmpOp.In) = false := by cases op <;> first | rfl | exact absurd rfl h
  have e2 : (op == CmpOp.NotIn) = false := by cases op <;> first | rfl | exact absurd rfl h2
  cases b <;> simp [behindInMarks, e1, e2]
/-- a comparison as a value; hm: nomark b, or (for in, not in) by with_unfolding_all rfl -/
theorem pe_cmpR {op : CmpOp} {r : R2} (ho : OpR X (compareOp op) r) (ha : PE X a ta) (hb : PE X b tb) (hm : behindInMarks op b = false) : PE X (.Compare a [op] [b] pos) (tOp r ta tb) := by
  intro pins s σ H Q I h
  exact wpAny_Compare1 (binT ha hb I h fun v u s2 x y H2 I2 rx ry q => ho pins s2 σ H2 x y v u Q I2 rx ry q) hm
/-- a reading of a value as a test -/
def tTest (t : TE) : TT := fun σ H Q => t σ H fun x H' => ∃ k, x = .bl k ∧ Q k H'
theorem pt_cmpR {op : CmpOp} {r : R2} (ho : OpR X (compareOp op) r) (ha : PE X a ta) (hb : PE X b tb) (hm : behindInMarks op b = false) : PT X (.Compare a [op] [b] pos) (tTest (tOp r ta tb)) := by
  intro pins s σ H Q I h
  refine wpAny_isTrue_Compare1 (thn (ha pins s σ H _ I h) fun v s1 ⟨x, H1, I1, r1, q1⟩ => thn (hb pins s1 σ H1 _ I1 q1) fun u s2 ⟨y, H2, I2, r2, q2⟩ =>
    thn (ho pins s2 σ H2 x y v u _ I2 r1 r2 q2) fun c s3 ⟨z, H3, I3, r3, k, e, q3⟩ => ?_) hm
  subst e
  cases r3
  exact wpAny_truthy_bool ⟨H3, I3, q3⟩
/-- a op1 b op2 c -/
def tChain (r r' : R2) (ta tb tc : TE) : TE := fun σ H Q => ta σ H fun x H1 => tb σ H1 fun y H2 => r x y H2 fun z H3 => ∃ k, z = .bl k ∧
  (if k = true then tc σ H3 fun w' H4 => r' y w' H4 Q else Q (.bl false) H3)
theorem pe_chain {op op' : CmpOp} {r r' : R2} (ho : OpR X (compareOp op) r) (ho' : OpR X (compareOp op') r') (ha : PE X a ta) (hb : PE X b tb) (hc : PE X c tc)
    (hm : lastMarks [op, op'] [b, c] = false := by with_unfolding_all rfl) : PE X (.Compare a [op, op'] [b, c] pos) (tChain r r' ta tb tc) := by
  intro pins s σ H Q I h
  refine Compare_chain (thn (ha pins s σ H _ I h) fun v s1 ⟨x, H1, I1, r1, q1⟩ => chain_link (thn (hb pins s1 σ H1 _ I1 q1) fun u s2 ⟨y, H2, I2, r2, q2⟩ =>
    thn (ho pins s2 σ H2 x y v u _ I2 r1 r2 q2) fun d s3 ⟨z, H3, I3, r3, k, e, q3⟩ => ?_)) hm
  subst e
  cases r3
  refine wpAny_truthy_bool ?_
  cases k with
  | false => exact ite_ff ⟨.bl false, H3, I3, rfl, q3⟩
  | true => exact ite_tt (chain_last (thn (hc pins s3 σ H3 _ I3 q3) fun w' s4 ⟨z', H4, I4, r4, q4⟩ => ho' pins s4 σ H4 y z' u w' Q I4 r2 r4 q4))
/-! ### truth -/
theorem line63 : (sizeLine : Nat) < 2 ^ 63 := by rw [sizeLine_eq]; decide
/-! ### strs and bytes -/
/-! ### scalar builtins, by CallR -/
theorem vals1 {x : V} {us : List Value} (r : Vals [x] us) : ∃ u, us = [u] ∧ RelV x u := by
  cases r with
  | cons r1 r2 => cases r2; exact ⟨_, rfl, r1⟩
theorem vals2 {x y : V} {us : List Value} (r : Vals [x, y] us) : ∃ u w', us = [u, w'] ∧ RelV x u ∧ RelV y w' := by
  cases r with
  | cons r1 r2 =>
    cases r2 with
    | cons r3 r4 => cases r4; exact ⟨_, _, rfl, r1, r3⟩
theorem call_int1 : CallR X (.type "int") (fun xs H Q => (∃ i, xs = [.int i] ∧ Q (.int i) H) ∨ ∃ k, xs = [.bl k] ∧ Q (.int (if k then 1 else 0)) H) := by
  intro pins s σ H xs us Q I r h
  rcases h with ⟨i, rfl, q⟩ | ⟨k, rfl, q⟩
  · obtain ⟨u, rfl, t, rfl⟩ := vals1 r
    exact call_int_int ⟨.int i, H, I, ⟨_, rfl⟩, q⟩
  · obtain ⟨u, rfl, r1⟩ := vals1 r
    cases r1
    exact call_int_bool ⟨.int (if k then 1 else 0), H, I.tok _, ⟨_, rfl⟩, q⟩
theorem call_str_int : CallR X (.type "str") (fun xs H Q => ∃ i, xs = [.int i] ∧ i.natAbs.log2 < 1920 ∧ Q (.str (toString i)) H) := by
  intro pins s σ H xs us Q I r h
  obtain ⟨i, rfl, hz, q⟩ := h
  obtain ⟨u, rfl, t, rfl⟩ := vals1 r
  exact PySem.P.str_of_int hz ⟨.str _, H, I.tok _, ⟨_, rfl⟩, q⟩
end
end L2

namespace L2
open PySem PySem.Spec PyProof.Rows

/-! ### an instance, its attributes a map -/
structure ObjM (h : Heap) (x dx C : Addr) (mA : Str → Option Value) : Prop where
  obj : h.get? x = some (PySem.W.instObj C dx)
  ns : h.Ns1 dx mA
  ne : dx ≠ x

theorem lookIn_ns {h : Heap} {dx : Addr} {mA : Str → Option Value} (n : h.Ns1 dx mA) : ∃ od, h.get? dx = some od ∧ ∀ name, PySem.W.lookIn name od = some (mA name) := by
  obtain ⟨o, es, ep, ho, hd, hk, _, hm⟩ := n
  refine ⟨o, ho, fun name => ?_⟩
  have e := hm name
  unfold nsFind findBy at e
  rw [← Array.find?_toList] at e
  unfold PySem.W.lookIn
  rw [hd]
  dsimp only
  split
  · rename_i y q
    rw [q] at e
    exact congrArg some e
  · rename_i q
    rw [q] at e
    have a : es.toList.any (·.refKey) = false := by
      rw [List.any_eq_false]
      intro y hy
      obtain ⟨z, t, hkey⟩ := hk y (Array.mem_toList_iff.mp hy)
      simp [DictEntry.refKey, hkey]
    have a' : ¬ es.toList.any (·.refKey) = true := by rw [a]; exact Bool.false_ne_true
    rw [if_neg a']
    exact congrArg some e

theorem ObjM.look {h : Heap} {x dx C : Addr} {mA : Str → Option Value} (I : ObjM h x dx C mA) : ∃ od, PySem.W.InstAt h x (PySem.W.instObj C dx) C (some od) ∧ ∀ name, PySem.W.lookIn name od = some (mA name) :=
  let ⟨od, ho, hl⟩ := lookIn_ns I.ns
  ⟨od, ⟨I.obj, rfl, rfl, ho⟩, hl⟩

section
variable {prog : Program} {w : World} {A : Around} {E : Value → Shared → Prop} {s : Shared} {K : PySem.W.Frag} {x dx C f : Addr} {mA : Str → Option Value} {name : Str} {v : Value}

end

/-! ### the attributes as a list of pairs -/
theorem RelO.some_of {v : V} {o : Option Value} (r : RelO (some v) o) : ∃ u, o = some u ∧ RelV v u := by
  cases o with
  | none => exact (show False from r).elim
  | some u => exact ⟨u, rfl, r⟩
section
variable {P : Program} {w : World} {H H' : Hp} {h h' : Heap} {a C dx : Addr} {fs fs' : List (Str × V)}
theorem ins_get (hok : HOk P w H h) (e : H a = some (.ins C dx fs)) : ∃ mA, ObjM h a dx C mA ∧ (∀ f, RelO (fs.lookup f) (mA f)) ∧ PySem.Within mA (fs.map (·.1)) ∧ fs.length ≤ 1000 ∧ H dx = some (.own a) := by
  obtain ⟨d, z, ne, ob, mA, n, r, q⟩ := (show ObjOk P w H h a (.ins C dx fs) from hok a _ e)
  exact ⟨mA, ⟨ob, n, ne⟩, r, q, z, d⟩
end

/-! ### what of the text a class must have -/
structure Cls (K : PySem.W.Frag) (C : Addr) : Prop where
  pg : PySem.W.plainGet K C Str.empty = true
  hd : PySem.W.hasDictIn K C = true
  po : PySem.W.plainOver K C = true
  sa : PySem.W.findIn K (.ref C) "__setattr__" = some (some (.builtin "object.__setattr__"))
theorem Cls.get {K : PySem.W.Frag} {C : Addr} (c : Cls K C) (f : Str) : PySem.W.plainGet K C f = true := c.pg
/-- a constant of the class -/
structure Con (K : PySem.W.Frag) (C : Addr) (f : Str) (v : V) (u : Value) : Prop where
  at_ : PySem.W.findIn K (.ref C) f = some (some u)
  rel : RelV v u
  get : PySem.W.specialIn K u "__get__" = some none
  cp : PySem.W.copiedNames.contains f = false
/-- a method: a plain def of the class or of one above it -/
structure Meth (K : PySem.W.Frag) (C : Addr) (m : Str) (f : Addr) : Prop where
  at_ : PySem.W.findIn K (.ref C) m = some (some (.ref f))
  fn : PySem.W.isFn K (.ref f) = true
  kp : PySem.W.keepIn K (.ref f) = true

section
variable {X : Cx} {pins : List (Addr × Obj)} {σ : St} {H : Hp} {s : Shared} {a C dx : Addr} {fs : List (Str × V)} {f : Str} {v : V} {A : Around} {E : Value → Shared → Prop}

/-- a new instance, tracked, without attributes -/
theorem Inv.made (I : Inv X pins σ H s) : Inv X pins σ (upd (upd H s.heap.objs.size (.own (s.heap.objs.size + 1))) (s.heap.objs.size + 1) (.ins C s.heap.objs.size []))
    { s with heap := (s.heap.push PySem.W.emptyDict).push (PySem.W.instObj C s.heap.objs.size) } := by
  have e1 : (s.heap.push PySem.W.emptyDict).get? s.heap.objs.size = some PySem.W.emptyDict := Heap.get?_push_size s.heap rfl
  have e2 : ((s.heap.push PySem.W.emptyDict).push (PySem.W.instObj C s.heap.objs.size)).get? (s.heap.objs.size + 1) = some (PySem.W.instObj C s.heap.objs.size) := by
    have := Heap.get?_push_size (s.heap.push PySem.W.emptyDict) (o := PySem.W.instObj C s.heap.objs.size) rfl
    rwa [Heap.size_push] at this
  have e3 : (s.heap.push PySem.W.emptyDict).Ns s.heap.objs.size (fun _ => none) := ⟨PySem.W.emptyDict, #[], _, e1, rfl, (fun e he => absurd he (by simp)), fun _ => rfl⟩
  have I1 := I.laid (a := s.heap.objs.size) (o := .own (s.heap.objs.size + 1)) (h' := s.heap.push PySem.W.emptyDict) (t' := s.toks) (fun b u q => Heap.get?_push_of_some _ q) (Nat.le_refl _) ⟨_, e1⟩
  refine I1.laid (a := s.heap.objs.size + 1) (o := .ins C s.heap.objs.size []) (t' := s.toks) (fun b u q => Heap.get?_push_of_some _ q) (Nat.le_of_eq (Heap.size_push _ _)) ?_
  have ne : s.heap.objs.size ≠ s.heap.objs.size + 1 := Nat.ne_of_lt (Nat.lt_succ_self _)
  refine ⟨by rw [upd_ne ne, upd_same], Nat.zero_le _, ne, e2, fun _ => none, (Heap.Ns1.of_empty e3).at fun o q => Heap.get?_push_of_some _ q, fun _ => True.intro, fun y hy => absurd rfl hy⟩

end

/-! ### readings and rules -/
section
variable {X : Cx} {o e value : Expr} {f : Str} {pos pos' tpos : Pos} {ta tv : TE}
end

/-! ### isinstance -/
section
variable {X : Cx} {pins : List (Addr × Obj)} {σ : St} {H : Hp} {s : Shared} {A : Around} {E : Value → Shared → Prop} {Q : Value → Shared → Prop} {c : Value} {b : Bool}
/-- the type of a value, as the fragment's deciders take it; for an instance its class -/
inductive TyOf (K : PySem.W.Frag) (H : Hp) : V → Value → Prop where
  | non : TyOf K H .non (.type "NoneType")
  | bl (x : Bool) : TyOf K H (.bl x) (.type "bool")
  | int (i : Int) : TyOf K H (.int i) (.type "int")
  | str (x : Str) : TyOf K H (.str x) (.type "str")
  | flt (x : UInt64) : TyOf K H (.flt x) (.type "float")
  | lst {a : Addr} {xs : List V} (e : H a = some (.lst xs)) : TyOf K H (.ref a) (.type "list")
  | frz {a : Addr} {o : Obj} {xs : List V} (e : H a = some (.frz o (.lst xs))) : TyOf K H (.ref a) (.type "list")
  | tup {a : Addr} {xs : List V} (e : H a = some (.tup xs)) : TyOf K H (.ref a) (.type "tuple")
  | dK {a : Addr} {kvs : List (Key × V)} (e : H a = some (.dK kvs)) : TyOf K H (.ref a) (.type "dict")
  | dT {a : Addr} {kvs : List (List Key × V)} (e : H a = some (.dT kvs)) : TyOf K H (.ref a) (.type "dict")
  | ins {a C dx : Addr} {fs : List (Str × V)} (e : H a = some (.ins C dx fs)) (cl : Cls K C) (ha : PySem.W.findIn K (.ref C) "__class__" = some (some (.builtin "object.__class__")))
      (hn : PySem.W.specialIn K (.builtin "object.__class__") "__get__" = some (some (.builtin "getset_descriptor.__get__"))) (htk : PySem.W.takesIn K (.builtin "object.__class__") = some true)
      (hm : PySem.W.mroIn K C (.type "object") = some true) : TyOf K H (.ref a) (.ref C)
/-- isinstance(x, c) for one class c, a built-in or an own one: kitOne's answer -/
theorem isinst_ok {x : V} {u t : Value} (I : Inv X pins σ H s) (rx : RelV x u) (ty : TyOf X.K H x t) (e : PySem.W.kitOne X.K t c = some b) (h : ∀ tk, Q (.bool b) { s with toks := tk }) :
    wpAny (model X.prog X.w) A (call (.builtin "isinstance") [u, c]) Q E s := by
  cases ty with
  | non => cases (show u = Value.none from rx); exact PySem.W.kia_one PySem.W.kitx_none I.kIn True.intro e (fun z => nomatch z) h
  | bl y => cases (show u = Value.bool y from rx); exact PySem.W.kia_one PySem.W.kitx_bool I.kIn True.intro e (fun z => nomatch z) h
  | int i => obtain ⟨t, q⟩ := (show ∃ t, u = Value.int i t from rx); cases q; exact PySem.W.kia_one PySem.W.kitx_int I.kIn True.intro e (fun z => nomatch z) h
  | str y => obtain ⟨t, q⟩ := (show ∃ t, u = Value.str y t from rx); cases q; exact PySem.W.kia_one PySem.W.kitx_str I.kIn True.intro e (fun z => nomatch z) h
  | flt y => obtain ⟨t, q⟩ := (show ∃ t, u = Value.float y t from rx); cases q; exact PySem.W.kia_one PySem.W.kitx_float I.kIn True.intro e (fun z => nomatch z) h
  | @lst a xs ea =>
    cases (show u = Value.ref a from rx)
    obtain ⟨_, _, n, _, h1⟩ := (show ObjOk X.prog X.w H s.heap a (.lst xs) from I.hok a _ ea)
    exact PySem.W.kia_one PySem.W.kitx_list I.kIn ⟨_, h1, rfl⟩ e (fun z => nomatch z) h
  | @frz a ob xs ea =>
    cases (show u = Value.ref a from rx)
    obtain ⟨_, _, _, n, _, h1⟩ := (show ObjOk X.prog X.w H s.heap a (.frz ob (.lst xs)) from I.hok a _ ea)
    exact PySem.W.kia_one PySem.W.kitx_list I.kIn ⟨_, h1, rfl⟩ e (fun z => nomatch z) h
  | @tup a xs ea =>
    cases (show u = Value.ref a from rx)
    obtain ⟨_, _, _, p⟩ := (show ObjOk X.prog X.w H s.heap a (.tup xs) from I.hok a _ ea)
    obtain ⟨o, h1, h2, _⟩ := p
    exact PySem.W.kia_one PySem.W.kitx_tuple I.kIn ⟨o, h1, h2⟩ e (fun z => nomatch z) h
  | @dK a kvs ea =>
    cases (show u = Value.ref a from rx)
    obtain ⟨_, _, vs, _, p⟩ := (show ObjOk X.prog X.w H s.heap a (.dK kvs) from I.hok a _ ea)
    obtain ⟨o, es, ep, h1, h2, _⟩ := p
    exact PySem.W.kia_one PySem.W.kitx_dict I.kIn ⟨o, h1, h2.1⟩ e (fun z => nomatch z) h
  | @dT a kvs ea =>
    cases (show u = Value.ref a from rx)
    obtain ⟨_, _, xs, _, o, es, ep, h1, h2, _⟩ := (show ObjOk X.prog X.w H s.heap a (.dT kvs) from I.hok a _ ea)
    exact PySem.W.kia_one PySem.W.kitx_dict I.kIn ⟨o, h1, h2.1⟩ e (fun z => nomatch z) h
  | @ins a C dx fs ea cl ha hn htk hm =>
    cases (show u = Value.ref a from rx)
    obtain ⟨mA, O, _⟩ := ins_get I.hok ea
    obtain ⟨od, J, _⟩ := O.look
    exact PySem.W.kia_one (PySem.W.kitx_own (cl.get _) cl.hd ha hn htk hm) I.kIn J e (fun z => nomatch z) h
end
end L2

namespace L2
open PySem PySem.Spec PyProof.Rows

/-! ### room -/
structure Room (k : Nat) (A : Around) : Prop where
  hd : A.handled = none
  dp : A.depth + 3 * k + 5 < recursionLimit
  un : A.units + 16 * k + 200 < cLine
  gd : A.guards = some []
theorem Room.mono {j k : Nat} {A : Around} (r : Room k A) (h : j ≤ k) : Room j A := ⟨r.hd, by have := r.dp; omega, by have := r.un; omega, r.gd⟩
theorem Room.deeper {k : Nat} {A : Around} (r : Room (k + 1) A) (env : Env) : Room k (A.deeper env) :=
  ⟨r.hd, by have := r.dp; show A.depth + 1 + 3 * k + 5 < _; omega, by have := r.un; show A.units + 3 + 16 * k + 200 < _; omega, r.gd⟩
theorem Room.in1 {k : Nat} {A : Around} (r : Room (k + 1) A) : Room k A.in1 :=
  ⟨r.hd, by have := r.dp; show A.depth + 3 * k + 5 < _; omega, by have := r.un; show A.units + 1 + 16 * k + 200 < _; omega, r.gd⟩
theorem Room.depth {k : Nat} {A : Around} (r : Room k A) : A.depth < recursionLimit := by have := r.dp; omega
theorem Room.units {k : Nat} {A : Around} (r : Room k A) : A.units + 64 < cLine := by have := r.un; omega
/-! ### argument lists and displays -/
def tNil : TA := fun _ H Q => Q [] H
def tCons (ta : TE) (tr : TA) : TA := fun σ H Q => ta σ H fun x H1 => tr σ H1 fun xs H2 => Q (x :: xs) H2
section
variable {X : Cx} {e : Expr} {es : List Expr} {te : TE} {t : TA} {pos : Pos}
theorem pa_nil : PA X [] tNil := fun _ _ _ _ H Q I h => Calls.spliced_nil ⟨[], H, I, .nil, h⟩
theorem pa_cons (ha : PE X e te) (hr : PA X es t) (hs : starEach (e :: es) X.env = (false, eval e X.env) :: starEach es X.env := by rfl) : PA X (e :: es) (tCons te t) := by
  intro pos pins s σ H Q I h
  rw [hs]
  show wpAny _ _ (spliced ((false, eval e X.env) :: backTo pos (starEach es X.env))) _ _ s
  refine Calls.spliced_cons (thn (ha pins s σ H _ I h) fun u s1 ⟨x, H1, I1, r1, q1⟩ => ?_)
  exact thn (hr pos pins s1 σ H1 _ I1 q1) fun us s2 ⟨xs, H2, I2, r2, q2⟩ => ⟨x :: xs, H2, I2, .cons r1 r2, q2⟩

/-- a tuple, a list of written items -/
def tTup (t : TA) : TE := fun σ H Q => t σ H fun xs H1 => xs.length ≤ sizeLine ∧ ∀ p, H1 p = none → Q (.ref p) (upd H1 p (.tup xs))
def tLst (t : TA) : TE := fun σ H Q => t σ H fun xs H1 => xs.length ≤ sizeLine ∧ ∀ p, H1 p = none → Q (.ref p) (upd H1 p (.lst xs))
theorem pe_tup {x1} (h : PA X es t) : PE X (.Tuple es x1 pos) (tTup t) := by
  intro pins s σ H Q I hq
  refine wpAny_Tuple_spliced (thn (h pos pins s σ H _ I hq) fun us s1 ⟨xs, H1, I1, r, z, q⟩ => ⟨by rw [← r.length]; exact z, ?_⟩)
  have hf : H1 s1.heap.objs.size = none := I1.hok.fresh (Nat.le_refl _)
  refine ⟨.ref s1.heap.objs.size, upd H1 s1.heap.objs.size (.tup xs), I1.laid (t' := s1.toks) (fun b u e => Heap.get?_push_of_some _ e) (Nat.le_refl _) ?_, rfl, q _ hf⟩
  exact ⟨z, us, r, ⟨_, Heap.get?_push_size _ rfl, rfl, _, rfl, rfl⟩⟩
theorem pe_lst (h : PA X es t) : PE X (.List es pos) (tLst t) := by
  intro pins s σ H Q I hq
  refine wpAny_List_spliced (thn (h pos pins s σ H _ I hq) fun us s1 ⟨xs, H1, I1, r, z, q⟩ => ⟨by rw [← r.length]; exact z, ?_⟩)
  have hf : H1 s1.heap.objs.size = none := I1.hok.fresh (Nat.le_refl _)
  refine ⟨.ref s1.heap.objs.size, upd H1 s1.heap.objs.size (.lst xs), I1.laid (t' := s1.toks) (fun b u e => Heap.get?_push_of_some _ e) (Nat.le_refl _) ?_, rfl, q _ hf⟩
  exact ⟨z, us, 0, r, Heap.get?_push_size _ rfl⟩
end

/-! ### what a def promises -/
/-- a def's promise: the bound arguments in the parameters' order, the heap, the wanted end, the wanted exception -/
abbrev Sp := List V → Hp → VK → XK → Prop
/-- how an exception lies behind a call (file 08 gives it): the callers' frames, abstract heap and state ahead of the call, the wish, the exception, the state -/
abbrev CXT := List Env → Hp → Shared → XK → Value → Shared → Prop

/-- the state at a call -/
structure Env0 (P : Program) (w : World) (K : PySem.W.Frag) (mg : Str → Option Value) (base : Heap) (A : Around) (outer : List Env) (s : Shared) (H : Hp) : Prop where
  frames : A.frames = some outer
  mod : Mod K mg base
  bs : ∀ b o, base.get? b = some o → s.heap.get? b = some o ∧ H b = none
  bsz : base.objs.size ≤ s.heap.objs.size
  funs : s.heap.FunFrames base outer
  frf : ∀ b ∈ frs outer, H b = none
  hok : HOk P w H s.heap
  bare : AllBare s.gens
/-- a call's end -/
def CE (outer : List Env) (P : Program) (w : World) (H : Hp) (s : Shared) (Q : VK) (u : Value) (s' : Shared) : Prop :=
  ∃ v H', s'.os = s.os ∧ AllBare s'.gens ∧ Un (frs outer) [] H H' s.heap s'.heap ∧ HOk P w H' s'.heap ∧ RelV v u ∧ Q v H'
def CR (CX : CXT) (outer : List Env) (P : Program) (w : World) (H : Hp) (s : Shared) (Q : VK) (E : XK) (r : Result) (s' : Shared) : Prop :=
  match r with
  | .ok (.ret u) => CE outer P w H s Q u s'
  | .ok _ => False
  | .error e => CX outer H s E e s'
structure FnOk (P : Program) (w : World) (K : PySem.W.Frag) (mg : Str → Option Value) (base : Heap) (CX : CXT) (k : Nat) (f : Addr) (fd : FuncData) (ps : List Str) (sp : Sp) : Prop where
  len : ∀ vs H Q E, sp vs H Q E → vs.length = ps.length
  run : ∀ (A : Around) (outer : List Env) (s : Shared) (H : Hp) (args : Args) (us : List Value) (vs : List V) (Q : VK) (E : XK), Room k A → Env0 P w K mg base A outer s H → BindsTo s fd args (ps.zip us) → Vals vs us → sp vs H Q E →
    codeAny (model P w) A (.call (.ref f) args) (CR CX outer P w H s Q E) s
theorem FnOk.mono {P : Program} {w : World} {K : PySem.W.Frag} {mg : Str → Option Value} {base : Heap} {CX : CXT} {j k : Nat} {f : Addr} {fd : FuncData} {ps : List Str} {sp : Sp} (F : FnOk P w K mg base CX j f fd ps sp) (h : j ≤ k) :
    FnOk P w K mg base CX k f fd ps sp := ⟨F.len, fun A outer s H args us vs Q E hr => F.run A outer s H args us vs Q E (hr.mono h)⟩
theorem Env0.in1 {P : Program} {w : World} {K : PySem.W.Frag} {mg : Str → Option Value} {base : Heap} {A : Around} {outer : List Env} {s : Shared} {H : Hp} (e : Env0 P w K mg base A outer s H) :
    Env0 P w K mg base A.in1 outer s H := ⟨e.frames, e.mod, e.bs, e.bsz, e.funs, e.frf, e.hok, e.bare⟩

section
variable {X : Cx} {pins : List (Addr × Obj)} {σ : St} {H : Hp} {s s' : Shared}
/-- from a body: what a callee wants -/
theorem Inv.env0 (I : Inv X pins σ H s) : Env0 X.prog X.w X.K X.mg X.base X.A X.stack s H :=
  ⟨I.ok.frames, I.ok.mod, I.bs, Nat.le_trans I.ok.bsz I.sz, I.stack, I.stkFree, I.hok, I.bare⟩
/-- behind a call -/
theorem Inv.after {Q : VK} {u : Value} (I : Inv X pins σ H s) (h : CE X.stack X.prog X.w H s Q u s') : EP X pins σ Q u s' := by
  obtain ⟨v, H', os, bare, un, hok, r, q⟩ := h
  obtain ⟨hh, g, d, t, os'⟩ := s'
  obtain rfl : os' = s.os := os
  exact ⟨v, H', I.call (h' := hh) (g' := g) (d' := d) (t' := t) (ch := []) un hok bare (fun b z => absurd z (by simp)), r, q⟩
end

/-! ### calls -/
/-- f(..): the written arguments, then the defaults dvs; E: what is wanted of an exception -/
def tCall (sp : Sp) (dvs : List V) (E : XK) (t : TA) : TE := fun σ H Q => t σ H fun vs H1 => sp (vs ++ dvs) H1 Q E
/-- how the parameters are bound: us the positional arguments, kw the keywords' values by name, ds the defaults that fill up -/
def Binds (K : PySem.W.Frag) (fd : FuncData) (ps : List Str) (ds : List Value) : Prop :=
  ∀ (s : Shared) (us : List Value), K.In s.heap → (us ++ ds).length = ps.length → BindsTo s fd ⟨us, []⟩ (ps.zip (us ++ ds))
/-- every parameter is given -/
theorem Binds.all {K : PySem.W.Frag} {fd : FuncData} {ps : List Str} (h : ∀ us : List Value, us.length = ps.length → bindArgs fd ⟨us, []⟩ = pure (ps.zip us)) : Binds K fd ps [] := fun s us _ hl => by
  rw [List.append_nil] at hl ⊢
  exact .of_eq (h us hl)

/-- an exception of a callee reaches what this body wants of exceptions -/
def Passes (CX : CXT) (X : Cx) (E : XK) : Prop := ∀ (pins : List (Addr × Obj)) (σ : St) (H : Hp) (s : Shared) (e : Value) (s' : Shared), Inv X pins σ H s → CX X.stack H s E e s' → X.xe e s'

section
variable {X : Cx} {CX : CXT} {k : Nat} {f C : Addr} {fd : FuncData} {ps : List Str} {sp : Sp} {dvs : List V} {ds : List Value} {E : XK} {x m : Str} {p pos apos : Pos} {e o : Expr} {es : List Expr} {ta : TE} {t : TA}

/-- the callee runs -/
theorem run_fn {pins : List (Addr × Obj)} {σ : St} {H : Hp} {s : Shared} {Q : VK} {us : List Value} {vs : List V} (F : FnOk X.prog X.w X.K X.mg X.base CX k f fd ps sp) (hr : Room k X.A) (hb : Binds X.K fd ps ds) (hd : Vals dvs ds) (hx : Passes CX X E)
    (I : Inv X pins σ H s) (r : Vals vs us) (h : sp (vs ++ dvs) H Q E) : wpAny (model X.prog X.w) X.A (call (.ref f) us) (EP X pins σ Q) X.xe s := by
  have r2 : Vals (vs ++ dvs) (us ++ ds) := r.append hd
  have hl : (us ++ ds).length = ps.length := by rw [← r2.length]; exact F.len _ _ _ _ h
  refine wpAny_call (codeAny_mono (F.run X.A X.stack s H ⟨us, []⟩ (us ++ ds) (vs ++ dvs) Q E hr I.env0 (hb s us I.kIn hl) r2 h) fun r s' hq => ?_)
  cases r with
  | error e => exact hx pins σ H s e s' I hq
  | ok fl =>
    cases fl with
    | ret u => exact I.after hq
    | next => exact False.elim hq
    | brk => exact False.elim hq
    | cont => exact False.elim hq

theorem pe_call (F : FnOk X.prog X.w X.K X.mg X.base CX k f fd ps sp) (hr : Room k X.A) (hg : Gl X x) (hm : X.mg x = some (.ref f)) (hk : PySem.W.keepIn X.K (.ref f) = true) (hb : Binds X.K fd ps ds) (hd : Vals dvs ds) (hx : Passes CX X E)
    (ha : PA X (e :: es) t) (hdb : (x == ("__debug__" : Str)) = false := by decide) (he : starEach (e :: es) X.env = (false, eval e X.env) :: starEach es X.env := by rfl) (hpl : (backTo pos (starEach es X.env)).any (·.1) = false := by rfl) :
    PE X (.Call (.Name x p) (e :: es) [] pos) (tCall sp dvs E t) := by
  intro pins s σ H Q I h
  refine wpAny_Call_Name_kw (ld_glob I hg hm ?_ hdb)
  refine PySem.W.callWith_K (h₀ := X.base) I.ok.mod.kin hk (thn (ha pos pins s σ H _ I h) fun us s1 ⟨vs, H1, I1, r, q⟩ => ⟨I1.kIn, ?_⟩) he hpl
  exact run_fn F hr hb hd hx I1 r q
/-- what a class must have to be made -/
structure Mk (K : PySem.W.Frag) (C f : Addr) : Prop where
  makes : PySem.W.makesIn K C = true
  init : PySem.W.findIn K (.ref C) "__init__" = some (some (.ref f))
  fn : PySem.W.isFn K (.ref f) = true
  kp : PySem.W.keepIn K (.ref C) = true

end

/-! ### keywords -/
section
variable {X : Cx} {CX : CXT} {k : Nat} {f C : Addr} {fd : FuncData} {ps ks : List Str} {sp : Sp} {E : XK} {x m : Str} {p pos apos kpos : Pos} {e o : Expr} {es : List Expr} {kws : List Keyword} {te ta : TE} {t tk : TA} {nm : Option Str}
/-- how a call with keywords binds: g puts the positional values us and the keywords' values ws (names ks) in the parameters' order, defaults among them -/
structure KBinds (K : PySem.W.Frag) (fd : FuncData) (ps ks : List Str) (g : List Value → List Value → List Value) (gV : List V → List V → List V) : Prop where
  to : ∀ (s : Shared) (us ws : List Value), K.In s.heap → (g us ws).length = ps.length → BindsTo s fd ⟨us, ks.zip ws⟩ (ps.zip (g us ws))
  rel : ∀ {vs : List V} {us : List Value} {zs : List V} {ws : List Value}, Vals vs us → Vals zs ws → Vals (gV vs zs) (g us ws)
variable {g : List Value → List Value → List Value} {gV : List V → List V → List V}
end

/-! ### a def's body keeps its promise -/
/-- names: the parameters first -/
structure FnScope (N P : List Str) (sc : Scope) : Prop where
  kind : sc.kind = .function
  co : sc.isCoroutine = false
  gen : sc.isGenerator = false
  nd : N.Nodup
  pre : N.take P.length = P
  par : ∀ x ∈ P, sc.names.lookup x = some .local ∨ sc.names.lookup x = some .cell
  nofree : ∀ y ∈ sc.names, y.2 ≠ .free

theorem bindL_out {kindOf : Str → Option NameKind} {x : Str} : ∀ {binds : List (Str × Value)} {m : Str → Option Value}, (∀ v, (x, v) ∉ binds) → bindL kindOf binds m x = m x
  | [], _, _ => rfl
  | (n, v) :: r, m, h => by
    unfold bindL
    rw [bindL_out fun w hw => h w (List.mem_cons_of_mem _ hw)]
    split
    · have : x ≠ n := by rintro rfl; exact h v List.mem_cons_self
      simp [this]
    · rfl
theorem bindC_out {kindOf : Str → Option NameKind} {x : Str} : ∀ {binds : List (Str × Value)} {m : Str → Option Value}, (∀ v, (x, v) ∉ binds) → bindC kindOf binds m x = m x
  | [], _, _ => rfl
  | (n, v) :: r, m, h => by
    unfold bindC
    rw [bindC_out fun w hw => h w (List.mem_cons_of_mem _ hw)]
    split
    · rfl
    · have : x ≠ n := by rintro rfl; exact h v List.mem_cons_self
      simp [this]
theorem bindL_get {kindOf : Str → Option NameKind} {x : Str} {v : Value} : ∀ {P : List Str} {vs : List Value} {i : Nat} {m : Str → Option Value}, P.Nodup → P[i]? = some x → vs[i]? = some v → kindOf x = some .local →
    bindL kindOf (P.zip vs) m x = some v
  | [], _, _, _, _, h, _, _ => by simp at h
  | _ :: _, [], _, _, _, _, h, _ => by simp at h
  | p :: P, w :: vs, 0, m, nd, h1, h2, hk => by
    simp at h1 h2; subst h1; subst h2
    show bindL kindOf ((p, w) :: P.zip vs) m p = _
    unfold bindL
    rw [bindL_out fun v hv => (List.nodup_cons.mp nd).1 (List.of_mem_zip hv).1, if_pos hk]
    simp
  | p :: P, w :: vs, i + 1, m, nd, h1, h2, hk => by
    show bindL kindOf ((p, w) :: P.zip vs) m x = _
    unfold bindL
    exact bindL_get (i := i) (List.nodup_cons.mp nd).2 (by simpa using h1) (by simpa using h2) hk
theorem bindC_get {kindOf : Str → Option NameKind} {x : Str} {v : Value} : ∀ {P : List Str} {vs : List Value} {i : Nat} {m : Str → Option Value}, P.Nodup → P[i]? = some x → vs[i]? = some v → kindOf x ≠ some .local →
    bindC kindOf (P.zip vs) m x = some v
  | [], _, _, _, _, h, _, _ => by simp at h
  | _ :: _, [], _, _, _, _, h, _ => by simp at h
  | p :: P, w :: vs, 0, m, nd, h1, h2, hk => by
    simp at h1 h2; subst h1; subst h2
    show bindC kindOf ((p, w) :: P.zip vs) m p = _
    unfold bindC
    rw [bindC_out fun v hv => (List.nodup_cons.mp nd).1 (List.of_mem_zip hv).1, if_neg hk]
    simp
  | p :: P, w :: vs, i + 1, m, nd, h1, h2, hk => by
    show bindC kindOf ((p, w) :: P.zip vs) m x = _
    unfold bindC
    exact bindC_get (i := i) (List.nodup_cons.mp nd).2 (by simpa using h1) (by simpa using h2) hk

/-- the names' values at the entry -/
def start (N : List Str) (vs : List V) : St := vs.map some ++ List.replicate (N.length - vs.length) none

/-- the context of a def's body, at its entry; an exception leaves the frame, then lies as CX says -/
def cxOf (CX : CXT) (P : Program) (w : World) (K : PySem.W.Frag) (mg : Str → Option Value) (base : Heap) (N : List Str) (qual : Str) (scope : Scope) (f : Addr) (cd : Value) (A : Around) (outer : List Env) (s : Shared) (H : Hp) (E : XK) : Cx where
  prog := P
  w := w
  K := K
  mg := mg
  base := base
  A := A.deeper (envOfC qual scope s.heap.objs.size f cd)
  N := N
  s₀ := s
  H₀ := H
  env := envOfC qual scope s.heap.objs.size f cd
  outer := outer
  stack := envOfC qual scope s.heap.objs.size f cd :: outer
  ex := []
  calm := true
  fn := fun _ => true
  pn := []
  xe := fun e s' => wpAny (model P w) (A.deeper (envOfC qual scope s.heap.objs.size f cd)) (leaving (envOfC qual scope s.heap.objs.size f cd) e) (fun _ s'' => CX outer H s E e s'') (fun e' s'' => CX outer H s E e' s'') s'

theorem cell_has {sc : Scope} {n : Nat} {x : Str} (h : sc.names.lookup x = some .cell) : ∃ c, (cellsFrom n sc.names []).lookup x = some c := by
  have q := PySem.W.cellsFrom_some sc.names n [] (.inl h)
  exact Option.isSome_iff_exists.mp q

theorem inv_start {CX : CXT} {P : Program} {w : World} {K : PySem.W.Frag} {mg : Str → Option Value} {base : Heap} {N ps : List Str} {qual : Str} {scope : Scope} {f : Addr} {cd : Value} {A : Around} {outer : List Env} {s s1 : Shared} {H : Hp} {E : XK} {us : List Value} {vs : List V}
    (S : FnScope N ps scope) (hd : A.handled = none) (e0 : Env0 P w K mg base A outer s H) (hl : vs.length = ps.length) (r : Vals vs us)
    (x : InCallC s s.heap.objs.size (bindL (envOfC qual scope s.heap.objs.size f cd).kindOf (ps.zip us) fun _ => none) (cellsFrom (s.heap.objs.size + 1) scope.names []) (bindC (envOfC qual scope s.heap.objs.size f cd).kindOf (ps.zip us) fun _ => none) s1) :
    Inv (cxOf CX P w K mg base N qual scope f cd A outer s H E) [] (start N vs) H s1 := by
  have hpl : ps.length ≤ N.length := by have := congrArg List.length S.pre; rw [List.length_take] at this; omega
  obtain ⟨h1, tk, rfl, hk⟩ := x.done
  have noA : ∀ b : Addr, b ∉ (cxOf CX P w K mg base N qual scope f cd A outer s H E).ex := fun b z => absurd (show b ∈ ([] : List Addr) from z) (by simp)
  refine ⟨⟨e0.mod, S.kind, rfl, rfl, Nat.le_refl _, fun y z c h1 h2 => ?_, fun y hy => ?_, fun y c _ h => ?_, fun _ => hd, Around.frames_deeper e0.frames, .inr ⟨rfl, rfl⟩, fun b z => absurd z (noA b), e0.bs, e0.bsz, fun b _ _ => noA b, fun b z => absurd z (noA b), e0.funs, e0.frf⟩,
    rfl, e0.bare, Un.kept hk, ⟨_, x.toInCall.ns, fun i y v h1 h2 h3 => ?_⟩, fun y c h => ⟨_, x.cell y c h⟩, e0.hok.fresh (Nat.le_refl _), fun y c h => ?_, fun p hp => absurd (show p ∈ ([] : List (Addr × Obj)) from hp) (by simp), e0.hok.kept hk, ?_⟩
  · exact name_of_addr x.apart (PySem.mem_of_lookup h1) (PySem.mem_of_lookup h2)
  · have hy : scope.names.lookup y = some .cell ∨ scope.names.lookup y = some .free := hy
    rcases hy with hy | hy
    · exact cell_has hy
    · exact absurd rfl (S.nofree _ (PySem.mem_of_lookup hy))
  · exact Nat.le_of_lt (x.above y c (PySem.mem_of_lookup h))
  · have hi : i < vs.length := by
      unfold start at h2
      by_cases hi : i < vs.length
      · exact hi
      · rw [List.getElem?_append_right (by simpa using hi)] at h2
        rw [List.getElem?_replicate] at h2
        split at h2 <;> cases h2
    have ha : vs[i]? = some v := by
      unfold start at h2
      rw [List.getElem?_append_left (by simpa using hi), List.getElem?_map] at h2
      cases e : vs[i]? with
      | none => rw [e] at h2; cases h2
      | some a => rw [e] at h2; cases h2; rfl
    obtain ⟨u, hu, rv⟩ := r.get ha
    have hp : ps[i]? = some y := by
      rw [← S.pre, List.getElem?_take_of_lt (by omega)]; exact h1
    have ndP : ps.Nodup := by rw [← S.pre]; exact S.nd.sublist (List.take_sublist _ _)
    refine ⟨u, rv, ?_⟩
    rcases S.par y (List.mem_of_getElem? hp) with k | k
    · exact .inl ⟨k, bindL_get ndP hp hu k⟩
    · obtain ⟨c, e⟩ := cell_has (n := s.heap.objs.size + 1) k
      refine .inr ⟨.inl k, c, e, ?_⟩
      have q := x.cell y c e
      rw [bindC_get ndP hp hu (by show scope.names.lookup y ≠ _; rw [k]; decide)] at q
      exact q
  · exact e0.hok.fresh (Nat.le_of_lt (x.above y c (PySem.mem_of_lookup h)))
  · unfold start
    show _ = N.length
    rw [List.length_append, List.length_map, List.length_replicate]
    omega

/-- THE RULE: a def (or a method) of the text, by its body. The body's reading t is chosen for each entry; it is run at the parameters' values -/
theorem fn_of {CX : CXT} {P : Program} {w : World} {K : PySem.W.Frag} {mg : Str → Option Value} {base : Heap} {k : Nat} {f : Addr} {name qual : Str} {params : Arguments} {body : List Stmt} {scope : Scope} {dV kV doc pm cdv ct oc : Value} {an od : Option Addr}
    {osl : Array (Option Value)} {N ps : List Str} {sp : Sp} (lk : K.lookup f = some ⟨oc, od, .func (PySem.W.fnOf name qual params body scope dV kV doc pm an cdv ct), osl⟩) (hcd : PySem.W.codeIn K cdv qual = true) (S : FnScope N ps scope)
    (len : ∀ vs H Q E, sp vs H Q E → vs.length = ps.length)
    (hbody : ∀ (A : Around) (outer : List Env) (s : Shared) (H : Hp) (vs : List V) (Q : VK) (E : XK), Room k (A.deeper (envOfC qual scope s.heap.objs.size f cdv)) → sp vs H Q E →
      ∃ t, PSs (cxOf CX P w K mg base N qual scope f cdv A outer s H E) body t ∧ t { nx := fun _ H' => Q .non H', rt := Q } (start N vs) H) :
    FnOk P w K mg base CX (k + 1) f (PySem.W.fnOf name qual params body scope dV kV doc pm an cdv ct) ps sp := by
  refine ⟨len, fun A outer s H args us vs Q E hr e0 hb r hsp => ?_⟩
  have hl := len _ _ _ _ hsp
  have KX : K.In s.heap := e0.mod.kin.keeps fun b o e => (e0.bs b o e).1
  have lim : s.heap.NoLimit := e0.mod.nolimit.keeps fun b o e => (e0.bs b o e).1
  have hkind : ∀ y ∈ ps.zip us, scope.names.lookup y.1 = some .local ∨ (scope.names.lookup y.1 = some .cell ∧ ((cellsFrom (s.heap.objs.size + 1) scope.names []).lookup y.1).isSome = true) := fun ⟨n, v⟩ hy => by
    rcases S.par n (List.of_mem_zip hy).1 with q | q
    · exact .inl q
    · exact .inr ⟨q, PySem.W.cellsFrom_some _ _ _ (.inl q)⟩
  refine codeAny_call_function hr.depth (KX _ _ lk) rfl S.co S.gen rfl (PySem.W.codeRec_of KX hcd) (hb _ _ _ _ ?_)
  refine wpAny_newFunctionEnv_cells S.kind hkind fun env he s1 x => ?_
  subst he
  refine ⟨lim.keeps x.toInCall.keep, codeAny_func ?_⟩
  obtain ⟨t, ht, hq⟩ := hbody A outer s H vs Q E (hr.deeper _) hsp
  have I : Inv (cxOf CX P w K mg base N qual scope f cdv A outer s H E) [] (start N vs) H s1 := inv_start S hr.hd e0 hl r x
  refine wpAny_mono (ht [] s1 (start N vs) H _ I hq) (fun fl s' hs => ?_) fun e s' hs => hs
  have fin : ∀ {σ' : St} {H' : Hp} {v : V} {u : Value}, Inv (cxOf CX P w K mg base N qual scope f cdv A outer s H E) [] σ' H' s' → RelV v u → Q v H' → CE outer P w H s Q u s' :=
    fun {σ' H' v u} J rv q => ⟨v, H', J.os, J.bare, J.base, J.hok, rv, q⟩
  cases fl with
  | ret u =>
    obtain ⟨v, σ', H', J, rv, q⟩ := hs
    exact fin J rv q
  | next =>
    obtain ⟨σ', H', J, q⟩ := hs
    exact fin (v := V.non) (u := Value.none) J rfl q
  | brk =>
    obtain ⟨_, _, _, q⟩ := hs
    exact False.elim q
  | cont =>
    obtain ⟨_, _, _, q⟩ := hs
    exact False.elim q
end L2

namespace L2
open PySem PySem.Spec PyProof.Rows
section
variable {X : Cx} {x : Str} {p pos : Pos} {e : Expr} {es : List Expr} {t : TA} {id T : String} {r : List V → Hp → VK → Prop}

def tCB (r : List V → Hp → VK → Prop) (t : TA) : TE := fun σ H Q => t σ H fun vs H1 => r vs H1 Q
/-- f(e, ..), f a built-in function -/
theorem pe_callB (hc : CallR X (.builtin id) r) (hg : Gl X x) (hm : X.mg x = none) (hv : bootBuiltins x = some (.builtin id)) (ha : PA X (e :: es) t) (hn : x ≠ "__name__" := by decide) (hdb : (x == ("__debug__" : Str)) = false := by decide)
    (he : starEach (e :: es) X.env = (false, eval e X.env) :: starEach es X.env := by rfl) (hpl : (backTo pos (starEach es X.env)).any (·.1) = false := by rfl) : PE X (.Call (.Name x p) (e :: es) [] pos) (tCB r t) := by
  intro pins s σ H Q I h
  refine wpAny_Call_Name_kw (ld_blt I hg hm hv ?_ hn hdb)
  exact PyProof.Rows.callWith_builtin1 (thn (ha pos pins s σ H _ I h) fun us s1 ⟨vs, H1, I1, r1, q1⟩ => hc pins s1 σ H1 vs us Q I1 r1 q1) he hpl
/-- T(e, ..), T a built-in type -/
theorem pe_callTy (hc : CallR X (.type T) r) (hg : Gl X x) (hm : X.mg x = none) (hv : bootBuiltins x = some (.type T)) (ha : PA X (e :: es) t) (hn : x ≠ "__name__" := by decide) (hdb : (x == ("__debug__" : Str)) = false := by decide)
    (he : starEach (e :: es) X.env = (false, eval e X.env) :: starEach es X.env := by rfl) (hpl : (backTo pos (starEach es X.env)).any (·.1) = false := by rfl) : PE X (.Call (.Name x p) (e :: es) [] pos) (tCB r t) := by
  intro pins s σ H Q I h
  refine wpAny_Call_Name_kw (ld_blt I hg hm hv ?_ hn hdb)
  exact PyProof.Rows.callWith_type1 (thn (ha pos pins s σ H _ I h) fun us s1 ⟨vs, H1, I1, r1, q1⟩ => hc pins s1 σ H1 vs us Q I1 r1 q1) he hpl
end
end L2

namespace HT
open PySem PyProof.Rows

section
open PySem.SeqAt
open PySem.AutoSeq1 (wpAny_loadPart')
open PySem.MeetsSeq PySem.MeetsSeq2 PySem.MeetsSeq3

end

section
variable {prog : Program} {w : World} {A : Around} {E : Value → Shared → Prop} {s : Shared}

/-- t + u, t not empty -/
theorem cat_tup {t b : Addr} {vs ws : List Value} {Q : Value → Shared → Prop} (ht : IsTup s.heap t vs.toArray) (hb : IsTup s.heap b ws.toArray) (hv : vs ≠ [])
    (h1 : ws = [] → Q (.ref t) s) (h2 : ws ≠ [] → Q (.ref s.heap.objs.size) { s with heap := s.heap.push { cls := .type "tuple", data := .seq (vs ++ ws).toArray } })
    (hsz : vs.length + ws.length ≤ sizeLine) : wpAny (model prog w) A (binaryOp .Add (.ref t) (.ref b)) Q E s := by
  obtain ⟨⟨cls, dd, data, sl⟩, ho, hc, n, hd⟩ := id ht
  obtain ⟨⟨cls2, dd2, data2, sl2⟩, ho2, hc2, n2, hd2⟩ := id hb
  simp only at hc hd hc2 hd2
  subst hc hd hc2 hd2
  have e : vs.toArray ++ ws.toArray = (vs ++ ws).toArray := by simp
  by_cases hw : ws = []
  · exact concat_meets ⟨_, ho, rfl⟩ ⟨_, ho2, rfl⟩ noFill_tuple_add seq_tuple_add PySem.F.slot_tuple_add PySem.F.entry_tuple_add (PySem.F.args_tuple_add_2 _ _)
      (tuple_addW1 t b vs.toArray ws.toArray n n2 dd dd2 sl sl2 (by simpa using hv) (by simp [hw])) ⟨ho, ho2, h1 hw⟩
  · refine concat_meets ⟨_, ho, rfl⟩ ⟨_, ho2, rfl⟩ noFill_tuple_add seq_tuple_add PySem.F.slot_tuple_add PySem.F.entry_tuple_add (PySem.F.args_tuple_add_2 _ _)
      (tuple_addW2 t b vs.toArray ws.toArray n n2 dd dd2 sl sl2 (by simpa using hv) (by simpa using hw) (by rw [List.size_toArray, List.size_toArray]; exact hsz)) ⟨ho, ho2, ?_⟩
    rw [e]
    exact h2 hw

/-! ### t[a:b], not the whole -/
/-- a slice's bound as a place among n (d where it is left out) -/
def sIx (n d : Nat) : Option Int → Nat
  | none => d
  | some v => if v < 0 then (v + (n : Int)).toNat else min v.toNat n
theorem sIx_none (n d : Nat) : sIx n d none = d := rfl
theorem sIx_nat (n d k : Nat) : sIx n d (some (k : Int)) = min k n := by
  show (if (k : Int) < 0 then ((k : Int) + (n : Int)).toNat else min (k : Int).toNat n) = min k n
  rw [if_neg (by omega), Int.toNat_natCast]
theorem sIx_le (n d : Nat) (hd : d ≤ n) (o : Option Int) : sIx n d o ≤ n := by
  cases o with
  | none => exact hd
  | some v =>
    show (if v < 0 then (v + (n : Int)).toNat else min v.toNat n) ≤ n
    by_cases hv : v < 0
    · rw [if_pos hv]; omega
    · rw [if_neg hv]; exact Nat.min_le_right _ _
theorem clip_eq (v : Int) (n d : Nat) : (if v < 0 then max (v + (n : Int)) 0 else min v (n : Int)) = ((sIx n d (some v) : Nat) : Int) := by
  show (if v < 0 then max (v + (n : Int)) 0 else min v (n : Int)) = (((if v < 0 then (v + (n : Int)).toNat else min v.toNat n) : Nat) : Int)
  by_cases hv : v < 0
  · simp only [if_pos hv]; omega
  · simp only [if_neg hv]; omega
theorem adjust_gen (lo hi : Option Int) (n : Nat) : Builtin.Slice.sliceAdjust lo hi 1 (n : Int) = (((sIx n 0 lo : Nat) : Int), ((sIx n n hi : Nat) : Int)) := by
  have h1 : ¬ ((1 : Int) < 0) := by omega
  unfold Builtin.Slice.sliceAdjust
  simp only [h1, if_false]
  refine Prod.ext ?_ ?_
  · cases lo with
    | none => rfl
    | some v => exact clip_eq v n 0
  · cases hi with
    | none => rfl
    | some v => exact clip_eq v n n
theorem places_gen (i j : Nat) : Builtin.Slice.slicePlaces (i : Int) (j : Int) 1 = j - i := by
  unfold Builtin.Slice.slicePlaces
  have h1 : (1 : Int) > 0 := by omega
  simp only [h1, if_true, Int.ediv_one]
  split <;> omega
theorem slicePart_ {v : Value} {o : Option Int} {Q : Option Int → Shared → Prop} (p : IsPart v o) (h : Q o s) : wpAny (model prog w) A (Builtin.Slice.slicePartIndex v) Q E s := by
  cases p with
  | none => exact slicePart_none h
  | int i t => exact slicePart_int h
theorem sliceApplied_gen {sl : Addr} {vl vu : Value} {lo hi : Option Int} {n : Nat} {Q : Int × Int × Nat → Shared → Prop} (hs : s.heap.IsSliceOf sl vl vu .none) (pl : IsPart vl lo) (pu : IsPart vu hi)
    (h : Q (((sIx n 0 lo : Nat) : Int), 1, sIx n n hi - sIx n 0 lo) s) : wpAny (model prog w) A (Builtin.Slice.sliceApplied (.ref sl) (pure (n : Int))) Q E s := by
  obtain ⟨os, hos, hcs, hds⟩ := id hs
  unfold Builtin.Slice.sliceApplied Builtin.Slice.sliceFields
  refine wpAny_bind (wpAny_bind (wpAny_field hos hds (x := vl) rfl (wpAny_bind (wpAny_field hos hds (x := vu) rfl (wpAny_bind (wpAny_field hos hds (x := .none) rfl (wpAny_pure ?_)))))))
  refine wpAny_bind (slicePart_none ?_)
  show wpAny _ _ (if ((1 : Int) == 0) = true then _ else _) _ _ s
  rw [if_neg (by decide)]
  refine wpAny_bind (slicePart_ pl (wpAny_bind (slicePart_ pu (wpAny_bind (wpAny_pure ?_)))))
  show wpAny _ _ (match Builtin.Slice.sliceAdjust lo hi 1 (n : Int) with | (lo, hi) => pure (lo, (1 : Int), Builtin.Slice.slicePlaces lo hi 1)) _ _ s
  rw [adjust_gen lo hi n]
  show wpAny _ _ (pure (((sIx n 0 lo : Nat) : Int), (1 : Int), Builtin.Slice.slicePlaces ((sIx n 0 lo : Nat) : Int) ((sIx n n hi : Nat) : Int) 1)) _ _ s
  rw [places_gen]
  exact wpAny_pure h
theorem pick_gen (xs : Array Value) (i k : Nat) : ((List.range k).filterMap fun (m : Nat) => xs[((i : Int) + (m : Int) * 1).toNat]?).toArray = ((xs.toList.drop i).take k).toArray := by
  have e : (fun (m : Nat) => xs[((i : Int) + (m : Int) * 1).toNat]?) = fun m => xs[i + m]? := by
    funext m
    have : ((i : Int) + (m : Int) * 1).toNat = i + m := by omega
    rw [this]
  rw [e]
  have := pick_run xs i k
  rw [List.filterMap_map] at this
  have e2 : ((fun x => xs[x]?) ∘ fun x => i + x) = fun m => xs[i + m]? := rfl
  rw [e2] at this
  rw [this]

theorem getItem_tuple_cut {t sl : Addr} {items : Array Value} {vl vu : Value} {lo hi : Option Int} {Q : Value → Shared → Prop} (ht : IsTup s.heap t items) (hs : s.heap.IsSliceOf sl vl vu .none) (pl : IsPart vl lo) (pu : IsPart vu hi)
    (hw : ¬ (sIx items.size 0 lo = 0 ∧ sIx items.size items.size hi = items.size))
    (h : Q (.ref s.heap.objs.size) { s with heap := s.heap.push { cls := .type "tuple", data := .seq ((items.toList.drop (sIx items.size 0 lo)).take (sIx items.size items.size hi - sIx items.size 0 lo)).toArray } })
    (hsz : items.size ≤ sizeLine) : wpAny (model prog w) A (getItem (.ref t) (.ref sl)) Q E s := by
  have htake : sizeOk (.seq ((items.toList.drop (sIx items.size 0 lo)).take (sIx items.size items.size hi - sIx items.size 0 lo)).toArray) := by
    show ((items.toList.drop (sIx items.size 0 lo)).take (sIx items.size items.size hi - sIx items.size 0 lo)).toArray.size ≤ sizeLine
    rw [List.size_toArray, List.length_take, List.length_drop, Array.length_toList]
    omega
  have hj : sIx items.size items.size hi ≤ items.size := sIx_le _ _ (Nat.le_refl _) hi
  obtain ⟨os, hos, hcs, hds⟩ := id hs
  have hTs : s.TypeIs (.ref sl) "slice" := ⟨os, hos, hcs⟩
  unfold getItem
  try with_reducible refine wpAny_holding ?_
  first | refine wpAny_bind (wpAny_pure ?_) | skip
  refine wpAny_bind (wpAny_sequenceKey ht.typeIs (by decide) ?_)
  refine wpAny_bind (wpAny_callSpecial?_slot (name := Str.ofString "__getitem__") ht.typeIs PyProof.Rows.slot_tuple_getitem
    (wpAny_call_entry PyProof.Rows.slot_tuple_getitem ht.typeIs entry_tuple_getitem ?_ (args_tuple_getitem _ _)))
  show wpAny _ _ (Builtin.Tuple.tupleItemsOf (.ref t) >>= _) _ _ s
  refine wpAny_bind (tupleItemsOf_ ht ?_)
  refine wpAny_bind (wpAny_typeOf hTs ?_)
  rw [if_pos (by decide)]
  refine wpAny_bind (sliceApplied_gen hs pl pu ?_)
  have hno : ¬ ((((sIx items.size 0 lo : Nat) : Int) == 0 && (1 : Int) == 1 && (sIx items.size items.size hi - sIx items.size 0 lo) == items.size) = true) := by
    intro q
    rw [Bool.and_eq_true, Bool.and_eq_true] at q
    have q1 : ((sIx items.size 0 lo : Nat) : Int) = 0 := eq_of_beq q.1.1
    have q2 : sIx items.size items.size hi - sIx items.size 0 lo = items.size := eq_of_beq q.2
    exact hw ⟨by omega, by omega⟩
  show wpAny _ _ (if (((sIx items.size 0 lo : Nat) : Int) == 0 && (1 : Int) == 1 && (sIx items.size items.size hi - sIx items.size 0 lo) == items.size) = true then _ else _) _ _ s
  rw [if_neg hno, pick_gen]
  first
    | exact wpAny_bind (m := Builtin.Tuple.tupleExact _) (wpAny_newObj_type (wpAny_pure ⟨_, rfl, wpAny_pure h⟩) htake)
    | exact wpAny_bind (m := Builtin.Tuple.tupleExact _) (wpAny_newObj_type (wpAny_bind (wpAny_pure (wpAny_pure ⟨_, rfl, wpAny_pure h⟩))) htake)
    | exact wpAny_bind (wpAny_bind (m := Builtin.Tuple.tupleExact _) (wpAny_newObj_type (wpAny_pure (wpAny_pure ⟨_, rfl, wpAny_pure h⟩)) htake))
    | exact wpAny_bind (wpAny_bind (m := Builtin.Tuple.tupleExact _) (wpAny_newObj_type (wpAny_pure ⟨_, rfl, wpAny_pure h⟩) htake))
end
end HT

namespace L2
open PySem PySem.Spec PyProof.Rows

/-! ### the parts of a slice -/
abbrev TO := St → Hp → (Option Int → Hp → Prop) → Prop
/-- a slice's part (left out, or an int) -/
def PO (X : Cx) (e : Option Expr) (t : TO) : Prop :=
  ∀ (pins : List (Addr × Obj)) (s : Shared) (σ : St) (H : Hp) (Q : Option Int → Hp → Prop), Inv X pins σ H s → t σ H Q →
    wpAny (model X.prog X.w) X.A (evalPart e X.env) (fun u s' => ∃ o H', Inv X pins σ H' s' ∧ IsPart u o ∧ Q o H') X.xe s
def tNoPart : TO := fun _ H Q => Q none H
def tPart (t : TE) : TO := fun σ H Q => t σ H fun x H1 => ∃ i, x = .int i ∧ Q (some i) H1

section
variable {X : Cx} {e : Expr} {te : TE} {lo hi : Option Expr} {tl th : TO} {pos p2 : Pos}

theorem po_none : PO X none tNoPart := by
  intro pins s σ H Q I h
  rw [evalPart_none]
  exact wpAny_pure ⟨none, H, I, .none, h⟩
theorem po_some (h : PE X e te) : PO X (some e) (tPart te) := by
  intro pins s σ H Q I hw
  rw [evalPart_some]
  refine thn (h pins s σ H _ I hw) fun u s1 ⟨x, H1, I1, r1, q1⟩ => ?_
  obtain ⟨i, rfl, q⟩ := q1
  obtain ⟨t, rfl⟩ := r1
  exact ⟨some i, H1, I1, .int i t, q⟩

/-- what a slice of a value is, by values: the slice object stands at sl -/
def SlR (X : Cx) (r : V → Option Int → Option Int → Hp → VK → Prop) : Prop :=
  ∀ (pins : List (Addr × Obj)) (s : Shared) (σ : St) (H : Hp) (x : V) (v vl vu : Value) (lo hi : Option Int) (sl : Addr) (Q : VK), Inv X pins σ H s → RelV x v → s.heap.IsSliceOf sl vl vu .none → IsPart vl lo → IsPart vu hi → r x lo hi H Q →
    ∃ T id, typeLookup (.type T) "__getitem__" = pure (some (.builtin id)) ∧ s.TypeIs v T ∧ wpAny (model X.prog X.w) X.A (getItem v (.ref sl)) (EP X pins σ Q) X.xe s
theorem SlR.or {r r' : V → Option Int → Option Int → Hp → VK → Prop} (h : SlR X r) (h' : SlR X r') : SlR X (fun x lo hi H Q => r x lo hi H Q ∨ r' x lo hi H Q) := by
  intro pins s σ H x v vl vu lo hi sl Q I rx hs pl pu q
  rcases q with q | q
  · exact h pins s σ H x v vl vu lo hi sl Q I rx hs pl pu q
  · exact h' pins s σ H x v vl vu lo hi sl Q I rx hs pl pu q
def tSl (r : V → Option Int → Option Int → Hp → VK → Prop) (te : TE) (tl th : TO) : TE := fun σ H Q => te σ H fun x H1 => tl σ H1 fun l H2 => th σ H2 fun u H3 => r x l u H3 Q
/-- a[lo:hi], any a -/
theorem pe_slice {r : V → Option Int → Option Int → Hp → VK → Prop} (hr : SlR X r) (he : PE X e te) (hl : PO X lo tl) (hu : PO X hi th) : PE X (.Subscript e (.Slice lo hi none p2) pos) (tSl r te tl th) := by
  intro pins s σ H Q I h
  refine Subscript_ (thn (he pins s σ H _ I h) fun v s1 ⟨x, H1, I1, r1, q1⟩ => ?_)
  refine wpAny_Slice (thn (hl pins s1 σ H1 _ I1 q1) fun vl s2 ⟨l, H2, I2, pl, q2⟩ => thn (hu pins s2 σ H2 _ I2 q2) fun vu s3 ⟨u, H3, I3, pu, q3⟩ => ?_)
  rw [evalPart_none]
  refine wpAny_pure ?_
  have I4 : Inv X pins σ H3 { s3 with heap := s3.heap.push { cls := .type "slice", data := .fields #[vl, vu, .none] } } := I3.kept (t' := s3.toks) fun b ob q => Heap.get?_push_of_some _ q
  obtain ⟨T, id, hT, ht, hg⟩ := hr pins { s3 with heap := s3.heap.push { cls := .type "slice", data := .fields #[vl, vu, .none] } } σ H3 x v vl vu l u s3.heap.objs.size Q I4 r1 (Heap.IsSliceOf.new ..) pl pu q3
  show wpAny (model X.prog X.w) X.A (subscriptTail e (.Slice lo hi none p2) v (.ref s3.heap.objs.size)) (EP X pins σ Q) X.xe { s3 with heap := s3.heap.push { cls := .type "slice", data := .fields #[vl, vu, .none] } }
  exact tail_any (ops := [.ref s3.heap.objs.size, v]) ht hT hg (by with_unfolding_all rfl)

/-- the items of xs[lo:hi] -/
def cutV (xs : List V) (lo hi : Option Int) : List V := (xs.drop (HT.sIx xs.length 0 lo)).take (HT.sIx xs.length xs.length hi - HT.sIx xs.length 0 lo)
theorem cutV_length (xs : List V) (lo hi : Option Int) : (cutV xs lo hi).length ≤ xs.length := by
  unfold cutV
  rw [List.length_take, List.length_drop]
  omega
/-- t[lo:hi], not the whole of it (the whole would be t itself) -/
def rSlT (K : PySem.W.Frag) : V → Option Int → Option Int → Hp → VK → Prop := fun x lo hi H Q => ∃ a xs, x = .ref a ∧ SqT K H a xs ∧
  ¬ (HT.sIx xs.length 0 lo = 0 ∧ HT.sIx xs.length xs.length hi = xs.length) ∧ ∀ p, H p = none → Q (.ref p) (upd H p (.tup (cutV xs lo hi)))
theorem sl_tup : SlR X (rSlT X.K) := by
  intro pins s σ H x v vl vu lo hi sl Q I rx hs pl pu h
  obtain ⟨a, xs, rfl, hx, hw, q⟩ := h
  cases rx
  obtain ⟨its, r, ht, hz⟩ := I.tuple hx
  have hlen : its.toArray.size = xs.length := by rw [List.size_toArray]; exact r.length.symm
  refine ⟨"tuple", _, PyProof.Rows.slot_tuple_getitem.lookup, ht.typeIs, ?_⟩
  refine HT.getItem_tuple_cut ht hs pl pu (by rw [hlen]; exact hw) ?_ (by rw [hlen]; exact hz)
  rw [hlen]
  refine ⟨.ref s.heap.objs.size, _, I.laid (t' := s.toks) (o := .tup (cutV xs lo hi)) (fun b ob q => Heap.get?_push_of_some _ q) (Nat.le_refl _) ?_, rfl, q _ (I.hok.fresh (Nat.le_refl _))⟩
  exact ⟨Nat.le_trans (cutV_length xs lo hi) hz, _, (r.drop (HT.sIx xs.length 0 lo)).take (HT.sIx xs.length xs.length hi - HT.sIx xs.length 0 lo), TupN.new _ _⟩

/-! ### t < u, t + u -/
/-- t + u, t not empty: u empty gives t itself -/
def rCatT (K : PySem.W.Frag) : R2 := fun x y H Q => ∃ a b xs ys, x = .ref a ∧ y = .ref b ∧ SqT K H a xs ∧ SqT K H b ys ∧ xs ≠ [] ∧ xs.length + ys.length ≤ sizeLine ∧
  (ys = [] → Q (.ref a) H) ∧ (ys ≠ [] → ∀ p, H p = none → Q (.ref p) (upd H p (.tup (xs ++ ys))))
theorem Vals.nil_iff {xs : List V} {us : List Value} (r : Vals xs us) : us = [] ↔ xs = [] := by
  cases r with
  | nil => simp
  | cons _ _ => simp
theorem op_catT : OpR X (binaryOp .Add) (rCatT X.K) := by
  intro pins s σ H x y v u Q I rx ry h
  obtain ⟨a, b, xs, ys, rfl, rfl, ha, hb, hx, hz, q1, q2⟩ := h
  cases rx
  cases ry
  obtain ⟨its, r1, p1, _⟩ := I.tuple ha
  obtain ⟨its2, r2, p2, _⟩ := I.tuple hb
  refine HT.cat_tup p1 p2 (fun z => hx (r1.nil_iff.mp z)) (fun z => ⟨.ref a, H, I, rfl, q1 (r2.nil_iff.mp z)⟩) (fun z => ?_) (by rw [← r1.length, ← r2.length]; exact hz)
  refine ⟨.ref s.heap.objs.size, _, I.laid (t' := s.toks) (o := .tup (xs ++ ys)) (fun b ob q => Heap.get?_push_of_some _ q) (Nat.le_refl _) ?_, rfl, q2 (fun w => z (r2.nil_iff.mpr w)) _ (I.hok.fresh (Nat.le_refl _))⟩
  exact ⟨by rw [List.length_append]; exact hz, _, r1.append r2, TupN.new _ _⟩
end
end L2

namespace L2
open PySem PySem.Spec PyProof.Rows

/-! ### places -/
/-- the place that an index of any sign means -/
def ixN (n : Nat) (i : Int) : Option Nat := if 0 ≤ i then (if i < n then some i.toNat else none) else if -(n : Int) ≤ i then some (i + n).toNat else none
def atI {α : Type} (xs : List α) (i : Int) : Option α := (ixN xs.length i).bind fun j => xs[j]?
theorem ixN_seq {n : Nat} {i : Int} {j : Nat} (h : ixN n i = some j) : seqIndex? i n = some j ∧ j < n ∧ -(n : Int) ≤ i ∧ i < n := by
  unfold ixN at h
  by_cases h0 : 0 ≤ i
  · rw [if_pos h0] at h
    by_cases h1 : i < n
    · rw [if_pos h1] at h
      have e : i.toNat = j := Option.some.inj h
      exact ⟨by rw [seqIndex_of h0 h1, e], by omega, by omega, h1⟩
    · rw [if_neg h1] at h; cases h
  · rw [if_neg h0] at h
    by_cases h1 : -(n : Int) ≤ i
    · rw [if_pos h1] at h
      have e : (i + n).toNat = j := Option.some.inj h
      exact ⟨by rw [seqIndex_neg (by omega) h1, e], by omega, h1, by omega⟩
    · rw [if_neg h1] at h; cases h
theorem atI_get {α : Type} {xs : List α} {i : Int} {v : α} (h : atI xs i = some v) : ∃ j, seqIndex? i xs.length = some j ∧ xs[j]? = some v ∧ j < xs.length ∧ -(xs.length : Int) ≤ i ∧ i < xs.length := by
  unfold atI at h
  cases e : ixN xs.length i with
  | none => rw [e] at h; cases h
  | some j =>
    rw [e] at h
    obtain ⟨h1, h2, h3, h4⟩ := ixN_seq e
    exact ⟨j, h1, h, h2, h3, h4⟩
/-! ### what may be subscripted -/
/-- what stands as an index of a plain subscript -/
def PlainIx (b : Expr) : Prop := ∀ o i, subscripted b false o i = operate [o, i] (getItem o i)
/-- a subscript by values -/
def IxR (X : Cx) (r : R2) : Prop :=
  ∀ (value slice : Expr) (pins : List (Addr × Obj)) (s : Shared) (σ : St) (H : Hp) (x y : V) (v u : Value) (Q : VK), Inv X pins σ H s → RelV x v → RelV y u → r x y H Q →
    subscripted slice false v u = operate [v, u] (getItem v u) → wpAny (model X.prog X.w) X.A (subscriptTail value slice v u) (EP X pins σ Q) X.xe s
/-- a call of a builtin's method by values: the receiver, the arguments -/
def MtR (X : Cx) (id : String) (r : V → List V → Hp → VK → Prop) : Prop :=
  ∀ (pins : List (Addr × Obj)) (s : Shared) (σ : St) (H : Hp) (x : V) (xs : List V) (v : Value) (us : List Value) (Q : VK), Inv X pins σ H s → RelV x v → Vals xs us → r x xs H Q →
    wpAny (model X.prog X.w) X.A (call (.builtin id) (v :: us)) (EP X pins σ Q) X.xe s
section
variable {X : Cx} {a b : Expr} {ta tb : TE} {pos : Pos}
theorem IxR.or {r r' : R2} (h : IxR X r) (h' : IxR X r') : IxR X (fun x y H Q => r x y H Q ∨ r' x y H Q) := by
  intro value slice pins s σ H x y v u Q I rx ry q hs
  rcases q with q | q
  · exact h value slice pins s σ H x y v u Q I rx ry q hs
  · exact h' value slice pins s σ H x y v u Q I rx ry q hs
theorem MtR.or {id : String} {r r' : V → List V → Hp → VK → Prop} (h : MtR X id r) (h' : MtR X id r') : MtR X id (fun x xs H Q => r x xs H Q ∨ r' x xs H Q) := by
  intro pins s σ H x xs v us Q I rx rs q
  rcases q with q | q
  · exact h pins s σ H x xs v us Q I rx rs q
  · exact h' pins s σ H x xs v us Q I rx rs q
/-- a[b] -/
theorem pe_ix {r : R2} (hr : IxR X r) (ha : PE X a ta) (hb : PE X b tb) (hs : PlainIx b) : PE X (.Subscript a b pos) (tOp r ta tb) := by
  intro pins s σ H Q I h
  exact Subscript_ (binT ha hb I h fun v u s2 x y H2 I2 rx ry q => hr a b pins s2 σ H2 x y v u Q I2 rx ry q (hs _ _))

def rIxL (K : PySem.W.Frag) : R2 := fun x y H Q => ∃ p xs i v, x = .ref p ∧ y = .int i ∧ SqL K H p xs ∧ atI xs i = some v ∧ Q v H
def rIxT (K : PySem.W.Frag) : R2 := fun x y H Q => ∃ p xs i v, x = .ref p ∧ y = .int i ∧ SqT K H p xs ∧ atI xs i = some v ∧ Q v H
theorem ix_list : IxR X (rIxL X.K) := by
  intro value slice pins s σ H x y v u Q I rx ry h hs
  obtain ⟨p, xs, i, z, rfl, rfl, hq, he, q⟩ := h
  cases rx
  obtain ⟨t, rfl⟩ := ry
  obtain ⟨its, r, pl, hz⟩ := I.list hq
  obtain ⟨j, h1, h2, h3, h4, h5⟩ := atI_get he
  obtain ⟨w, ew, rw'⟩ := r.get h2
  have hl := r.length
  have hn := line63
  have fin : EP X pins σ Q w s := ⟨z, H, I, rw', q⟩
  by_cases h0 : 0 ≤ i
  · have hj : i.toNat = j := by
      rw [seqIndex_of h0 h5] at h1
      exact Option.some.inj h1
    exact item_listR pl.isList h0 (by omega) (by rw [hj]; simpa using ew) fin hs
  · have hj : (i + (its.toArray.size : Int)).toNat = j := by
      rw [seqIndex_neg (by omega) h4] at h1
      rw [List.size_toArray, ← hl]
      exact Option.some.inj h1
    exact subscriptTail_builtinR (x := w) pl.isList.typeIs slot_list_getitem.lookup
      (wpAny_getItem_list_neg (Q := fun r s' => r = w ∧ EP X pins σ Q r s') pl.isList (by omega) (by rw [List.size_toArray] <;> omega) (by omega) (by rw [hj]; simpa using ew) ⟨rfl, fin⟩) hs
theorem ix_tup : IxR X (rIxT X.K) := by
  intro value slice pins s σ H x y v u Q I rx ry h hs
  obtain ⟨p, xs, i, z, rfl, rfl, hq, he, q⟩ := h
  cases rx
  obtain ⟨t, rfl⟩ := ry
  obtain ⟨its, r, pl, hz⟩ := I.tuple hq
  obtain ⟨j, h1, h2, h3, h4, h5⟩ := atI_get he
  obtain ⟨w, ew, rw'⟩ := r.get h2
  have hl := r.length
  have hn := line63
  have fin : EP X pins σ Q w s := ⟨z, H, I, rw', q⟩
  exact subscriptTail_builtinR (x := w) pl.typeIs slot_tuple_getitem.lookup
    (getItem_tuple (j := j) (Q := fun r s' => r = w ∧ EP X pins σ Q r s') pl (by omega) (by omega) (by rw [List.size_toArray, ← hl]; exact h1) (by simpa using ew) ⟨rfl, fin⟩) hs
/-! ### xs[i] = v, any sign -/
/-- the list's object behind a store -/
theorem mapSeq_set (its : List Value) (n j : Nat) (u : Value) : Obj.mapSeq (·.setIfInBounds j u) { cls := .type "list", data := .seq its.toArray n } = { cls := .type "list", data := .seq (its.set j u).toArray n } := by
  simp [Obj.mapSeq]
theorem Inv.lst {pins : List (Addr × Obj)} {σ : St} {H : Hp} {s : Shared} {p : Addr} {xs : List V} (I : Inv X pins σ H s) (h : H p = some (.lst xs)) :
    ∃ (its : List Value) (n : Nat), Vals xs its ∧ s.heap.get? p = some { cls := .type "list", data := .seq its.toArray n } ∧ xs.length ≤ sizeLine := by
  obtain ⟨z, its, n, r, e⟩ := I.hok p _ h
  exact ⟨its, n, r, e, z⟩
/-- the list at p is written by an update of its object -/
theorem Inv.lstUpd {pins : List (Addr × Obj)} {σ : St} {H : Hp} {s : Shared} {p : Addr} {xs ys : List V} {its its' : List Value} {n n' : Nat} {f : Obj → Obj} (I : Inv X pins σ H s) (h : H p = some (.lst xs))
    (ho : s.heap.get? p = some { cls := .type "list", data := .seq its.toArray n }) (hf : f { cls := .type "list", data := .seq its.toArray n } = { cls := .type "list", data := .seq its'.toArray n' }) (r : Vals ys its') (hz : ys.length ≤ sizeLine) (t : Nat) :
    Inv X pins σ (upd H p (.lst ys)) { s with heap := s.heap.update p f, toks := t } := by
  have e : (s.heap.update p f).get? p = some { cls := .type "list", data := .seq its'.toArray n' } := by
    rw [Heap.get?_update_self f ho (by rw [hf] <;> rfl), hf]
  refine I.write (x := p) (e := p) (by rw [h]; trivial) (.inl rfl) (fun b u hb q => (Heap.get?_update_other _ _ (Ne.symm hb)).trans q) ⟨_, e⟩ ?_
  exact ⟨hz, its', n', r, e⟩
def rSetL : V → V → V → Hp → (Hp → Prop) → Prop := fun o i v H Q => ∃ p xs k j, o = .ref p ∧ i = .int k ∧ H p = some (.lst xs) ∧ ixN xs.length k = some j ∧ Q (upd H p (.lst (xs.set j v)))
theorem set_list : PSet X rSetL := by
  intro pins s σ H o i v ov iv u Q I ro ri rv h
  obtain ⟨p, xs, k, j, rfl, rfl, hp, hj, q⟩ := h
  cases ro
  obtain ⟨t, rfl⟩ := ri
  obtain ⟨its, n, r, ho, hz⟩ := I.lst hp
  obtain ⟨h1, h2, h3, h4⟩ := ixN_seq hj
  have hl := r.length
  have hn := line63
  have I' : Inv X pins σ (upd H p (.lst (xs.set j v))) { s with heap := s.heap.update p (Obj.mapSeq (·.setIfInBounds j u)) } :=
    I.lstUpd hp ho (mapSeq_set its n j u) (r.set rv j) (by rw [List.length_set]; exact hz) s.toks
  by_cases h0 : 0 ≤ k
  · have hk : k.toNat = j := by
      rw [seqIndex_of h0 h4] at h1
      exact Option.some.inj h1
    exact PySem.W.ki_setAt ho h0 (by omega) (by rw [List.size_toArray, ← hl]; exact h4) (by rw [hk]; exact ⟨_, I', q⟩)
  · have hk : (k + (its.toArray.size : Int)).toNat = j := by
      rw [seqIndex_neg (by omega) h3] at h1
      rw [List.size_toArray, ← hl]
      exact Option.some.inj h1
    exact PySem.W.ki_setBack ho (by omega) (by rw [List.size_toArray, ← hl]; exact h3) (by omega) (by rw [hk]; exact ⟨_, I', q⟩)

/-! ### slices -/
theorem slice_bounds (lo hi : Option Int) (n : Nat) : (sliceBounds lo hi none n).1 = ((HT.sIx n 0 lo : Nat) : Int) ∧ (sliceBounds lo hi none n).2.1 = ((HT.sIx n n hi : Nat) : Int) ∧ (sliceBounds lo hi none n).2.2 = 1 := by
  refine ⟨?_, ?_, rfl⟩
  · cases lo with
    | none => simp [sliceBounds, HT.sIx]
    | some i =>
      simp only [sliceBounds, HT.sIx, Option.getD_none, show (1 : Int) > 0 by decide, if_true]
      by_cases h : i < 0
      · simp only [h, if_true] <;> omega
      · simp only [h, if_false] <;> omega
  · cases hi with
    | none => simp [sliceBounds, HT.sIx]
    | some i =>
      simp only [sliceBounds, HT.sIx, Option.getD_none, show (1 : Int) > 0 by decide, if_true]
      by_cases h : i < 0
      · simp only [h, if_true] <;> omega
      · simp only [h, if_false] <;> omega
theorem slicePick_cut (its : List Value) (lo hi : Option Int) : slicePick its.toArray lo hi none = ((its.drop (HT.sIx its.length 0 lo)).take (HT.sIx its.length its.length hi - HT.sIx its.length 0 lo)).toArray := by
  obtain ⟨h1, h2, h3⟩ := slice_bounds lo hi its.toArray.size
  unfold slicePick
  rw [h1, h2, h3]
  simp only [sliceRange_one, pick_run, List.size_toArray] <;> rfl
/-- xs[lo:hi] of a list: a new list -/
def rSlL (K : PySem.W.Frag) : V → Option Int → Option Int → Hp → VK → Prop := fun x lo hi H Q => ∃ a xs, x = .ref a ∧ SqL K H a xs ∧ ∀ p, H p = none → Q (.ref p) (upd H p (.lst (cutV xs lo hi)))
theorem sl_list : SlR X (rSlL X.K) := by
  intro pins s σ H x v vl vu lo hi sl Q I rx hs pl pu h
  obtain ⟨a, xs, rfl, hx, q⟩ := h
  cases rx
  obtain ⟨its, r, ht, hz⟩ := I.list hx
  have hlen := r.length
  refine ⟨"list", _, slot_list_getitem.lookup, ht.isList.typeIs, ?_⟩
  refine wpAny_getItem_list_slice ht.isList hs pl pu .none (by simp) ?_ (by rw [List.size_toArray] <;> omega)
  rw [slicePick_cut, ← hlen]
  refine ⟨.ref s.heap.objs.size, _, I.laid (t' := s.toks) (o := .lst (cutV xs lo hi)) (fun b ob q => Heap.get?_push_of_some _ q) (Nat.le_refl _) ?_, rfl, q _ (I.hok.fresh (Nat.le_refl _))⟩
  exact ⟨Nat.le_trans (cutV_length xs lo hi) hz, _, 0, (r.drop (HT.sIx xs.length 0 lo)).take (HT.sIx xs.length xs.length hi - HT.sIx xs.length 0 lo), Heap.get?_push_size _ rfl⟩

/-! ### in, not in: flat items -/
/-! ### len, list(x), tuple(x) of any list or tuple that is read -/
theorem call_len_seq : CallR X (.builtin "len") (fun xs H Q => ∃ p ys, xs = [.ref p] ∧ (SqL X.K H p ys ∨ SqT X.K H p ys) ∧ Q (.int ys.length) H) := by
  intro pins s σ H xs us Q I r h
  obtain ⟨p, ys, rfl, hq, q⟩ := h
  obtain ⟨u, rfl, rx⟩ := vals1 r
  cases rx
  have hn := line63
  rcases hq with hq | hq
  · obtain ⟨its, r', pl, hz⟩ := I.list hq
    have hlen := r'.length
    exact Calls.call_len_list pl.isList (by simp only [List.size_toArray] <;> omega) ⟨.int ys.length, H, I.tok _, ⟨s.toks + 1, by rw [List.size_toArray, hlen]⟩, q⟩
  · obtain ⟨its, r', pl, hz⟩ := I.tuple hq
    have hlen := r'.length
    exact len_tuple pl (by simp only [List.size_toArray] <;> omega) ⟨.int ys.length, H, I.tok _, ⟨s.toks + 1, by rw [List.size_toArray, hlen]⟩, q⟩
theorem CallR.or {f : Value} {r r' : List V → Hp → VK → Prop} (h : CallR X f r) (h' : CallR X f r') : CallR X f (fun xs H Q => r xs H Q ∨ r' xs H Q) := by
  intro pins s σ H xs us Q I rs q
  rcases q with q | q
  · exact h pins s σ H xs us Q I rs q
  · exact h' pins s σ H xs us Q I rs q
theorem call_list_of : CallR X (.type "list") (fun xs H Q => ∃ p ys, xs = [.ref p] ∧ (SqL X.K H p ys ∨ SqT X.K H p ys) ∧ ∀ l, H l = none → Q (.ref l) (upd H l (.lst ys))) := by
  intro pins s σ H xs us Q I r h
  obtain ⟨p, ys, rfl, hq, q⟩ := h
  obtain ⟨u, rfl, rx⟩ := vals1 r
  cases rx
  have fin : ∀ (its : List Value), Vals ys its → ys.length ≤ sizeLine → ∀ (h' : Heap) (c' : Nat), (∀ b o', s.heap.get? b = some o' → h'.get? b = some o') →
      h'.get? s.heap.objs.size = some { cls := .type "list", dict := none, data := .seq its.toArray c', slots := #[] } → EP X pins σ Q (.ref s.heap.objs.size) { s with heap := h' } := fun its r' hz h' c' kp e =>
    ⟨.ref s.heap.objs.size, _, I.laid (t' := s.toks) kp (Nat.le_refl _) (show ObjOk X.prog X.w _ h' _ (.lst ys) from ⟨hz, its, c', r', e⟩), rfl, q _ (I.hok.fresh (Nat.le_refl _))⟩
  rcases hq with hq | hq
  · obtain ⟨its, r', pl, hz⟩ := I.list hq
    have hlen := r'.length
    obtain ⟨o, ho, hc, n, hd⟩ := pl.isList
    exact call_list_seq p (.inl rfl) ho hc hd (fun h' c' kp e => fin its r' hz h' c' kp e) (by simp only [List.size_toArray] <;> omega)
  · obtain ⟨its, r', pl, hz⟩ := I.tuple hq
    have hlen := r'.length
    obtain ⟨o, ho, hc, n, hd⟩ := pl
    exact call_list_seq p (.inr rfl) ho hc hd (fun h' c' kp e => fin its r' hz h' c' kp e) (by simp only [List.size_toArray] <;> omega)
theorem call_tuple_of : CallR X (.type "tuple") (fun xs H Q => ∃ p ys, xs = [.ref p] ∧ ((SqL X.K H p ys ∧ ∀ l, H l = none → Q (.ref l) (upd H l (.tup ys))) ∨ (SqT X.K H p ys ∧ Q (.ref p) H))) := by
  intro pins s σ H xs us Q I r h
  obtain ⟨p, ys, rfl, h⟩ := h
  obtain ⟨u, rfl, rx⟩ := vals1 r
  cases rx
  rcases h with ⟨hq, q⟩ | ⟨hq, q⟩
  · obtain ⟨its, r', pl, hz⟩ := I.list hq
    have hlen := r'.length
    refine call_tuple_list pl.isList (fun h' kp => ?_) (by simp only [List.size_toArray] <;> omega)
    have I1 : Inv X pins σ H { s with heap := h' } := I.kept (t' := s.toks) kp
    have I2 : Inv X pins σ (upd H h'.objs.size (.tup ys)) { s with heap := h'.push { cls := .type "tuple", data := .seq its.toArray } } :=
      I1.laid (t' := s.toks) (fun b o e => Heap.get?_push_of_some _ e) (Nat.le_refl _) (show ObjOk X.prog X.w _ _ _ (.tup ys) from ⟨hz, its, r', TupN.new _ _⟩)
    exact ⟨.ref h'.objs.size, _, I2, rfl, q _ (I1.hok.fresh (Nat.le_refl _))⟩
  · obtain ⟨its, r', pl, hz⟩ := I.tuple hq
    exact call_tuple_same pl ⟨.ref p, H, I, rfl, q⟩

/-! ### the call of a builtin's method: o.m(..) -/
/-- the value is of that builtin type -/
def tyV (K : PySem.W.Frag) (T : String) (x : V) (H : Hp) : Prop := match x with
  | .str _ => T = "str"
  | .int _ => T = "int"
  | .ref p => (T = "list" ∧ ∃ xs, SqL K H p xs) ∨ (T = "tuple" ∧ ∃ o, K.lookup p = some o ∧ o.cls = .type "tuple" ∧ o.dict = none) ∨
      (T = "dict" ∧ ((∃ kvs, H p = some (.dK kvs)) ∨ ∃ kvs, H p = some (.dT kvs))) ∨ (T = "set" ∧ ∃ S n, H p = some (.set S n))
  | _ => False
theorem tyV_is {pins : List (Addr × Obj)} {σ : St} {H : Hp} {s : Shared} {T : String} {x : V} {v : Value} (I : Inv X pins σ H s) (r : RelV x v) (ty : tyV X.K T x H) :
    s.TypeIs v T ∧ ∀ a, v = .ref a → ∃ ob, s.heap.get? a = some ob ∧ ob.dict = none := by
  cases x with
  | str z =>
    obtain ⟨t, rfl⟩ := r
    cases (show T = "str" from ty)
    exact ⟨typeIs_str s z t, fun _ e => nomatch e⟩
  | int i =>
    obtain ⟨t, rfl⟩ := r
    cases (show T = "int" from ty)
    exact ⟨typeIs_int s i t, fun _ e => nomatch e⟩
  | ref p =>
    cases r
    rcases ty with ⟨rfl, xs, hq⟩ | ⟨rfl, o, hk, hc, hd⟩ | ⟨rfl, hk⟩ | ⟨rfl, S, n, hk⟩
    · obtain ⟨its, _, pl, _⟩ := I.list hq
      refine ⟨pl.isList.typeIs, fun a e => ?_⟩
      cases e
      obtain ⟨o, n, e, c, hd, _⟩ := pl
      exact ⟨o, e, hd⟩
    · refine ⟨⟨o, I.kIn p o hk, hc⟩, fun a e => ?_⟩
      cases e
      exact ⟨o, I.kIn _ o hk, hd⟩
    · have z : ∃ o, s.heap.get? p = some o ∧ o.ExactDict := by
        rcases hk with ⟨kvs, hk⟩ | ⟨kvs, hk⟩
        · obtain ⟨_, _, _, _, o, _, _, e, ex, _⟩ := I.hok p _ hk
          exact ⟨o, e, ex⟩
        · obtain ⟨_, _, _, _, o, _, _, e, ex, _⟩ := I.hok p _ hk
          exact ⟨o, e, ex⟩
      obtain ⟨o, e, ex⟩ := z
      refine ⟨⟨o, e, ex.1⟩, fun a e2 => ?_⟩
      cases e2
      exact ⟨o, e, ex.2.1⟩
    · obtain ⟨o, _, _, _, e, ex, _⟩ := I.hok p _ hk
      refine ⟨⟨o, e, ex.1⟩, fun a e2 => ?_⟩
      cases e2
      exact ⟨o, e, ex.2.1⟩
  | _ => exact False.elim ty
def tBM (K : PySem.W.Frag) (T : String) (r : V → List V → Hp → VK → Prop) (to : TE) (t : TA) : TE := fun σ H Q => to σ H fun x H1 => tyV K T x H1 ∧ t σ H1 fun xs H2 => r x xs H2 Q
variable {o e : Expr} {es : List Expr} {to : TE} {t : TA} {name : Str} {apos cpos : Pos} {T id : String} {r : V → List V → Hp → VK → Prop}
theorem pe_bm (pa : PlainAttrs T) (slot : Slot T name id) (hty : typeOf (.builtin id) = pure (.type "method_descriptor")) (hm : MtR X id r) (ho : PE X o to) (ha : PA X (e :: es) t)
    (hbase : attributeBase o name X.env (eval o X.env) = eval o X.env := by rfl)
    (hfew : ((backTo cpos (starEach (e :: es) X.env)).all (fun x => !x.1) && (backToKw cpos (keywordEach [] X.env)).all (fun x => x.1.isSome)
      && decide ((e :: es).length + ([] : List Keyword).length + (if ([] : List Keyword).isEmpty then 0 else 1) < 30)) = true := by rfl)
    (hline : (apos.endLine == cpos.line) = true := by rfl) (hs : starEach (e :: es) X.env = (false, eval e X.env) :: starEach es X.env := by rfl) (hplain : (backTo cpos (starEach es X.env)).any (·.1) = false := by rfl) :
    PE X (.Call (.Attribute o name apos) (e :: es) [] cpos) (tBM X.K T r to t) := by
  intro pins s σ H Q I h
  refine wpAny_Call_method_late hbase hfew hline rfl (thn (ho pins s σ H _ I h) fun v s1 ⟨x, H1, I1, r1, ty, q1⟩ => ?_)
  obtain ⟨h1, h2⟩ := tyV_is I1 r1 ty
  refine ⟨T, id, pa, slot, hty, h1, h2, ?_⟩
  have hA := ha cpos pins s1 σ H1 _ I1 q1
  rw [hs] at hA ⊢
  refine Calls.callWith_builtin (by show (false || (backTo cpos (starEach es X.env)).any (·.1)) = false; rw [hplain] <;> rfl) (Calls.evalArgs_plain ?_)
  exact thn hA fun us s2 ⟨vs, H2, I2, r2, q2⟩ => hm pins s2 σ H2 x vs v us Q I2 r1 r2 q2
/- xs.append(e), list.index on a module's tuple .. are MtR facts of 06m -/
end
end L2

namespace L2
open PySem PySem.Spec PyProof.Rows

def MtM (X : Cx) (id : String) (r : V → List V → Hp → VK → Prop) : Prop :=
  ∀ (pins : List (Addr × Obj)) (s : Shared) (σ : St) (H : Hp) (x : V) (xs : List V) (v : Value) (us : List Value) (Q : VK), Inv X pins σ H s → RelV x v → Vals xs us → r x xs H Q →
    wpAny (model X.prog X.w) X.A (call (.builtin id) (v :: us)) (EP X pins σ Q) X.xe s

/-! ### lists of values -/
theorem Vals.one : ∀ {x : V} {us : List Value}, Vals [x] us → ∃ u, us = [u] ∧ RelV x u
  | _, _, .cons r .nil => ⟨_, rfl, r⟩
theorem Vals.two : ∀ {x y : V} {us : List Value}, Vals [x, y] us → ∃ u v, us = [u, v] ∧ RelV x u ∧ RelV y v
  | _, _, _, .cons r (.cons q .nil) => ⟨_, _, rfl, r, q⟩
theorem Vals.zero : ∀ {us : List Value}, Vals [] us → us = []
  | _, .nil => rfl
theorem Vals.eraseIdx : ∀ {xs : List V} {us : List Value} (i : Nat), Vals xs us → Vals (xs.eraseIdx i) (us.eraseIdx i)
  | _, _, _, .nil => .nil
  | _, _, 0, .cons _ t => t
  | _, _, i + 1, .cons r t => .cons r (Vals.eraseIdx i t)
theorem Vals.reverse {xs : List V} {us : List Value} (h : Vals xs us) : Vals xs.reverse us.reverse := by
  induction h with
  | nil => exact .nil
  | cons r t ih => rw [List.reverse_cons, List.reverse_cons]; exact Vals.append ih (.cons r .nil)
theorem Vals.rep {xs : List V} {us : List Value} (h : Vals xs us) : ∀ k : Nat, Vals (List.replicate k xs).flatten (List.replicate k us).flatten
  | 0 => .nil
  | k + 1 => by
    rw [List.replicate_succ, List.replicate_succ, List.flatten_cons, List.flatten_cons]
    exact Vals.append h (Vals.rep h k)
theorem len_erase {α : Type} : ∀ (l : List α) (i : Nat), (l.eraseIdx i).length ≤ l.length
  | [], _ => Nat.le_refl _
  | _ :: _, 0 => Nat.le_succ _
  | _ :: r, i + 1 => Nat.succ_le_succ (len_erase r i)
theorem foldl_rep (its : List Value) : ∀ (k : Nat) (acc : List Value),
    List.foldl (fun x1 x2 => x1 ++ x2) acc.toArray (List.replicate k its.toArray) = (acc ++ (List.replicate k its).flatten).toArray
  | 0, acc => by simp
  | k + 1, acc => by
    have e : acc.toArray ++ its.toArray = (acc ++ its).toArray := by simp
    have e2 : (acc ++ its) ++ (List.replicate k its).flatten = acc ++ (List.replicate (k + 1) its).flatten := by
      rw [List.replicate_succ, List.flatten_cons, List.append_assoc]
    rw [← e2, ← foldl_rep its k (acc ++ its), ← e, List.replicate_succ, List.foldl_cons]

section
variable {X : Cx} {pins : List (Addr × Obj)} {σ : St} {H : Hp} {s : Shared} {l b : Addr} {xs ys zs : List V}

/-! ### the two steps: a tracked list is rewritten, a new list is laid -/
theorem Inv.lset {its its' : List Value} {n : Nat} {f : Array Value → Array Value} {t' : Nat} (I : Inv X pins σ H s) (hH : H l = some (.lst xs))
    (e : s.heap.get? l = some { cls := .type "list", data := .seq its.toArray n }) (hf : f its.toArray = its'.toArray) (hv : Vals ys its') (hz : ys.length ≤ sizeLine) :
    Inv X pins σ (upd H l (.lst ys)) { s with heap := s.heap.update l (Obj.mapSeq f), toks := t' } := by
  have q := PySem.IsL.update e f
  rw [hf] at q
  refine I.write (x := l) (e := l) (by rw [hH]; exact trivial) (.inl rfl) (fun b' u hb hu => (Heap.get?_update_other s.heap (Obj.mapSeq f) (Ne.symm hb)).trans hu) ⟨_, q⟩ ?_
  exact ⟨hz, its', _, hv, q⟩
theorem Inv.lnew {its : List Value} {t' : Nat} (I : Inv X pins σ H s) (hv : Vals ys its) (hz : ys.length ≤ sizeLine) :
    Inv X pins σ (upd H s.heap.objs.size (.lst ys)) { s with heap := s.heap.push { cls := .type "list", data := .seq its.toArray }, toks := t' } :=
  I.laid (fun _ _ q => Heap.get?_push_of_some _ q) (Nat.le_refl _) ⟨hz, its, 0, hv, Heap.get?_push_size _ rfl⟩
theorem Inv.fresh (I : Inv X pins σ H s) : H s.heap.objs.size = none := I.hok.fresh (Nat.le_refl _)
theorem Inv.lstM (I : Inv X pins σ H s) (hH : H l = some (.lst xs)) : xs.length ≤ sizeLine ∧ ∃ (its : List Value) (n : Nat), Vals xs its ∧ xs.length = its.length ∧ s.heap.get? l = some { cls := .type "list", data := .seq its.toArray n } := by
  obtain ⟨z, its, n, r, e⟩ := I.hok l _ hH
  exact ⟨z, its, n, r, r.length, e⟩

end

section
variable {X : Cx}

/-! ### methods -/
def rAppend : V → List V → Hp → VK → Prop := fun x vs H Q => ∃ l xs y, x = .ref l ∧ vs = [y] ∧ H l = some (.lst xs) ∧ xs.length < sizeLine ∧ Q .non (upd H l (.lst (xs ++ [y])))
theorem mt_append : MtM X "list.append" rAppend := by
  intro pins s σ H x vs v us Q I rx rv h
  obtain ⟨l, xs, y, rfl, rfl, hH, hz, q⟩ := h
  cases rx
  obtain ⟨u, rfl, ru⟩ := rv.one
  obtain ⟨z, its, n, r, hl, e⟩ := I.lstM hH
  refine call_meets F.slot_list_append ⟨_, e, rfl⟩ F.entry_list_append (F.args_list_append_2 _ _) (PySem.list_append l its.toArray n u (by rw [List.size_toArray]; omega)) ⟨e, ?_⟩
  refine ⟨.non, _, I.lset (its' := its ++ [u]) hH e (by simp) (r.append (.cons ru .nil)) ?_, rfl, q⟩
  rw [List.length_append, List.length_singleton]
  omega

def rPopAt : V → List V → Hp → VK → Prop := fun x vs H Q => ∃ l xs i k y, x = .ref l ∧ vs = [.int i] ∧ H l = some (.lst xs) ∧ -(2 ^ 63) ≤ i ∧ i < 2 ^ 63 ∧ seqIndex? i xs.length = some k ∧ xs[k]? = some y ∧ Q y (upd H l (.lst (xs.eraseIdx k)))
theorem mt_popAt : MtM X "list.pop" rPopAt := by
  intro pins s σ H x vs v us Q I rx rv h
  obtain ⟨l, xs, i, k, y, rfl, rfl, hH, h1, h2, hk, hy, q⟩ := h
  cases rx
  obtain ⟨u, rfl, ru⟩ := rv.one
  obtain ⟨t, rfl⟩ := ru
  obtain ⟨z, its, n, r, hl, e⟩ := I.lstM hH
  obtain ⟨w, hw, rw'⟩ := r.get hy
  refine call_meets F.slot_list_pop ⟨_, e, rfl⟩ F.entry_list_pop (F.args_list_pop_2 _ _)
    (MeetsSeq.list_pop_at l its.toArray n i t k w (fitsIndex_both h1 h2) (by rw [List.size_toArray, ← hl]; exact hk) (by rw [← Array.getElem?_toList]; exact hw) (by rw [List.size_toArray]; omega)) ⟨e, ?_⟩
  refine ⟨y, _, I.lset (its' := its.eraseIdx k) hH e ?_ (r.eraseIdx k) ?_, rw', q⟩
  · show its.toArray.eraseIdxIfInBounds k = (its.eraseIdx k).toArray
    rw [List.eraseIdxIfInBounds_toArray]
  · have := len_erase xs k
    omega

/-! ### list + list, list += list, list * int -/
def rCat : R2 := fun x y H Q => ∃ l b xs zs, x = .ref l ∧ y = .ref b ∧ H l = some (.lst xs) ∧ H b = some (.lst zs) ∧ xs.length + zs.length ≤ sizeLine ∧ ∀ p, H p = none → Q (.ref p) (upd H p (.lst (xs ++ zs)))
theorem op_cat : OpR X (binaryOp .Add) rCat := by
  intro pins s σ H x y v u Q I rx ry h
  obtain ⟨l, b, xs, zs, rfl, rfl, hH, hB, hz, q⟩ := h
  cases rx
  cases ry
  obtain ⟨z, its, n, r, hl, e⟩ := I.lstM hH
  obtain ⟨z2, its2, n2, r2, hl2, e2⟩ := I.lstM hB
  refine PySem.P.add_list e e2 ?_ (by rw [List.size_toArray, List.size_toArray]; omega)
  have ea : its.toArray ++ its2.toArray = (its ++ its2).toArray := by simp
  rw [ea]
  exact ⟨.ref _, _, I.lnew (t' := s.toks) (r.append r2) (by rw [List.length_append]; omega), rfl, q _ I.fresh⟩
theorem len_rep {α : Type} (xs : List α) (k : Nat) : (List.replicate k xs).flatten.length = k * xs.length := by
  induction k with
  | zero => simp
  | succ k ih => rw [List.replicate_succ, List.flatten_cons, List.length_append, ih, Nat.succ_mul, Nat.add_comm]
/-! ### del xs[i] -/
end

/-! ### xs[a:b] = ys -/
section
variable {prog : Program} {w : World} {A : Around} {E : Value → Shared → Prop} {s : Shared}
end

section
variable {X : Cx}
end
end L2

namespace Att
open PySem PySem.W PySem.Calls PyProof.Rows

/-! ### the script -/
theorem ints_of_wellAll {P : Params} {h : Heap} : ∀ (ns : List Int) (vs : List Value), WellAll P h vs (ns.map WData.int) → IntsAre vs ns := by
  intro ns
  induction ns with
  | nil =>
    intro vs w
    rw [List.map_nil] at w
    cases w
    exact .nil
  | cons n ns ih =>
    intro vs w
    rw [List.map_cons] at w
    cases w with
    | cons a b =>
      cases a
      exact .cons _ _ (ih _ b)

theorem script_of {l : OpenLaw} {n : Nat} (hn : l.most = some n) {P : Params} {h : Heap} {args : List WData} {vals : List Value}
    (hpre : l.row.toRowW.claim.pre args = true) (hwl : WellAll P h vals args) :
    ∃ a vs ns, vals = [Value.ref a] ∧ args = [WData.list (ns.map WData.int)] ∧ h.get? a = some { cls := .type "list", data := .seq vs.toArray } ∧ IntsAre vs ns ∧ ns.length ≤ n := by
  have hsh : WShape.hasAll [] args [.list .int] = true := (pre_splitW hpre).1
  have hc : l.pre.holds [] { args := args } = true := (pre_splitW hpre).2
  obtain ⟨d, r, rfl, h1, h2⟩ := hasAllW_cons hsh
  obtain rfl := hasAllW_nil h2
  obtain ⟨xs, rfl, h3⟩ := hasW_list h1
  obtain ⟨ns, rfl⟩ := items_int h3
  have hlen : ns.length ≤ n := by
    unfold OpenLaw.pre at hc
    have h4 : (WTm.not (.lt (.lit (.int (n : Int))) (.len (.arg 0)))).holds [] { args := [.list (ns.map .int)] } = true := by
      have h4 := (holds_andW hc).1
      rw [hn] at h4
      exact h4
    have h5 := condW_of h4 (w_not (w_lt w_lit (w_len_list (w_arg rfl))))
    rw [List.length_map] at h5
    refine Nat.le_of_not_lt fun q => ?_
    have q' : (n : Int) < ((ns.length : Nat) : Int) := by omega
    first
      | (rw [decide_eq_true q'] at h5; exact absurd h5 (by decide))
      | (simp at h5; omega)
  cases hwl with
  | cons w1 w2 =>
    cases w2
    cases w1 with
    | list ho hall => exact ⟨_, _, ns, rfl, rfl, ho, ints_of_wellAll ns _ hall, hlen⟩

theorem post_true (l : OpenLaw) (args : List WData) : l.row.toRowW.claim.post args (.bool true) args = true :=
  postW_of (r := l.row.toRowW) (X := (true == true))
    (show WShape.has [] (.bool true) .bool = true by first | rfl | decide | simp [WShape.has, WShape.arms, WShape.armsAll])
    (show (WTm.eq .res (.lit (.bool true))).value [] { args := args, res := some (.bool true), after := args } = some (.bool (true == true)) from w_eq_bool (w_res rfl) w_lit) rfl

/-! ### the attachment: holds_open's last premise (the goal 'hc' behind k_head) from a wpAny of the law's body -/
/-- the same from a codeAny of the CALL (for a layer whose function contracts speak of calls) -/
theorem attach_call {l : OpenLaw} {n : Nat} {q : Program} {loose : List Str} {XP : (Str → Option Value) → Heap → Prop} {YP : World → Heap → Prop} {d : DefRec}
    (hn : l.most = some n) (hdf : d.params.defaults = [])
    (call : ∀ (w : World) (s₀ s₁ : Shared) (mg mb : Str → Option Value) (fa : Addr) (o : Obj) (pm cd doc : Value) (a : Addr) (vs : List Value) (ns : List Int),
      Ground q loose [] XP w s₀ mg mb s₁.heap → YP w s₁.heap →
      s₁.heap.get? fa = some o → o.data = .func (docDef d.name d.params d.body d.scope pm cd doc) → s₁.heap.CodeRec cd d.name → mg d.name = some (.ref fa) →
      s₁.heap.get? a = some { cls := .type "list", data := .seq vs.toArray } → IntsAre vs ns → ns.length ≤ n → s₁.gens = #[] →
      codeAny (model l.prog w) callerA (.call (.ref fa) ⟨[.ref a], []⟩) (fun r s' => r = .ok (.ret (.bool true)) ∧ OldK s₁.heap s'.heap ∧ s'.os = s₁.os ∧ AllBare s'.gens) s₁) :
    WalkO q loose XP YP l.row.toRowW d [] (fun f vs => PySem.call f vs) := by
  intro w s₀ s₁ mg mb G Y fa o pm cd doc dV kV ho hd hcd hD hmg hg args vals as hpre hlay hrd hwl hlo
  obtain rfl : dV = .none := Dflts.none hD hdf
  obtain rfl : kV = .none := Dflts.noKw hD
  obtain ⟨a, vs, ns, rfl, rfl, hobj, hints, hlen⟩ := script_of hn hpre hwl
  refine enter_call (codeAny_mono (call w s₀ s₁ mg mb fa o pm cd doc a vs ns G Y ho (fd_plain hd) hcd hmg hobj hints hlen hg) fun r s' hq => ?_)
  obtain ⟨rfl, h2, h3, h4⟩ := hq
  exact ⟨.inl ⟨.bool true, .bool true, [], rfl, fun _ => rfl, .bool true, post_true l _, fun _ => ⟨List.Pairwise.nil, fun _ hm => (nomatch hm)⟩⟩, h2, h3, h4⟩

/-! ### rules over ANY heap (no ledger) from facts about the written part K: the library's own take a ledger (News) for what they write -/
section
variable {prog : Program} {w : World} {A : Around} {E : Value → Shared → Prop} {s : Shared} {K : Frag}

/-! the whole heap as the ledger: makes every rule that writes through a ledger a rule over any heap -/
def ledger (h : Heap) (L d : Addr) : List (Addr × Obj) := (List.range h.objs.size).filterMap fun a => if a = L ∨ a = d then none else (h.get? a).map fun o => (a, o)
end
end Att

namespace L2
open PySem PySem.Spec PyProof.Rows

theorem vals_ints : ∀ {vs : List Value} {ns : List Int}, IntsAre vs ns → Vals (ns.map V.int) vs
  | _, _, .nil => .nil
  | _, _, .cons n t h => .cons ⟨t, rfl⟩ (vals_ints h)

/-- nothing is tracked but the script, known to the object (or it is an object of the module) -/
def Only (H : Hp) : Prop := ∀ b, H b = none ∨ ∃ o xs, H b = some (.frz o (.lst xs))

/-- THE HEAD: the law's promise, at the heap behind the top. F, the promise of the law's def, may use that base is part of the heap (so K.In base, base.Ns mainGlobals mg stand in Mod) -/
theorem law_call {P : Program} {w : World} {K : PySem.W.Frag} {mg mb : Str → Option Value} {CX : CXT} {k : Nat} {fa a : Addr} {fd : FuncData} {x : Str} {sp : Sp} {s₁ : Shared} {vs : List Value} {ns : List Int}
    (KX : K.In s₁.heap) (hns : s₁.heap.Ns mainGlobals mg) (hb : s₁.heap.Ns builtinsNs mb) (hbb : ∀ x : Str, x ≠ "__name__" → mb x = bootBuiltins x) (hlim : s₁.heap.NoLimit) (hg : s₁.gens = #[])
    (ha : s₁.heap.get? a = some { cls := .type "list", data := .seq vs.toArray }) (hi : IntsAre vs ns) (hl : ns.length ≤ sizeLine) (hr : Room k callerA)
    (F : ∀ base : Heap, K.In base → base.Ns mainGlobals mg → FnOk P w K mg base CX k fa fd [x] sp) (hbind : ∀ (s : Shared) (u : Value), BindsTo s fd ⟨[u], []⟩ [(x, u)])
    (hsp : ∀ H : Hp, Only H → SqL K H a (ns.map V.int) → sp [.ref a] H (fun v _ => v = .bl true) fun _ _ _ => False)
    (hCX : ∀ H e s', CX [] H s₁ (fun _ _ _ => False) e s' → False) :
    codeAny (model P w) callerA (.call (.ref fa) ⟨[.ref a], []⟩) (fun r s' => r = .ok (.ret (.bool true)) ∧ OldK s₁.heap s'.heap ∧ s'.os = s₁.os ∧ AllBare s'.gens) s₁ := by
  have rv := vals_ints hi
  have lenV := hi.length
  -- from an abstract heap in which nothing but the script may be tracked
  have core : ∀ H : Hp, Only H → SqL K H a (ns.map V.int) → HOk P w H s₁.heap → (∀ b, H b ≠ none → b = a) → (H a ≠ none → K.lookup a = none) →
      codeAny (model P w) callerA (.call (.ref fa) ⟨[.ref a], []⟩) (fun r s' => r = .ok (.ret (.bool true)) ∧ OldK s₁.heap s'.heap ∧ s'.os = s₁.os ∧ AllBare s'.gens) s₁ := by
    intro H hO hS hok hA hK
    have base_of : ∀ {b : Addr} {o : Obj}, s₁.heap.get? b = some o → H b = none → (hidT s₁.heap H).get? b = some o := fun e n => hidT_get e n
    have noA : ∀ {b : Addr} {o : Obj} {es : Array DictEntry} {ep : Nat}, s₁.heap.get? b = some o → o.data = .dict es ep → H b = none := fun {b o es ep} e d => by
      cases q : H b with
      | none => rfl
      | some u =>
        have e' : b = a := hA b (by rw [q]; simp)
        subst e'
        rw [ha] at e; cases e
        have d' : Data.seq vs.toArray _ = Data.dict es ep := d
        cases d'
    have nsK : ∀ {b : Addr} {m : Str → Option Value}, s₁.heap.Ns b m → (hidT s₁.heap H).Ns b m := fun {b m} ⟨o, es, ep, e, d, r⟩ => ⟨o, es, ep, base_of e (noA e d), d, r⟩
    have hKb : K.In (hidT s₁.heap H) := fun b o e => base_of (KX b o e) (by
      cases q : H b with
      | none => rfl
      | some u =>
        have e' : b = a := hA b (by rw [q]; simp)
        subst e'
        rw [hK (by rw [q]; simp)] at e; cases e)
    have hM : Mod K mg (hidT s₁.heap H) := ⟨hKb, nsK hns, ⟨mb, nsK hb, hbb⟩, let ⟨mc, h1, h2⟩ := hlim; ⟨mc, nsK h1, h2⟩⟩
    have e0 : Env0 P w K mg (hidT s₁.heap H) callerA [] s₁ H := ⟨rfl, hM, fun b o e => of_hidT e, Nat.le_of_eq (hidT_size _ _), trivial, fun b hb => absurd (show b ∈ ([] : List Addr) from hb) (by simp), hok, .of_eq hg⟩
    refine codeAny_mono ((F _ hKb (nsK hns)).run callerA [] s₁ H ⟨[.ref a], []⟩ [.ref a] [.ref a] _ _ hr e0 (hbind s₁ (.ref a)) (.cons rfl .nil) (hsp H hO hS)) fun r s' h => ?_
    cases r with
    | error e => exact (hCX H e s' h).elim
    | ok fl =>
      cases fl with
      | next => exact False.elim h
      | brk => exact False.elim h
      | cont => exact False.elim h
      | ret u =>
        obtain ⟨v, H', os, bare, un, hok', r', q⟩ := h
        have q' : v = .bl true := q
        subst q'
        obtain rfl : u = Value.bool true := r'
        refine ⟨rfl, OldK.of_keep fun b o e => ?_, os, bare⟩
        cases q : H b with
        | none => exact un.keep b o e q (by intro z; exact absurd (show b ∈ ([] : List Addr) from z) (by simp)) (by simp)
        | some u =>
          rcases hO b with z | ⟨ob, xs, z⟩
          · rw [q] at z; cases z
          · have z2 := un.frzs b ob _ z
            obtain ⟨e1, _⟩ := hok b _ z
            obtain ⟨e2, _⟩ := hok' b _ z2
            rw [e] at e1; cases e1
            exact e2
  cases hk : K.lookup a with
  | some o =>
    -- the script is one of the module's own objects
    have e := KX a o hk
    rw [ha] at e
    cases e
    refine core (fun _ => none) (fun _ => .inl rfl) (.inr ⟨_, vs.toArray, _, hk, rfl, rfl, rfl, by rw [List.size_toArray, lenV]; exact hl, by simpa using rv⟩) (fun b u z => by have z' : (none : Option HO) = some u := z; cases z') (fun b z => absurd rfl z) fun z => absurd rfl z
  | none =>
    refine core (fun b => if b = a then some (.frz { cls := .type "list", data := .seq vs.toArray } (.lst (ns.map V.int))) else none) (fun b => ?_) (.inl (.inr ⟨{ cls := .type "list", data := .seq vs.toArray }, if_pos rfl⟩)) (fun b u z => ?_) (fun b z => ?_) fun _ => hk
    · by_cases hb : b = a
      · exact .inr ⟨_, _, if_pos hb⟩
      · exact .inl (if_neg hb)
    · by_cases hb : b = a
      · have z' := (if_pos hb).symm.trans z
        cases z'
        subst hb
        exact ⟨ha, by rw [List.length_map]; exact hl, vs, _, rv, ha⟩
      · have z' := (if_neg hb).symm.trans z
        cases z'
    · by_cases hb : b = a
      · exact hb
      · exact absurd (if_neg hb) z
end L2

namespace L2
open PySem PySem.Spec PyProof.Rows

abbrev KOf {K : PySem.W.Frag} {h : Heap} (_ : K.In h) : PySem.W.Frag := K

/-- the goal that k_head leaves (case hc), from the law's promise. F gives the function object fd (K's own) once, then the promise over every base -/
theorem walk_of {l : PySem.W.OpenLaw} {n k : Nat} {q : Program} {loose : List Str} {XP : (Str → Option Value) → Heap → Prop} {YP : World → Heap → Prop} {d : DefRec} {K : Params → PySem.W.Frag} {CX : World → CXT} {sp : World → Sp} {x : Str}
    (hn : l.most = some n) (hn2 : n ≤ sizeLine) (hdf : d.params.defaults = []) (hr : Room k callerA)
    (hY : ∀ (w : World) (h : Heap), YP w h → (K w.params).In h)
    (F : ∀ (w : World) (mg : Str → Option Value) (fa : Addr) (h : Heap), (K w.params).In h → h.Ns mainGlobals mg → mg d.name = some (.ref fa) →
      ∃ fd : FuncData, (∀ (s : Shared) (u : Value), BindsTo s fd ⟨[u], []⟩ [(x, u)]) ∧
        ∀ base : Heap, (K w.params).In base → base.Ns mainGlobals mg → FnOk l.prog w (K w.params) mg base (CX w) k fa fd [x] (sp w))
    (hsp : ∀ (w : World) (H : Hp) (a : Addr) (ns : List Int), ns.length ≤ n → Only H → SqL (K w.params) H a (ns.map V.int) → sp w [.ref a] H (fun v _ => v = .bl true) fun _ _ _ => False)
    (hCX : ∀ (w : World) (H : Hp) (s : Shared) (e : Value) (s' : Shared), CX w [] H s (fun _ _ _ => False) e s' → False) :
    PySem.W.WalkO q loose XP YP l.row.toRowW d [] (fun f vs => PySem.call f vs) := by
  refine Att.attach_call hn hdf fun w s₀ s₁ mg mb fa o pm cd doc a vs ns G Y ho hd hcd hmg hobj hints hlen hg => ?_
  have KX := hY w _ Y
  obtain ⟨fd, hb, hF⟩ := F w mg fa _ KX G.T.g hmg
  exact law_call KX G.T.g G.T.b G.T.builtins G.T.nolimit hg hobj hints (Nat.le_trans hlen hn2) hr hF hb (fun H hO hS => hsp w H a ns hlen hO hS) fun H e s' => hCX w H s₁ e s'
end L2

/- THE LAST THEOREM (shape; LID, My.* are yours):
   My.Adr: a structure of the addresses that your layer names (classes, functions); My.Txt K t: a structure (Prop) of the equations over K;
   My.txt_mk : {K} {implicit addresses ..} (e1 : nsIn K mainGlobals "law" = some (some (.ref f))) (e2 : K.lookup f = some ⟨oc, od, .func (fnOf "law" "law" params body scope dV kV doc pm an cdv ct), sl⟩) (e3 : codeIn K cdv "law" = true) .. : ∃ t, My.Txt K t

set_option maxRecDepth 100000 in
set_option maxHeartbeats 0 in
theorem PySem.Challenge.cw_LID_holds : PySem.Challenge.rw_LID.Holds := by
  w_on; o_law; k_head; (case hw => w_witness2)
  k_fill
  refine L2.walk_of (l := PySem.Challenge.rw_LID) (n := 63) (k := 40) (x := "script") (CX := fun w => ..) (sp := fun _ => My.sp_law) rfl (by decide) rfl ⟨rfl, by decide, by decide⟩ (fun w h Y => PySem.W.kIn_of Y) ?F ?S ?C
  case F =>
    intro w mg fa h KX G hmg
    have T : ∃ t, My.Txt (L2.KOf KX) t := by
      dsimp only [L2.KOf]                          -- K must stand as «<heap const> w.params» for k_is
      refine' My.txt_mk ?e1 ?e2 ?e3 ..
      (case e1 => PySem.W.k_is)                    -- in the order: a name -> its address -> its object -> its parts
      (case e2 => PySem.W.k_is)
      ..
    obtain ⟨t, T⟩ := T
    have e0 := hmg.symm.trans (PySem.W.mg_of KX G T.law)
    cases e0                                       -- fa is the law's own address
    exact ⟨_, fun s u => .of_eq rfl, fun base kb nb => My.law_fn T kb nb⟩     -- if «.of_eq rfl» comes too early: refine' ⟨_, ?b, fun base kb nb => My.law_fn T kb nb⟩; exact fun s u => .of_eq rfl
  case S => exact fun w H a ns hl hO hS => ..
  case C => exact ..
(the tactic k_is has no namespace: write k_is) -/

/-! SHORT WORDS over the layer: a def of the text, its body, what a loop and a test want. -/
namespace L2
open PySem PySem.Spec PyProof.Rows

/-! ### the text by places -/
def defArgs (s : Stmt) : Arguments := match s with
  | .FunctionDef _ a _ _ _ _ _ _ _ _ => a
  | _ => { posonlyargs := [], args := [], vararg := none, kwonlyargs := [], kw_defaults := [], kwarg := none, defaults := [] }
def defBody (s : Stmt) : List Stmt := match s with
  | .FunctionDef _ _ b _ _ _ _ _ _ _ => b
  | _ => []
def defScope (s : Stmt) : Scope := match s with
  | .FunctionDef _ _ _ _ _ _ sc _ _ _ => sc
  | _ => { kind := .function, names := [], isGenerator := false, isCoroutine := false }

/-! ### no exception leaves a def -/
abbrev CX0 : CXT := fun _ _ _ _ _ _ => False
abbrev E0 : XK := fun _ _ _ => False
theorem pass0 {X : Cx} : Passes CX0 X E0 := fun _ _ _ _ _ _ _ h => h.elim

/-! ### a def (or method) of the text as it stands behind the top -/
structure Fun (K : PySem.W.Frag) (x qual : Str) (st : Stmt) (f : Addr) (fd : FuncData) : Prop where
  ex : ∃ (oc : Value) (od : Option Addr) (kV doc pm : Value) (an : Option Addr) (cdv ct : Value) (osl : Array (Option Value)),
    fd = PySem.W.fnOf x qual (defArgs st) (defBody st) (defScope st) .none kV doc pm an cdv ct ∧ K.lookup f = some ⟨oc, od, .func fd, osl⟩ ∧ PySem.W.codeIn K cdv qual = true
  kp : PySem.W.keepIn K (.ref f) = true
section
variable {P : Program} {w : World} {K : PySem.W.Frag} {mg : Str → Option Value} {base : Heap}
/-- THE RULE for a def: its body as a term of rules, and the reading of that term -/
theorem Fun.ok {x qual : Str} {st : Stmt} {f : Addr} {fd : FuncData} {N ps : List Str} {k : Nat} {sp : Sp} (F : Fun K x qual st f fd) (S : FnScope N ps (defScope st)) (len : ∀ vs H Q E, sp vs H Q E → vs.length = ps.length)
    (hbody : ∀ (cdv : Value) (A : Around) (outer : List Env) (s : Shared) (H : Hp) (vs : List V) (Q : VK) (E : XK), Room k (A.deeper (envOfC qual (defScope st) s.heap.objs.size f cdv)) → sp vs H Q E →
      ∃ t, PSs (cxOf CX0 P w K mg base N qual (defScope st) f cdv A outer s H E).nox (defBody st) t ∧ t { nx := fun _ H' => Q .non H', rt := Q } (start N vs) H) : FnOk P w K mg base CX0 (k + 1) f fd ps sp := by
  obtain ⟨oc, od, kV, doc, pm, an, cdv, ct, osl, rfl, lk, hcd⟩ := F.ex
  refine fn_of lk hcd S len fun A outer s H vs Q E hr hsp => ?_
  obtain ⟨t, h, q⟩ := hbody cdv A outer s H vs Q E hr hsp
  exact ⟨t, h.nox, q⟩
/-- how its arguments bind (no defaults): h is «fun _ _ _ _ _ _ us hl => match us, hl with | [_, _], _ => rfl», one _ a parameter -/
theorem Fun.binds {x qual : Str} {st : Stmt} {f : Addr} {fd : FuncData} {ps : List Str} (F : Fun K x qual st f fd)
    (h : ∀ (kV doc pm : Value) (an : Option Addr) (cdv ct : Value) (us : List Value), us.length = ps.length → bindArgs (PySem.W.fnOf x qual (defArgs st) (defBody st) (defScope st) .none kV doc pm an cdv ct) ⟨us, []⟩ = pure (ps.zip us)) : Binds K fd ps [] := by
  obtain ⟨oc, od, kV, doc, pm, an, cdv, ct, osl, rfl, lk, hcd⟩ := F.ex
  exact .all (h kV doc pm an cdv ct)
theorem fun_mk {x qual : Str} {st : Stmt} {f : Addr} {oc : Value} {od an : Option Addr} {osl : Array (Option Value)} {kV doc pm cdv ct : Value} (l : K.lookup f = some ⟨oc, od, .func (PySem.W.fnOf x qual (defArgs st) (defBody st) (defScope st) .none kV doc pm an cdv ct), osl⟩)
    (c : PySem.W.codeIn K cdv qual = true) (k : PySem.W.keepIn K (.ref f) = true) : Fun K x qual st f (PySem.W.fnOf x qual (defArgs st) (defBody st) (defScope st) .none kV doc pm an cdv ct) := ⟨⟨oc, od, kV, doc, pm, an, cdv, ct, osl, rfl, l, c⟩, k⟩
end
theorem hu_of {A : Around} {k : Nat} (hr : Room k A) : A.units + 1 < cLine := Nat.lt_of_le_of_lt (Nat.add_le_add_left (by decide : 1 ≤ 64) _) hr.units
/-! ### expressions in short: the name that stands in the i-th slot -/
section
variable {X : Cx}
theorem pv (i : Nat) {x : Str} {pos : Pos} (hN : X.N[i]? = some x := by rfl) (hv : Vis X.env.scope x := by first | exact Or.inl rfl | exact Or.inr (Or.inl rfl) | exact Or.inr (Or.inr rfl)) (hd : (x == ("__debug__" : Str)) = false := by decide)
    (hcd : (x == ("__classdict__" : Str)) = false := by decide) : PE X (.Name x pos) (tVar i) := pe_var hN hv hd hcd
end

/-! ### tests -/
theorem iteF {A B : Prop} (h : B) : if false = true then A else B := by
  rw [if_neg Bool.false_ne_true]
  exact h
theorem iteT {A B : Prop} (h : A) : if true = true then A else B := by
  rw [if_pos rfl]
  exact h
theorem ite2 {c A B : Prop} [Decidable c] (h1 : c → A) (h2 : ¬ c → B) : if c then A else B := by
  by_cases h : c
  · rw [if_pos h]
    exact h1 h
  · rw [if_neg h]
    exact h2 h
/-! ### heaps -/
/-- all that was tracked is as it was -/
def Same (H H' : Hp) : Prop := ∀ b o, H b = some o → H' b = some o
theorem Same.refl (H : Hp) : Same H H := fun _ _ h => h
theorem Same.trans {H H1 H2 : Hp} (a : Same H H1) (b : Same H1 H2) : Same H H2 := fun c o h => b c o (a c o h)
theorem Same.free {H H' : Hp} (e : Same H H') {l : Addr} (h : H' l = Option.none) : H l = Option.none := by
  cases q : H l with
  | none => rfl
  | some o =>
    rw [e l o q] at h
    cases h
theorem Same.seq {K : PySem.W.Frag} {H H' : Hp} {a : Addr} {xs : List V} (e : Same H H') (h : SqL K H a xs) : SqL K H' a xs := by
  rcases h with (h | ⟨o, h⟩) | h
  · exact .inl (.inl (e _ _ h))
  · exact .inl (.inr ⟨o, e _ _ h⟩)
  · exact .inr h

end L2

set_option Elab.async false
set_option linter.all false
set_option maxRecDepth 100000
/-! Rules of our own over the hand layer: a def by its name, comprehensions. -/
namespace L2
open PySem PySem.Spec PyProof.Rows

/-! ### a def by its name -/
structure DefOk (P : Program) (w : World) (K : PySem.W.Frag) (mg : Str → Option Value) (base : Heap) (k : Nat) (x : Str) (ps : List Str) (sp : Sp) : Prop where
  ex : ∃ (f : Addr) (fd : FuncData), FnOk P w K mg base CX0 k f fd ps sp ∧ mg x = some (.ref f) ∧ PySem.W.keepIn K (.ref f) = true ∧ Binds K fd ps []
def tCallD (sp : Sp) (t : TA) : TE := fun σ H Q => t σ H fun vs H1 => sp vs H1 Q E0
theorem tCallD_eq (sp : Sp) (t : TA) : tCall sp [] E0 t = tCallD sp t := by
  funext σ H Q
  unfold tCall tCallD
  congr
  funext vs H1
  rw [List.append_nil]
section
variable {X : Cx} {k : Nat} {x : Str} {ps : List Str} {sp : Sp} {e : Expr} {es : List Expr} {t : TA} {p pos : Pos}
theorem pe_callD (D : DefOk X.prog X.w X.K X.mg X.base k x ps sp) (hr : Room k X.A) (ha : PA X (e :: es) t) (hg : Gl X x := by rfl)
    (hdb : (x == ("__debug__" : Str)) = false := by decide) (he : starEach (e :: es) X.env = (false, eval e X.env) :: starEach es X.env := by rfl) (hpl : (backTo pos (starEach es X.env)).any (·.1) = false := by rfl) :
    PE X (.Call (.Name x p) (e :: es) [] pos) (tCallD sp t) := by
  obtain ⟨f, fd, F, hm, hk, hb⟩ := D.ex
  rw [← tCallD_eq]
  exact pe_call F hr hg hm hk hb .nil pass0 ha hdb he hpl
end

/-! ### comprehensions: the cells that the block sees -/
def clOf (cells : List (Str × Addr)) : List (Str × NameKind) → List (Str × Addr) → List (Str × Addr)
  | [], acc => acc
  | (n, k) :: r, acc => clOf cells r (if (k == NameKind.free) = true then (n, (cells.lookup n).getD 0) :: acc else acc)
theorem clOf_cons (cells : List (Str × Addr)) (n : Str) (k : NameKind) (r : List (Str × NameKind)) (acc : List (Str × Addr)) : clOf cells ((n, k) :: r) acc = clOf cells r (if (k == NameKind.free) = true then (n, (cells.lookup n).getD 0) :: acc else acc) := rfl
theorem mem_clOf {cells : List (Str × Addr)} {x : Str} {c : Addr} : ∀ {l : List (Str × NameKind)} {acc : List (Str × Addr)}, (x, c) ∈ clOf cells l acc → (x, c) ∈ acc ∨ ((x, NameKind.free) ∈ l ∧ c = (cells.lookup x).getD 0)
  | [], acc, h => .inl h
  | (n, k) :: r, acc, h => by
    unfold clOf at h
    rcases mem_clOf h with h | ⟨h1, h2⟩
    · by_cases hk : (k == NameKind.free) = true
      · rw [if_pos hk] at h
        rcases List.mem_cons.mp h with h | h
        · cases h
          have : k = NameKind.free := by simpa using hk
          subst this
          exact .inr ⟨List.mem_cons_self, rfl⟩
        · exact .inl h
      · rw [if_neg hk] at h
        exact .inl h
    · exact .inr ⟨List.mem_cons_of_mem _ h1, h2⟩
theorem acc_clOf {cells : List (Str × Addr)} {q : Str × Addr} : ∀ {l : List (Str × NameKind)} {acc : List (Str × Addr)}, q ∈ acc → q ∈ clOf cells l acc
  | [], _, h => h
  | (n, k) :: r, acc, h => by
    unfold clOf
    refine acc_clOf ?_
    split
    · exact List.mem_cons_of_mem _ h
    · exact h
theorem in_clOf {cells : List (Str × Addr)} {x : Str} : ∀ {l : List (Str × NameKind)} {acc : List (Str × Addr)}, (x, NameKind.free) ∈ l → (x, (cells.lookup x).getD 0) ∈ clOf cells l acc
  | [], _, h => by cases h
  | (n, k) :: r, acc, h => by
    unfold clOf
    rcases List.mem_cons.mp h with h | h
    · cases h
      refine acc_clOf ?_
      simp
    · exact in_clOf h
theorem lookup_mem {β : Type} {x : Str} {b : β} : ∀ {l : List (Str × β)}, (x, b) ∈ l → ∃ c, l.lookup x = some c
  | [], h => by cases h
  | (n, k) :: r, h => by
    rw [List.lookup_cons]
    cases e : x == n with
    | true => exact ⟨k, rfl⟩
    | false =>
      rcases List.mem_cons.mp h with h | h
      · cases h
        simp at e
      · exact lookup_mem h
theorem closure_run {env : Env} : ∀ (l : List (Str × NameKind)) (acc : List (Str × Addr)), (∀ x ∈ l, x.2 = NameKind.free → ∃ c, env.cells.lookup x.1 = some c) →
    (forIn l acc fun x r => if (x.2 == NameKind.free) = true then (do let c ← cellOf env x.1; pure (ForInStep.yield ((x.1, c) :: r))) else pure (ForInStep.yield r) : Sem (List (Str × Addr))) = pure (clOf env.cells l acc)
  | [], acc, _ => rfl
  | (n, k) :: r, acc, h => by
    rw [List.forIn_cons]
    by_cases hk : (k == NameKind.free) = true
    · obtain ⟨c, hc⟩ := h (n, k) List.mem_cons_self (by simpa using hk)
      have e : cellOf env n = pure c := by unfold cellOf; rw [hc]
      show (if (k == NameKind.free) = true then _ else _) >>= _ = _
      rw [if_pos hk, e]
      show (forIn r ((n, c) :: acc) _ : Sem _) = _
      rw [closure_run r _ fun x hx => h x (List.mem_cons_of_mem _ hx)]
      rw [clOf_cons, if_pos hk, show env.cells.lookup n = some c from hc]
      rfl
    · show (if (k == NameKind.free) = true then _ else _) >>= _ = _
      rw [if_neg hk]
      show (forIn r acc _ : Sem _) = _
      rw [closure_run r _ fun x hx => h x (List.mem_cons_of_mem _ hx)]
      rw [clOf_cons, if_neg hk]
theorem closureFor_cl {scope : Scope} {env : Env} (h : ∀ x ∈ scope.names, x.2 = NameKind.free → ∃ c, env.cells.lookup x.1 = some c) : closureFor scope env = pure (clOf env.cells scope.names []) := by
  have e := closure_run scope.names [] h
  unfold closureFor
  first
    | exact (congrArg (fun m => m >>= fun r => pure r) e).trans rfl
    | (simp only [bind_pure]; exact e)
    | (rw [← e]; rfl)

/-! ### the block's context -/
def cxComp (X : Cx) (sc : Scope) (N : List Str) (cl : List (Str × Addr)) (C : Addr) (s₂ : Shared) (H₂ : Hp) (fp : List Addr) : Cx where
  prog := X.prog
  w := X.w
  K := X.K
  mg := X.mg
  base := X.base
  A := X.A
  N := N
  s₀ := s₂
  H₀ := H₂
  env := compEnvC sc cl C X.env
  outer := X.stack
  stack := X.stack
  ex := fp
  fn := fun _ => false
  calm := true
  pn := []
  xe := fun _ _ => False

/-- what is looked at once: the block's names against the def's -/
def compOk (NX : List Str) (scX sc : Scope) (N : List Str) (mp : List (Option Nat)) : Bool :=
  sc.names.all (fun p => p.2 != NameKind.cell) && sc.names.all (fun p => p.2 != NameKind.local || sc.names.lookup p.1 == some NameKind.local) &&
  sc.names.all (fun p => p.2 != NameKind.free || (scX.names.lookup p.1 == some NameKind.cell || scX.names.lookup p.1 == some NameKind.free)) &&
  mp.length == N.length && (N.zip mp).all (fun q => match q.2 with | none => true | some i => NX[i]? == some q.1 && sc.names.lookup q.1 == some NameKind.free)
/-- the block's values at its entry: what it sees of the def's -/
def seed (mp : List (Option Nat)) (σ : St) : St := mp.map fun o => match o with | none => none | some i => (σ[i]?).join

structure CompOk (NX : List Str) (scX sc : Scope) (N : List Str) (mp : List (Option Nat)) : Prop where
  cell : ∀ x ∈ sc.names, x.2 ≠ NameKind.cell
  loc : ∀ x ∈ sc.names, x.2 = NameKind.local → sc.names.lookup x.1 = some NameKind.local
  free : ∀ x ∈ sc.names, x.2 = NameKind.free → scX.names.lookup x.1 = some NameKind.cell ∨ scX.names.lookup x.1 = some NameKind.free
  len : mp.length = N.length
  map : ∀ (j : Nat) (x : Str) (i : Nat), N[j]? = some x → mp[j]? = some (some i) → NX[i]? = some x ∧ sc.names.lookup x = some NameKind.free
theorem compOk_of {NX : List Str} {scX sc : Scope} {N : List Str} {mp : List (Option Nat)} (h : compOk NX scX sc N mp = true) : CompOk NX scX sc N mp := by
  unfold compOk at h
  simp only [Bool.and_eq_true, List.all_eq_true] at h
  obtain ⟨⟨⟨⟨h1, h2⟩, h3⟩, h4⟩, h5⟩ := h
  have hl : mp.length = N.length := by simpa using h4
  refine ⟨fun x hx => by simpa using h1 x hx, fun x hx e => ?_, fun x hx e => ?_, hl, fun j x i e1 e2 => ?_⟩
  · have := h2 x hx
    rw [e] at this
    simpa using this
  · have := h3 x hx
    rw [e] at this
    simpa using this
  · have hj1 : j < N.length := (List.getElem?_eq_some_iff.mp e1).1
    have hj2 : j < mp.length := (List.getElem?_eq_some_iff.mp e2).1
    have hm : (x, some i) ∈ N.zip mp := by
      refine List.mem_of_getElem? (i := j) ?_
      rw [List.getElem?_zip_eq_some]
      exact ⟨e1, e2⟩
    have := h5 _ hm
    simpa using this

theorem relabel_lookup {sc : Scope} {env : Env} {x : Str} {k : NameKind} (h : (relabel sc env).names.lookup x = some k) : ∃ k', (x, k') ∈ sc.names ∧ (k = k' ∨ (k' = NameKind.free ∧ k = NameKind.cell)) := by
  have hm := PySem.mem_of_lookup h
  obtain ⟨⟨n, k'⟩, hm', e⟩ := List.mem_map.mp hm
  refine ⟨k', ?_⟩
  dsimp only at e
  split at e
  · rename_i hc
    cases e
    rw [Bool.and_eq_true, Bool.and_eq_true] at hc
    have : k' = NameKind.free := by simpa using hc.1.1
    exact ⟨hm', .inr ⟨this, rfl⟩⟩
  · cases e
    exact ⟨hm', .inl rfl⟩
theorem relabel_free {sc : Scope} {env : Env} {x : Str} (h : sc.names.lookup x = some NameKind.free) : (relabel sc env).names.lookup x = some NameKind.cell ∨ (relabel sc env).names.lookup x = some NameKind.free := by
  show (sc.names.map _).lookup x = _ ∨ (sc.names.map _).lookup x = _
  generalize sc.names = l at h
  induction l with
  | nil => cases h
  | cons p r ih =>
    obtain ⟨n, k⟩ := p
    rw [List.map_cons]
    dsimp only
    by_cases hc : (k == NameKind.free && env.scope.kind == .function && env.kindOf n == some .cell) = true
    · rw [if_pos hc, List.lookup_cons]
      cases e : x == n with
      | true => exact .inl rfl
      | false =>
        rw [List.lookup_cons, e] at h
        exact ih h
    · rw [if_neg hc, List.lookup_cons]
      cases e : x == n with
      | true =>
        rw [List.lookup_cons, e] at h
        exact .inr h
      | false =>
        rw [List.lookup_cons, e] at h
        exact ih h

section
variable {X : Cx} {sc : Scope} {N : List Str} {mp : List (Option Nat)} {pins : List (Addr × Obj)} {σ : St} {H : Hp} {s : Shared} {fp : List Addr} {C : Addr} {h₁ : Heap}
theorem cl_cells (O : CompOk X.N X.env.scope sc N mp) (ok : X.Ok) : ∀ x ∈ sc.names, x.2 = NameKind.free → ∃ c, X.env.cells.lookup x.1 = some c := fun x hx e => ok.has x.1 (O.free x hx e)
theorem cl_sub (O : CompOk X.N X.env.scope sc N mp) (ok : X.Ok) {x : Str} {c : Addr} (h : (clOf X.env.cells sc.names []).lookup x = some c) : X.env.cells.lookup x = some c ∧ (x, NameKind.free) ∈ sc.names := by
  rcases mem_clOf (PySem.mem_of_lookup h) with h | ⟨h1, h2⟩
  · cases h
  · obtain ⟨c', hc⟩ := cl_cells O ok _ h1 rfl
    have hc' : X.env.cells.lookup x = some c' := hc
    rw [hc'] at h2
    rw [hc', h2]
    exact ⟨rfl, h1⟩
theorem cl_has (O : CompOk X.N X.env.scope sc N mp) (ok : X.Ok) {x : Str} (h : (x, NameKind.free) ∈ sc.names) : ∃ c, (clOf X.env.cells sc.names []).lookup x = some c := lookup_mem (in_clOf h)

/-- the block begins -/
theorem inv_comp (hc : X.calm = true) (O : CompOk X.N X.env.scope sc N mp) (hk : sc.kind = .function) (I : Inv X pins σ H s) (hC : s.heap.objs.size ≤ C) (kp : ∀ b o, s.heap.get? b = some o → h₁.get? b = some o) {m : Str → Option Value}
    (hn : h₁.Ns C m) (fpo : ∀ b ∈ fp, FpOk X pins H b) (fpl : ∀ b ∈ fp, b < s.heap.objs.size) {t' : Nat} :
    Inv (cxComp X sc N (clOf X.env.cells sc.names []) C s H fp) [] (seed mp σ) H { s with heap := h₁, toks := t' } := by
  have ok := I.ok
  have fsb : ∀ b ∈ fp, b ∉ frs X.stack := fun b hb z => by
    rcases List.mem_cons.mp (I.stkSub b z) with e | e
    · exact (fpo b hb).2.1 e
    · exact (fpo b hb).2.2.1 e
  refine ⟨⟨ok.mod, hk, ok.glob, ok.blt, hC, ?_, ?_, ?_, fun _ => ok.hd hc, ok.frames, .inl rfl, ?_, I.bs, Nat.le_trans ok.bsz I.sz, ?_, fsb, I.stack, I.stkFree⟩, rfl, I.bare, Un.kept kp, ?_, ?_, I.hok.fresh hC, ?_, ?_, I.hok.kept kp, ?_⟩
  · intro x y c h1 h2
    exact ok.inj x y c (cl_sub O ok h1).1 (cl_sub O ok h2).1
  · intro x hx
    have hx' : (relabel sc X.env).names.lookup x = some .cell ∨ (relabel sc X.env).names.lookup x = some .free := hx
    have hf : (x, NameKind.free) ∈ sc.names := by
      rcases hx' with h | h
      · obtain ⟨k', hm, e⟩ := relabel_lookup h
        rcases e with e | ⟨e, _⟩
        · subst e
          exact absurd rfl (O.cell _ hm)
        · subst e
          exact hm
      · obtain ⟨k', hm, e⟩ := relabel_lookup h
        rcases e with e | ⟨_, e⟩
        · subst e
          exact hm
        · cases e
    exact cl_has O ok hf
  · intro x c hf
    cases hf
  · intro b hb
    refine ⟨Nat.ne_of_lt (Nat.lt_of_lt_of_le (fpl b hb) hC), fun x c h => ?_⟩
    exact (fpo b hb).2.2.2.2.1 x c (cl_sub O ok h).1
  · intro b o e hb
    rcases (fpo b hb).2.2.2.1 with z | z
    · exact ok.noex b o e z
    · exact absurd (Nat.lt_of_lt_of_le (Heap.lt_size (ok.bs b o e).1) z) (Nat.lt_irrefl _)
  · refine ⟨m, hn, fun j x v e1 e2 e3 => ?_⟩
    have e1' : N[j]? = some x := e1
    have hj : j < mp.length := by
      rw [O.len]
      exact (List.getElem?_eq_some_iff.mp e1').1
    obtain ⟨i, hi, hv⟩ : ∃ i, mp[j]? = some (some i) ∧ σ[i]? = some (some v) := by
      unfold seed at e2
      rw [List.getElem?_map] at e2
      cases e : mp[j]? with
      | none => rw [e] at e2; cases e2
      | some o =>
        rw [e] at e2
        cases o with
        | none => cases e2
        | some i =>
          refine ⟨i, rfl, ?_⟩
          have e2' : (σ[i]?).join = some v := Option.some.inj e2
          cases q : σ[i]? with
          | none => rw [q] at e2'; cases e2'
          | some z =>
            rw [q] at e2'
            have : z = some v := e2'
            rw [this]
    obtain ⟨hx, hf⟩ := O.map j x i e1' hi
    have hfm := PySem.mem_of_lookup hf
    obtain ⟨mX, hnX, hl⟩ := I.loc
    have vis : Vis X.env.scope x := by
      rcases O.free _ hfm rfl with z | z
      · exact .inr (.inl z)
      · exact .inr (.inr z)
    obtain ⟨u, r, q⟩ := hl i x v hx hv vis
    refine ⟨u, r, ?_⟩
    rcases q with ⟨z, _⟩ | ⟨_, c, ec, cellc⟩
    · exfalso
      have z' : X.env.scope.names.lookup x = some .local := z
      rcases O.free _ hfm rfl with y | y
      · rw [show X.env.scope.names.lookup x = some .cell from y] at z'; cases z'
      · rw [show X.env.scope.names.lookup x = some .free from y] at z'; cases z'
    · obtain ⟨c', hc'⟩ := cl_has O ok hfm
      have hcc := (cl_sub O ok hc').1
      rw [ec] at hcc
      cases hcc
      refine .inr ⟨relabel_free hf, c, hc', ?_⟩
      obtain ⟨o, ho, hd⟩ := cellc
      exact ⟨o, kp _ _ ho, hd⟩
  · intro x c h
    obtain ⟨v, o, ho, hd⟩ := I.cell x c (cl_sub O ok h).1
    exact ⟨v, o, kp _ _ ho, hd⟩
  · intro x c h
    exact I.freeC x c (cl_sub O ok h).1
  · intro p hp
    cases hp
  · show (seed mp σ).length = N.length
    unfold seed
    rw [List.length_map, O.len]

/-- an untracked object of ours is tracked from now on -/
theorem Inv.track {a : Addr} {o : HO} {ob : Obj} (I : Inv X pins σ H s) (ho : s.heap.get? a = some ob) (hn : H a = none) (hL : a ≠ X.env.locals) (h1 : a ∈ X.ex ∨ X.s₀.heap.objs.size ≤ a) (h2 : ∀ x c, X.env.cells.lookup x = some c → c ≠ a)
    (h3 : ∀ p ∈ X.pn ++ pins, p.1 ≠ a) (new : ObjOk X.prog X.w (upd H a o) s.heap a o) : Inv X pins σ (upd H a o) s := by
  have nit : ∀ b u, H b = some u → b ≠ a := fun b u e z => by rw [z, hn] at e; cases e
  have := I.step (g' := s.gens) (d' := s.drawn) (t' := s.toks) (h' := s.heap) (H' := upd H a o) (ch := [a]) (fun b hb => ?_) (fun b o _ _ _ e _ => e) (fun b o _ _ _ e _ => ⟨o.slots, e⟩) (fun b o hc _ n => ?_)
    (fun b o _ e => ⟨o, e⟩) (fun b xs e => ?_) (fun b u xs e => ?_) (fun b ps e => ⟨#[], ?_⟩) (fun m hm => hm) (fun b u e => ?_) I.bare
  · exact this
  · have e : b = a := by simpa using hb
    subst e
    exact ⟨h1, hL, h2, h3⟩
  · rw [upd_ne (fun z => hc (by simp [z]))]; exact n
  · rw [upd_ne (nit _ _ e)]; exact e
  · rw [upd_ne (nit _ _ e)]; exact e
  · rw [upd_ne (nit _ _ e), e]; simp
  · by_cases hb : b = a
    · subst hb; rw [upd_same] at e; cases e; exact new
    · rw [upd_ne hb] at e
      exact (I.hok b u e).stay (fun c v _ q => q) (fun c q => by rw [upd_ne (nit _ _ q)]; exact q) fun c xs q => by rw [upd_ne (nit _ _ q)]; exact q
end

/-! ### the loop of a comprehension, any target -/
theorem compLoop_own {prog : Program} {w : World} {A : Around} {R : Result → Shared → Prop} {s : Shared} {elt target iter : Expr} {ifs : List Expr} {scope : Scope} {pos : Pos} {it acc : Value} {env : Env} (I : Nat → Shared → Prop)
    (turn : ∀ n s, I n s → wpAny (model prog w) A (pyNext it) (fun r s₁ => match r with
      | none => R (.ok .next) s₁
      | some v => wpAny (model prog w) A (letOwnedTupleGo target it v) (fun _ s' => wpAny (model prog w) A (assign target env v) (fun _ s₂ =>
          wpAny (model prog w) A (forIn ifs true fun c r => if r = true then do let ok ← isTrue c env (eval c env); pure (ForInStep.yield ok) else pure (ForInStep.yield r)) (fun ok s₃ =>
            if ok = true then wpAny (model prog w) A (eval elt env) (fun x s₄ =>
              wpAny (model prog w) A (call (.builtin "list.append") [acc, x]) (fun _ s₅ => ∃ m, m < n ∧ I m s₅) (fun _ _ => False) s₄) (fun _ _ => False) s₃
            else ∃ m, m < n ∧ I m s₃) (fun _ _ => False) s₂) (fun _ _ => False) s') (fun _ _ => False) s₁) (fun _ _ => False) s)
    (n : Nat) (h : I n s) :
    codeAny (model prog w) A (.compLoop (.ListComp elt [⟨target, iter, ifs, 0⟩] scope pos) 0 it acc env) R s := by
  refine codeAny_loop rfl I (fun n s hI => ?_) n h
  show wpAny _ A ((compTurn (.ListComp elt [⟨target, iter, ifs, 0⟩] scope pos) 0 it acc env).onRaise (fun x => do noteFrame x env; theTreesLotGoes x)) _ _ s
  refine wpAny_noted ?_
  rw [compTurn_list]
  refine wpAny_bind (wpAny_standAt (wpAny_bind (wpAny_mono (turn n s hI) (fun r s₁ h₁ => ?_) fun _ _ h' => h'.elim)))
  cases r with
  | none => exact wpAny_pure h₁
  | some v =>
    refine wpAny_bind (wpAny_mono h₁ (fun _ s' h' => wpAny_bind (wpAny_mono h' (fun _ s₂ h₂ => wpAny_bind (wpAny_mono h₂ (fun ok s₃ h₃ => ?_) fun _ _ h' => h'.elim)) fun _ _ h' => h'.elim)) fun _ _ h' => h'.elim)
    cases ok with
    | false => exact wpAny_pure ⟨rfl, h₃⟩
    | true =>
      exact wpAny_bind (wpAny_bind (wpAny_mono h₃ (fun x s₄ h₄ => wpAny_bind (wpAny_mono h₄ (fun _ s₅ h₅ => wpAny_pure (wpAny_pure ⟨rfl, h₅⟩)) fun _ _ h' => h'.elim)) fun _ _ h' => h'.elim))

/-- the tests of a comprehension's clause -/
def PCk (X : Cx) (ifs : List Expr) (t : TT) : Prop :=
  ∀ (pins : List (Addr × Obj)) (s : Shared) (σ : St) (H : Hp) (Q : Bool → Hp → Prop), Inv X pins σ H s → t σ H Q →
    wpAny (model X.prog X.w) X.A (forIn ifs true fun c r => if r = true then do let ok ← isTrue c X.env (eval c X.env); pure (ForInStep.yield ok) else pure (ForInStep.yield r)) (TP X pins σ Q) X.xe s
def tTrue : TT := fun _ H Q => Q true H
theorem pk_nil1 {X : Cx} : PCk X [] tTrue := fun _ _ _ H _ I h => wpAny_tests_nil ⟨H, I, h⟩
theorem pk_one1 {X : Cx} {c : Expr} {t : TT} (h : PT X c t) : PCk X [c] t := fun pins s σ H Q I hw => wpAny_tests_one (h pins s σ H Q I hw)

/-- what a comprehension's list is: R of its items and the heap behind -/
abbrev TC := St → Hp → (List V → Hp → Prop) → Prop
def tComp (wi : TI) (mp : List (Option Nat)) (g : TG) (tc : TT) (te : TE) : TC := fun σ H R => wi σ H fun J H1 => ∃ W : Nat → Nat → List V → St → Hp → Prop, (∃ m, W 0 m [] (seed mp σ) H1) ∧ ∀ i m ys σ' H', W i m ys σ' H' →
  (J.stop i H' ∧ ys.length ≤ sizeLine ∧ R ys H') ∨
  (J.go i H' ∧ ys.length < sizeLine ∧ ∀ x H'', J.yld i H' x H'' → g x σ' H'' fun σ2 H2 => tc σ2 H2 fun b H3 =>
    if b = true then te σ2 H3 fun y H4 => ∃ m', m' < m ∧ W (i + 1) m' (ys ++ [y]) σ2 H4 else ∃ m', m' < m ∧ W (i + 1) m' ys σ2 H3)

section
variable {X : Cx} {elt tg iter : Expr} {ifs : List Expr} {sc : Scope} {pos pos' : Pos} {N : List Str} {mp : List (Option Nat)} {wi : TI} {g : TG} {tc : TT} {te : TE}
theorem comp_core {use : Option (Value → Sem Unit)} {Q : Value → Shared → Prop} (hc : X.calm = true) (hi : PI X tg iter wi) (hk : sc.kind = .function) (O : CompOk X.N X.env.scope sc N mp)
    (hb : ∀ (cl : List (Str × Addr)) (C : Addr) (s₂ : Shared) (H₂ : Hp) (fp : List Addr), PG (cxComp X sc N cl C s₂ H₂ fp) tg g ∧ PCk (cxComp X sc N cl C s₂ H₂ fp) ifs tc ∧ PE (cxComp X sc N cl C s₂ H₂ fp) elt te)
    {pins : List (Addr × Obj)} {s : Shared} {σ : St} {H : Hp} {R : List V → Hp → Prop} (I : Inv X pins σ H s) (h : tComp wi mp g tc te σ H R)
    (hs : ∀ x, foldedSetIterable iter X.env x = pure x)
    (hend : ∀ (D C : Addr) (ys : List V) (H' : Hp) (s' : Shared) (m : Str → Option Value), Inv X pins σ (upd H' D (.lst ys)) s' → s'.heap.Ns C m → FpOk X pins (upd H' D (.lst ys)) C → H' D = none → R ys H' →
      compPost (model X.prog X.w) X.A X.xe use Q (.ref D) C (.ok .next) s') :
    wpAny (model X.prog X.w) X.A (comprehension (.ListComp elt [⟨tg, iter, ifs, 0⟩] sc pos) sc X.env pos' (newList []) false (eval iter X.env) use) Q X.xe s := by
  have ok := I.ok
  refine wpAny_comprehension_free (g := ⟨tg, iter, ifs, 0⟩) (gs := []) rfl hs (closureFor_cl (cl_cells O ok)) hk O.loc (thn (hi pins s σ H _ I h) fun v s1 h1 => thn h1 fun itv s2 h2 => ?_)
  obtain ⟨it, fp, tn, J, H2, e, I2, T, st2, f2, W, ⟨m0, w0⟩, turn⟩ := h2
  subst e
  refine wpAny_newObj_type (wpAny_newFunctionEnv O.cell (by intro y hy; simp at hy) (fun h₁ hns₁ hsb₁ => ?_) hk)
  dsimp only at hns₁ hsb₁ ⊢
  generalize hP : s2.heap.push { cls := .type "list", dict := none, data := .seq ([] : List Value).toArray } = P2 at hns₁ hsb₁ ⊢
  have hCe : P2.objs.size = s2.heap.objs.size + 1 := by rw [← hP, Heap.size_push]
  have hDC : s2.heap.objs.size ≠ P2.objs.size := by rw [hCe]; exact Nat.ne_of_lt (Nat.lt_succ_self _)
  have hCle : s2.heap.objs.size ≤ P2.objs.size := by rw [hCe]; exact Nat.le_succ _
  have old : ∀ b o, s2.heap.get? b = some o → h₁.get? b = some o := fun b o e =>
    hsb₁.extBut b o (Nat.ne_of_lt (Nat.lt_of_lt_of_le (Heap.lt_size e) hCle)) (Heap.get?_push_of_some _ (hP ▸ Heap.get?_push_of_some _ e))
  have hacc : h₁.get? s2.heap.objs.size = some { cls := .type "list", dict := none, data := .seq ([] : List Value).toArray } :=
    hsb₁.extBut _ _ hDC (Heap.get?_push_of_some _ (hP ▸ Heap.get?_push_size _ rfl))
  have fpl : ∀ b ∈ fp, b < s2.heap.objs.size := fun b hb => by
    obtain ⟨o, e, _⟩ := T.obj _ _ st2 b hb
    exact Heap.lt_size e
  have hDf : s2.heap.objs.size ∉ fp := fun z => Nat.lt_irrefl _ (fpl _ z)
  have I3 : Inv (cxComp X sc N (clOf X.env.cells sc.names []) P2.objs.size s2 H2 fp) [] (seed mp σ) H2 { s2 with heap := h₁, toks := s2.toks + ([] : List (Str × Value)).length } :=
    inv_comp hc O hk I2 hCle old hns₁ f2 fpl
  obtain ⟨hg, ht, he⟩ := hb (clOf X.env.cells sc.names []) P2.objs.size s2 H2 fp
  generalize hX : cxComp X sc N (clOf X.env.cells sc.names []) P2.objs.size s2 H2 fp = Y at I3 hg ht he
  have yP : Y.prog = X.prog := by rw [← hX]; rfl
  have yw : Y.w = X.w := by rw [← hX]; rfl
  have yK : Y.K = X.K := by rw [← hX]; rfl
  have yA : Y.A = X.A := by rw [← hX]; rfl
  have yc : Y.calm = true := by rw [← hX]; rfl
  have yx : Y.xe = fun _ _ => False := by rw [← hX]; rfl
  have yl : Y.env.locals = P2.objs.size := by rw [← hX]; rfl
  have yex : Y.ex = fp := by rw [← hX]; rfl
  have ys0 : Y.s₀ = s2 := by rw [← hX]; rfl
  have yH0 : Y.H₀ = H2 := by rw [← hX]; rfl
  have ypn : Y.pn = [] := by rw [← hX]; rfl
  have yfs : Y.fs = frs X.stack := by rw [← hX]; rfl
  have yenv : Y.env = compEnvC sc (clOf X.env.cells sc.names []) P2.objs.size X.env := by rw [← hX]; rfl
  have ycl : ∀ x c, Y.env.cells.lookup x = some c → X.env.cells.lookup x = some c := fun x c e => by
    rw [yenv] at e
    exact (cl_sub O ok e).1
  have dne : ∀ x c, Y.env.cells.lookup x = some c → c ≠ s2.heap.objs.size := fun x c e z => by
    obtain ⟨v, o, ho, _⟩ := I2.cell x c (ycl x c e)
    exact absurd (Heap.lt_size ho) (by rw [z]; exact Nat.lt_irrefl _)
  have fsb : ∀ b ∈ fp, b ∉ frs X.stack := fun b hb z => by
    rcases List.mem_cons.mp (I2.stkSub b z) with e | e
    · exact (f2 b hb).2.1 e
    · exact (f2 b hb).2.2.1 e
  have dfs : s2.heap.objs.size ∉ frs X.stack := fun z => by
    rcases List.mem_cons.mp (I2.stkSub _ z) with e | e
    · exact absurd I2.lt (by rw [← e]; exact Nat.lt_irrefl _)
    · exact I2.nofs (Nat.le_refl _) e
  have fpo : ∀ {H' : Hp} {o : Obj}, (∀ b ∈ fp, H' b = none) → ∀ b ∈ fp, FpOk Y [(s2.heap.objs.size, o)] H' b := fun {H' o} hn b hb => by
    refine ⟨hn b hb, ?_, ?_, ?_, ?_, ?_⟩
    · rw [yl]; exact Nat.ne_of_lt (Nat.lt_of_lt_of_le (fpl b hb) hCle)
    · rw [yfs]; exact fsb b hb
    · rw [yex]; exact .inl hb
    · exact fun x c e => (f2 b hb).2.2.2.2.1 x c (ycl x c e)
    · intro p hp
      rw [ypn] at hp
      have : p = (s2.heap.objs.size, o) := by simpa using hp
      subst this
      exact fun z => hDf (by have z' : s2.heap.objs.size = b := z; rw [z']; exact hb)
  -- the list under work is pinned
  have pinD : ∀ {σ' : St} {H' : Hp} {s' : Shared} {o : Obj}, Inv Y [] σ' H' s' → s'.heap.get? s2.heap.objs.size = some o → (∀ v, o.data ≠ .cell v) → H' s2.heap.objs.size = none → Inv Y [(s2.heap.objs.size, o)] σ' H' s' :=
    fun {σ' H' s' o} J e d hn => J.pins_of fun p hp => by
      have : p = (s2.heap.objs.size, o) := by simpa using hp
      subst this
      exact ⟨e, hn, by rw [yl]; exact hDC, by rw [yfs]; exact dfs, d⟩
  have loop : ∀ s₃ : Shared, s₃ = { s2 with heap := h₁, toks := s2.toks + ([] : List (Str × Value)).length } →
      codeAny (model X.prog X.w) X.A (.compLoop (.ListComp elt [⟨tg, iter, ifs, 0⟩] sc pos) 0 (.ref it) (.ref s2.heap.objs.size) Y.env)
        (compPost (model X.prog X.w) X.A X.xe use Q (.ref s2.heap.objs.size) P2.objs.size) s₃ := by
    rintro s₃ rfl
    refine compLoop_own (fun n s' => ∃ i ys its c σ' H', Inv Y [(s2.heap.objs.size, ({ cls := .type "list", data := .seq its.toArray c } : Obj))] σ' H' s' ∧ Vals ys its ∧ tn i s'.heap ∧ (∀ b ∈ fp, H' b = none) ∧ ys.length ≤ sizeLine ∧ W i n ys σ' H') ?_ m0
      ⟨0, [], [], 0, seed mp σ, H2, pinD I3 hacc (fun v z => by cases z) (I2.hok.fresh (Nat.le_refl _)), .nil, T.keep _ _ _ st2 (fun b _ o e => old b o e), fun b hb => (f2 b hb).1, Nat.zero_le _, w0⟩
    rintro n s3 ⟨i, ys, its, c, σ3, H3, J3, rv, st3, fr3, hz, w3⟩
    have hpin := J3.pin _ (List.mem_append_right _ (List.mem_singleton.mpr rfl))
    rcases turn i n ys σ3 H3 w3 with ⟨stop, hl, qn⟩ | ⟨go, hl, step⟩
    · have := T.done Y yP yw yK yc i _ s3 σ3 H3 (fun _ _ => False) J3 (fpo fr3) st3 stop
      rw [yA] at this
      refine thn this fun r s4 ⟨hr, J4⟩ => ?_
      subst hr
      obtain ⟨pe, pn, _, _, _⟩ := J4.pin _ (List.mem_append_right _ (List.mem_singleton.mpr rfl))
      dsimp only at pe pn
      -- back in the def
      have un := J4.base
      rw [yfs, yex, ys0, yH0] at un
      have os4 : s4.os = s2.os := by have := J4.os; rw [ys0] at this; exact this
      have hok4 := J4.hok
      rw [yP, yw] at hok4
      have IX : Inv X pins σ H3 s4 := I2.call' os4 un hok4 J4.bare fun b hb => ⟨(f2 b hb).2.2.2.1, (f2 b hb).2.1, (f2 b hb).2.2.2.2.1, (f2 b hb).2.2.2.2.2⟩
      obtain ⟨mC, hnC, _⟩ := J4.loc
      rw [yl] at hnC
      have dX : FpOk X pins H3 s2.heap.objs.size := I2.fpOk (Nat.le_refl _) pn
      have IT : Inv X pins σ (upd H3 s2.heap.objs.size (.lst ys)) s4 := IX.track (o := .lst ys) pe pn dX.2.1 dX.2.2.2.1 dX.2.2.2.2.1 dX.2.2.2.2.2 ⟨hl, its, c, rv, pe⟩
      have cn : H3 P2.objs.size = none := by have := J4.free; rw [yl] at this; exact this
      have cX : FpOk X pins (upd H3 s2.heap.objs.size (.lst ys)) P2.objs.size := I2.fpOk hCle (by rw [upd_ne hDC.symm]; exact cn)
      exact hend _ _ ys H3 s4 mC IT hnC cX pn qn
    · have := T.item Y yP yw yK yc i _ s3 σ3 H3 (fun _ _ => False) J3 (fpo fr3) st3 go
      rw [yA] at this
      refine thn this fun r s4 ⟨u, hr, h4⟩ => ?_
      subst hr
      refine thn h4 fun _ s5 ⟨x, H5, J5, r5, y5, st5, fr5⟩ => ?_
      have J5' := J5.pinned (fpo fr5) (T.obj _ _ st5)
      have ga := hg _ s5 σ3 H5 x u _ J5' r5 (step x H5 y5)
      rw [yP, yw, yA, yx] at ga
      refine thn ga fun _ s6 ⟨σ6, H6, J6, q6⟩ => ?_
      have gt := ht _ s6 σ6 H6 _ J6 q6
      rw [yP, yw, yA, yx] at gt
      refine thn gt fun b s7 ⟨H7, J7, q7⟩ => ?_
      have pins7 : ∀ {σ' : St} {H' : Hp} {s' : Shared}, Inv Y ([(s2.heap.objs.size, ({ cls := .type "list", data := .seq its.toArray c } : Obj))] ++ pinsAt fp s5.heap) σ' H' s' → tn (i + 1) s'.heap ∧ (∀ b ∈ fp, H' b = none) := fun {σ' H' s'} J => by
        refine ⟨T.keep _ _ _ st5 fun b hb o e => (J.pin (b, o) (List.mem_append_right _ (List.mem_append_right _ (mem_pinsAt hb e)))).1, fun b hb => ?_⟩
        obtain ⟨o, e, d⟩ := T.obj _ _ st5 b hb
        exact (J.pin (b, o) (List.mem_append_right _ (List.mem_append_right _ (mem_pinsAt hb e)))).2.1
      cases b with
      | false =>
        have q7' : ∃ m', m' < n ∧ W (i + 1) m' ys σ6 H7 := by simpa using q7
        obtain ⟨m', hm, w7⟩ := q7'
        obtain ⟨t7, f7⟩ := pins7 J7
        rw [if_neg Bool.false_ne_true]
        exact ⟨m', hm, i + 1, ys, its, c, σ6, H7, J7.unpinned, rv, t7, f7, hz, w7⟩
      | true =>
        rw [if_pos rfl]
        have q7' : te σ6 H7 fun y H4 => ∃ m', m' < n ∧ W (i + 1) m' (ys ++ [y]) σ6 H4 := by simpa using q7
        have ge := he _ s7 σ6 H7 _ J7 q7'
        rw [yP, yw, yA, yx] at ge
        refine thn ge fun u8 s8 ⟨y, H8, J8, r8, m', hm, w8⟩ => ?_
        obtain ⟨t8, f8⟩ := pins7 J8
        have J8' := J8.unpinned
        obtain ⟨pe, pn, _, _, _⟩ := J8'.pin _ (List.mem_append_right _ (List.mem_singleton.mpr rfl))
        dsimp only at pe pn
        have hlen := rv.length
        refine call_meets F.slot_list_append ⟨_, pe, rfl⟩ F.entry_list_append (F.args_list_append_2 _ _) (PySem.list_append s2.heap.objs.size its.toArray c u8 (by rw [List.size_toArray]; omega)) ⟨pe, ?_⟩
        have qe := PySem.IsL.update pe (fun a => a.push u8)
        have qe' : (s8.heap.update s2.heap.objs.size (Obj.mapSeq fun a => a.push u8)).get? s2.heap.objs.size = some { cls := .type "list", data := .seq (its ++ [u8]).toArray (c + 1) } := by
          simpa using qe
        have J9 : Inv Y [] σ6 H8 { s8 with heap := s8.heap.update s2.heap.objs.size (Obj.mapSeq fun a => a.push u8), toks := s8.toks } := by
          have J0 : Inv Y [] σ6 H8 s8 := J8'.pins_of fun p hp => by cases hp
          refine J0.turned (it := s2.heap.objs.size) (fun b o hb e => (Heap.get?_update_other s8.heap _ (Ne.symm hb)).trans e) pn (by rw [yl]; exact hDC) (.inr (by rw [ys0]; exact Nat.le_refl _)) dne (fun p hp => ?_)
          rw [ypn] at hp
          cases hp
        refine ⟨m', hm, i + 1, ys ++ [y], its ++ [u8], c + 1, σ6, H8, pinD J9 qe' (fun v z => by cases z) pn, rv.append (.cons r8 .nil), ?_, f8, by rw [List.length_append, List.length_singleton]; omega, w8⟩
        exact T.keep _ _ _ t8 fun b hb o e => (Heap.get?_update_other s8.heap _ (fun (z : s2.heap.objs.size = b) => hDf (by rw [z]; exact hb))).trans e
  have yenv' : compEnvC sc (clOf X.env.cells sc.names []) P2.objs.size X.env = Y.env := yenv.symm
  show codeAny _ _ (.compStart _ 0 (.ref it) (.ref s2.heap.objs.size) (compEnvC sc (clOf X.env.cells sc.names []) P2.objs.size X.env)) _ _
  rw [yenv']
  exact codeAny_compStart_list (loop _ rfl) (T.self _ 0 _ _ _ (T.keep _ _ _ st2 fun b _ o e => old b o e) (loop _ rfl))

/-- [elt for tg in iter if ..] as a value -/
def tCompE (t : TC) : TE := fun σ H Q => t σ H fun ys H' => ∀ D, H' D = none → Q (.ref D) (upd H' D (.lst ys))
theorem pe_comp (hc : X.calm = true) (hi : PI X tg iter wi) (hk : sc.kind = .function) (hm : compOk X.N X.env.scope sc N mp = true)
    (hb : ∀ (cl : List (Str × Addr)) (C : Addr) (s₂ : Shared) (H₂ : Hp) (fp : List Addr), PG (cxComp X sc N cl C s₂ H₂ fp) tg g ∧ PCk (cxComp X sc N cl C s₂ H₂ fp) ifs tc ∧ PE (cxComp X sc N cl C s₂ H₂ fp) elt te)
    (hs : ∀ x, foldedSetIterable iter X.env x = pure x := by intro _; rfl) : PE X (.ListComp elt [⟨tg, iter, ifs, 0⟩] sc pos) (tCompE (tComp wi mp g tc te)) := by
  intro pins s σ H Q I h
  rw [eval_ListComp]
  refine comp_core (use := none) hc hi hk (compOk_of hm) hb I h hs fun D C ys H' s' m I' hn f hD q => ?_
  refine ⟨m, hn, fun h' hs' => ?_⟩
  obtain ⟨f0, f1, _, f3, f4, f5⟩ := f
  exact ⟨.ref D, _, I'.turned (t' := s'.toks) (it := C) (fun b o hb e => (hs'.2 b hb).trans e) f0 f1 f3 f4 f5, rfl, q D hD⟩
/-- x = [elt for tg in iter if ..], x a plain local -/
def tCompS (i : Nat) (t : TC) : TS := fun D σ H => t σ H fun ys H' => ∀ l, H' l = none → D.nx (σ.set i (some (.ref l))) (upd H' l (.lst ys))
theorem ps_comp {i : Nat} {x : Str} {py spos : Pos} (hN : X.N.Nodup) (hix : X.N[i]? = some x) (hx : X.env.scope.names.lookup x = some .local) (hc : X.calm = true) (hi : PI X tg iter wi) (hk : sc.kind = .function) (hm : compOk X.N X.env.scope sc N mp = true)
    (hb : ∀ (cl : List (Str × Addr)) (C : Addr) (s₂ : Shared) (H₂ : Hp) (fp : List Addr), PG (cxComp X sc N cl C s₂ H₂ fp) tg g ∧ PCk (cxComp X sc N cl C s₂ H₂ fp) ifs tc ∧ PE (cxComp X sc N cl C s₂ H₂ fp) elt te)
    (hsw : swapsWith (.ListComp elt [⟨tg, iter, ifs, 0⟩] sc pos) (some (.Name x py)) spos.line X.env = pure true := by rfl)
    (hs : ∀ x, foldedSetIterable iter X.env x = pure x := by intro _; rfl) : PS X (.Assign [.Name x py] (.ListComp elt [⟨tg, iter, ifs, 0⟩] sc pos) spos) (tCompS i (tComp wi mp g tc te)) := by
  intro pins s σ H D I h
  rw [exec_Assign_Name_used _ _ _ _ hsw]
  refine wpAny_bind (wpAny_standAt (wpAny_bind ?_))
  show wpAny _ X.A (do let _ ← comprehension (.ListComp elt [⟨tg, iter, ifs, 0⟩] sc pos) sc X.env _ (newList []) false (eval iter X.env) (some (assign (.Name x py) X.env))) _ _ s
  refine wpAny_bind (thn (comp_core (use := some (assign (.Name x py) X.env)) (Q := fun _ s' => SP X pins D .next s') hc hi hk (compOk_of hm) hb I h hs fun l C ys H' s' m I' hn f hD q => ?_) fun _ s' hq => wpAny_pure (wpAny_pure hq))
  obtain ⟨f0, f1, f2, f3, f4, f5⟩ := f
  show wpAny _ _ (assign (.Name x py) X.env (.ref l)) _ _ s'
  refine wpAny_assign_Name (store_ok2 (v := .ref l) I' hN hix (.inl hx) rfl (fun s'' I'' ⟨a, sb, ea⟩ => ?_) (.inr hx))
  have hac : C ≠ a := by
    rcases ea with e | e
    · rw [e]; exact f1
    · exact fun z => f4 x a e z.symm
  refine ⟨m, hn.sameBut sb hac, fun h' hs' => ?_⟩
  exact ⟨_, _, I''.turned (t' := s''.toks) (it := C) (fun b o hb e => (hs'.2 b hb).trans e) f0 f1 f3 f4 f5, q l hD⟩
end
end L2

set_option Elab.async false
set_option linter.all false
set_option maxRecDepth 100000
/-! Rules of our own: plain data (PyData) in the abstract heap, repr, ==, isinstance, ranges, slices. -/
namespace L2
open PySem PySem.Spec PyProof.Rows

/-! ### data -/
mutual
/-- the value stands for the data; the lists at S (they may change) are no part of it -/
def Rep (S : List Addr) (H : Hp) : PyData → V → Prop
  | .none, v => v = .non
  | .bool b, v => v = .bl b
  | .int i, v => v = .int i
  | .str x, v => v = .str x
  | .tuple ds, v => ∃ a xs, v = .ref a ∧ H a = some (.tup xs) ∧ Reps S H ds xs
  | .list ds, v => ∃ a xs, v = .ref a ∧ H a = some (.lst xs) ∧ a ∉ S ∧ Reps S H ds xs
  | .dict _, _ => False
def Reps (S : List Addr) (H : Hp) : List PyData → List V → Prop
  | [], xs => xs = []
  | d :: ds, xs => ∃ x r, xs = x :: r ∧ Rep S H d x ∧ Reps S H ds r
end
/-- what stays: all but the lists at S; the tuples anyway -/
structure Ext (S : List Addr) (H H' : Hp) : Prop where
  keep : ∀ b o, b ∉ S → H b = some o → H' b = some o
  tup : ∀ b xs, H b = some (.tup xs) → H' b = some (.tup xs)
theorem Ext.refl (S : List Addr) (H : Hp) : Ext S H H := ⟨fun _ _ _ e => e, fun _ _ e => e⟩
theorem Ext.trans {S : List Addr} {H H1 H2 : Hp} (a : Ext S H H1) (b : Ext S H1 H2) : Ext S H H2 := ⟨fun c o hc e => b.keep c o hc (a.keep c o hc e), fun c xs e => b.tup c xs (a.tup c xs e)⟩
theorem Ext.mono {S S' : List Addr} {H H' : Hp} (a : Ext S H H') (h : ∀ b ∈ S, b ∈ S') : Ext S' H H' := ⟨fun b o hb e => a.keep b o (fun z => hb (h b z)) e, a.tup⟩
theorem Ext.new {S : List Addr} {H : Hp} {p : Addr} {o : HO} (h : H p = none) : Ext S H (upd H p o) := ⟨fun b u _ e => by rw [upd_ne (ne_of_none e h)]; exact e, fun b xs e => by rw [upd_ne (ne_of_none e h)]; exact e⟩
theorem Ext.set {S : List Addr} {H : Hp} {p : Addr} {o : HO} {xs : List V} (hp : p ∈ S) (h : H p = some (.lst xs)) : Ext S H (upd H p o) :=
  ⟨fun b u hb e => by rw [upd_ne (fun (z : b = p) => hb (by rw [z]; exact hp))]; exact e, fun b ys e => by rw [upd_ne (fun z => by rw [z, h] at e; cases e)]; exact e⟩
/-- .. where p is new ahead of H0 -/
theorem Ext.set' {S : List Addr} {H0 H : Hp} {p : Addr} {o : HO} {xs : List V} (a : Ext S H0 H) (h0 : H0 p = none) (h : H p = some (.lst xs)) : Ext S H0 (upd H p o) :=
  ⟨fun b u hb e => by rw [upd_ne (fun z => by rw [z, h0] at e; cases e)]; exact a.keep b u hb e, fun b ys e => by rw [upd_ne (fun z => by rw [z, h0] at e; cases e)]; exact a.tup b ys e⟩
theorem Ext.fresh {S : List Addr} {H0 H : Hp} {p : Addr} (a : Ext S H0 H) (hp : p ∉ S) (h : H p = none) : H0 p = none := by
  cases e : H0 p with
  | none => rfl
  | some o => rw [a.keep p o hp e] at h; cases h

mutual
theorem Rep.ext {S : List Addr} {H H' : Hp} (x : Ext S H H') : ∀ {d : PyData} {v : V}, Rep S H d v → Rep S H' d v
  | .none, _, h => h
  | .bool _, _, h => h
  | .int _, _, h => h
  | .str _, _, h => h
  | .tuple ds, _, h => by
    unfold Rep at h ⊢
    obtain ⟨a, xs, e, ha, hr⟩ := h
    exact ⟨a, xs, e, x.tup a xs ha, Reps.ext x hr⟩
  | .list ds, _, h => by
    unfold Rep at h ⊢
    obtain ⟨a, xs, e, ha, hs, hr⟩ := h
    exact ⟨a, xs, e, x.keep a _ hs ha, hs, Reps.ext x hr⟩
  | .dict _, _, h => h
theorem Reps.ext {S : List Addr} {H H' : Hp} (x : Ext S H H') : ∀ {ds : List PyData} {vs : List V}, Reps S H ds vs → Reps S H' ds vs
  | [], _, h => h
  | d :: ds, _, h => by
    unfold Reps at h ⊢
    obtain ⟨y, r, e, h1, h2⟩ := h
    exact ⟨y, r, e, Rep.ext x h1, Reps.ext x h2⟩
end

mutual
theorem Rep.less {S S' : List Addr} {H : Hp} (x : ∀ b ∈ S', b ∈ S) : ∀ {d : PyData} {v : V}, Rep S H d v → Rep S' H d v
  | .none, _, h => h
  | .bool _, _, h => h
  | .int _, _, h => h
  | .str _, _, h => h
  | .tuple ds, _, h => by
    unfold Rep at h ⊢
    obtain ⟨a, xs, e, ha, hr⟩ := h
    exact ⟨a, xs, e, ha, Reps.less x hr⟩
  | .list ds, _, h => by
    unfold Rep at h ⊢
    obtain ⟨a, xs, e, ha, hs, hr⟩ := h
    exact ⟨a, xs, e, ha, fun z => hs (x a z), Reps.less x hr⟩
  | .dict _, _, h => h
theorem Reps.less {S S' : List Addr} {H : Hp} (x : ∀ b ∈ S', b ∈ S) : ∀ {ds : List PyData} {vs : List V}, Reps S H ds vs → Reps S' H ds vs
  | [], _, h => h
  | d :: ds, _, h => by
    unfold Reps at h ⊢
    obtain ⟨y, r, e, h1, h2⟩ := h
    exact ⟨y, r, e, Rep.less x h1, Reps.less x h2⟩
end
section
variable {S : List Addr} {H : Hp}
theorem Reps.nil : Reps S H [] [] := by unfold Reps; rfl
theorem Reps.cons {d : PyData} {x : V} {ds : List PyData} {xs : List V} (h : Rep S H d x) (t : Reps S H ds xs) : Reps S H (d :: ds) (x :: xs) := by unfold Reps; exact ⟨x, xs, rfl, h, t⟩
theorem Reps.of_cons {d : PyData} {ds : List PyData} {xs : List V} (h : Reps S H (d :: ds) xs) : ∃ x r, xs = x :: r ∧ Rep S H d x ∧ Reps S H ds r := by unfold Reps at h; exact h
theorem Reps.of_nil {xs : List V} (h : Reps S H [] xs) : xs = [] := by unfold Reps at h; exact h
theorem Reps.length : ∀ {ds : List PyData} {xs : List V}, Reps S H ds xs → xs.length = ds.length
  | [], _, h => by rw [h.of_nil]; rfl
  | _ :: _, _, h => by
    obtain ⟨x, r, e, _, h2⟩ := h.of_cons
    subst e
    simp [h2.length]
theorem Reps.get : ∀ {ds : List PyData} {xs : List V} {i : Nat} {x : V}, Reps S H ds xs → xs[i]? = some x → ∃ d, ds[i]? = some d ∧ Rep S H d x
  | [], _, i, x, h, e => by rw [h.of_nil] at e; cases e
  | d :: ds, _, 0, x, h, e => by
    obtain ⟨y, r, e1, h1, h2⟩ := h.of_cons
    subst e1
    cases e
    exact ⟨d, rfl, h1⟩
  | d :: ds, _, i + 1, x, h, e => by
    obtain ⟨y, r, e1, h1, h2⟩ := h.of_cons
    subst e1
    obtain ⟨d', q, h3⟩ := Reps.get (i := i) h2 (by simpa using e)
    exact ⟨d', by simpa using q, h3⟩
theorem Reps.at : ∀ {ds : List PyData} {xs : List V} {i : Nat} {d : PyData}, Reps S H ds xs → ds[i]? = some d → ∃ x, xs[i]? = some x ∧ Rep S H d x
  | [], _, i, d, h, e => by cases e
  | d :: ds, _, 0, d', h, e => by
    obtain ⟨y, r, e1, h1, h2⟩ := h.of_cons
    subst e1
    cases e
    exact ⟨y, rfl, h1⟩
  | d :: ds, _, i + 1, d', h, e => by
    obtain ⟨y, r, e1, h1, h2⟩ := h.of_cons
    subst e1
    obtain ⟨x, q, h3⟩ := Reps.at (i := i) h2 (by simpa using e)
    exact ⟨x, by simpa using q, h3⟩
theorem Reps.append : ∀ {ds es : List PyData} {xs ys : List V}, Reps S H ds xs → Reps S H es ys → Reps S H (ds ++ es) (xs ++ ys)
  | [], _, _, _, h, k => by rw [h.of_nil]; exact k
  | d :: ds, _, _, _, h, k => by
    obtain ⟨y, r, e1, h1, h2⟩ := h.of_cons
    subst e1
    exact .cons h1 (Reps.append h2 k)
theorem Reps.take : ∀ {ds : List PyData} {xs : List V} (n : Nat), Reps S H ds xs → Reps S H (ds.take n) (xs.take n)
  | _, _, 0, _ => .nil
  | [], _, n + 1, h => by rw [h.of_nil]; exact .nil
  | d :: ds, _, n + 1, h => by
    obtain ⟨y, r, e1, h1, h2⟩ := h.of_cons
    subst e1
    exact .cons h1 (Reps.take n h2)
theorem Reps.drop : ∀ {ds : List PyData} {xs : List V} (n : Nat), Reps S H ds xs → Reps S H (ds.drop n) (xs.drop n)
  | _, _, 0, h => h
  | [], _, n + 1, h => by rw [h.of_nil]; exact .nil
  | d :: ds, _, n + 1, h => by
    obtain ⟨y, r, e1, h1, h2⟩ := h.of_cons
    subst e1
    exact Reps.drop n h2
theorem Reps.reverse : ∀ {ds : List PyData} {xs : List V}, Reps S H ds xs → Reps S H ds.reverse xs.reverse
  | [], _, h => by rw [h.of_nil]; exact .nil
  | d :: ds, _, h => by
    obtain ⟨y, r, e1, h1, h2⟩ := h.of_cons
    subst e1
    rw [List.reverse_cons, List.reverse_cons]
    exact (Reps.reverse h2).append (.cons h1 .nil)
theorem Reps.eraseIdx : ∀ {ds : List PyData} {xs : List V} (n : Nat), Reps S H ds xs → Reps S H (ds.eraseIdx n) (xs.eraseIdx n)
  | [], _, n, h => by rw [h.of_nil]; exact .nil
  | d :: ds, _, 0, h => by
    obtain ⟨y, r, e1, h1, h2⟩ := h.of_cons
    subst e1
    exact h2
  | d :: ds, _, n + 1, h => by
    obtain ⟨y, r, e1, h1, h2⟩ := h.of_cons
    subst e1
    exact .cons h1 (Reps.eraseIdx n h2)
theorem Reps.ints : ∀ (ns : List Int), Reps S H (ns.map PyData.int) (ns.map V.int)
  | [] => .nil
  | n :: ns => .cons (by unfold Rep; rfl) (Reps.ints ns)
theorem Rep.tup {a : Addr} {xs : List V} {ds : List PyData} (h : H a = some (.tup xs)) (r : Reps S H ds xs) : Rep S H (.tuple ds) (.ref a) := by unfold Rep; exact ⟨a, xs, rfl, h, r⟩
theorem Rep.lst {a : Addr} {xs : List V} {ds : List PyData} (h : H a = some (.lst xs)) (hs : a ∉ S) (r : Reps S H ds xs) : Rep S H (.list ds) (.ref a) := by unfold Rep; exact ⟨a, xs, rfl, h, hs, r⟩
theorem Rep.int (i : Int) : Rep S H (.int i) (.int i) := by unfold Rep; rfl
theorem Rep.bl (b : Bool) : Rep S H (.bool b) (.bl b) := by unfold Rep; rfl
theorem Rep.non : Rep S H .none .non := by unfold Rep; rfl
theorem Rep.str (x : Str) : Rep S H (.str x) (.str x) := by unfold Rep; rfl
theorem Rep.of_tup {ds : List PyData} {v : V} (h : Rep S H (.tuple ds) v) : ∃ a xs, v = .ref a ∧ H a = some (.tup xs) ∧ Reps S H ds xs := by unfold Rep at h; exact h
theorem Rep.of_lst {ds : List PyData} {v : V} (h : Rep S H (.list ds) v) : ∃ a xs, v = .ref a ∧ H a = some (.lst xs) ∧ a ∉ S ∧ Reps S H ds xs := by unfold Rep at h; exact h
theorem Rep.of_int {i : Int} {v : V} (h : Rep S H (.int i) v) : v = .int i := by unfold Rep at h; exact h
theorem Rep.of_bl {b : Bool} {v : V} (h : Rep S H (.bool b) v) : v = .bl b := by unfold Rep at h; exact h
theorem Rep.of_str {x : Str} {v : V} (h : Rep S H (.str x) v) : v = .str x := by unfold Rep at h; exact h
theorem Rep.of_non {v : V} (h : Rep S H .none v) : v = .non := by unfold Rep at h; exact h
end

/-! ### data is read by the model -/
mutual
theorem Rep.reads {P : Program} {w : World} {S : List Addr} {H : Hp} {h : Heap} (ok : HOk P w H h) : ∀ {d : PyData} {v : V} {u : Value}, Rep S H d v → RelV v u → ∃ as, Reads h u d as
  | .none, v, u, r, q => by cases r.of_non; cases (show u = Value.none from q); exact ⟨_, .none⟩
  | .bool b, v, u, r, q => by cases r.of_bl; cases (show u = Value.bool b from q); exact ⟨_, .bool b⟩
  | .int i, v, u, r, q => by cases r.of_int; obtain ⟨t, e⟩ := (show ∃ t, u = Value.int i t from q); cases e; exact ⟨_, .int i t⟩
  | .str x, v, u, r, q => by cases r.of_str; obtain ⟨t, e⟩ := (show ∃ t, u = Value.str x t from q); cases e; exact ⟨_, .str x t⟩
  | .tuple ds, v, u, r, q => by
    obtain ⟨a, xs, rfl, ha, hr⟩ := r.of_tup
    cases (show u = Value.ref a from q)
    obtain ⟨_, its, rv, o, e, c, n, d, _⟩ := ok a _ ha
    obtain ⟨as, ra⟩ := Reps.reads ok hr rv
    exact ⟨_, .tuple e c d (by simpa using ra)⟩
  | .list ds, v, u, r, q => by
    obtain ⟨a, xs, rfl, ha, _, hr⟩ := r.of_lst
    cases (show u = Value.ref a from q)
    obtain ⟨_, its, n, rv, e⟩ := ok a _ ha
    obtain ⟨as, ra⟩ := Reps.reads ok hr rv
    exact ⟨_, .list e rfl rfl (by simpa using ra)⟩
  | .dict _, v, u, r, q => by unfold Rep at r; exact r.elim
theorem Reps.reads {P : Program} {w : World} {S : List Addr} {H : Hp} {h : Heap} (ok : HOk P w H h) : ∀ {ds : List PyData} {xs : List V} {us : List Value}, Reps S H ds xs → Vals xs us → ∃ as, ReadsAll h us ds as
  | [], xs, us, r, q => by
    cases r.of_nil
    cases q
    exact ⟨_, .nil⟩
  | d :: ds, xs, us, r, q => by
    obtain ⟨x, t, rfl, h1, h2⟩ := r.of_cons
    cases q with
    | cons q1 q2 =>
      obtain ⟨as, a1⟩ := Rep.reads ok h1 q1
      obtain ⟨bs, b1⟩ := Reps.reads ok h2 q2
      exact ⟨_, .cons a1 b1⟩
end

/-! ### what is good to show and to compare -/
structure Good (d : PyData) : Prop where
  lay : d.canLay0 = true
  show' : d.showable = true
  short : d.leavesShort 60 = true
  deep : d.depth ≤ 60
  light : d.weight ≤ 200000
theorem Good.nodict {d : PyData} (g : Good d) : d.hasDict = false := PyData.hasDict_of_canLay d g.lay
theorem Good.fits {d : PyData} (g : Good d) : d.shown.length ≤ sizeLine := by
  have h := PyData.shown_le 60 (by decide) d g.short
  have h2 := g.light
  rw [sizeLine_eq]
  omega

section
variable {X : Cx} {k : Nat}
theorem call_reprD (hr : Room k X.A) : CallR X (.builtin "repr") (fun xs H Q => ∃ S d v, xs = [v] ∧ Rep S H d v ∧ Good d ∧ Q (.str d.shown) H) := by
  intro pins s σ H xs us Q I r h
  obtain ⟨S, d, v, rfl, rp, g, q⟩ := h
  obtain ⟨u, rfl, ru⟩ := vals1 r
  have hun := hr.units
  have fin : ∀ (h' : Heap) (t : Tok) (tk : Nat), (∀ b o, s.heap.get? b = some o → h'.get? b = some o) → EP X pins σ Q (.str d.shown t) { s with heap := h', toks := tk } := fun h' t tk kp => ⟨.str d.shown, H, I.kept kp, ⟨t, rfl⟩, q⟩
  have fin0 : ∀ (t : Tok) (tk : Nat), EP X pins σ Q (.str d.shown t) { s with toks := tk } := fun t tk => fin s.heap t tk fun _ _ e => e
  cases d with
  | none => cases rp.of_non; cases (show u = Value.none from ru); exact P.repr_of_none (fin0 _ _)
  | bool b => cases rp.of_bl; cases (show u = Value.bool b from ru); exact P.repr_of_bool (fin0 _ _)
  | int i => cases rp.of_int; obtain ⟨t, e⟩ := (show ∃ t, u = Value.int i t from ru); cases e; exact P.repr_of_int (by simpa [PyData.showable] using g.show') (fin0 _ _)
  | str x => cases rp.of_str; obtain ⟨t, e⟩ := (show ∃ t, u = Value.str x t from ru); cases e; exact P.repr_of_str (fin0 _ _) g.fits
  | tuple ds =>
    obtain ⟨as, ra⟩ := rp.reads I.hok ru
    obtain ⟨a, xs, rfl, _⟩ := rp.of_tup
    cases (show u = Value.ref a from ru)
    exact repr_of_reads' ra g.show' (PyData.noDict_hsm g.nodict) hr.gd (by have := g.deep; omega) (fun _ _ e => e) (fun h' t tk kp => fin h' t tk kp) g.fits
  | list ds =>
    obtain ⟨as, ra⟩ := rp.reads I.hok ru
    obtain ⟨a, xs, rfl, _⟩ := rp.of_lst
    cases (show u = Value.ref a from ru)
    exact repr_of_reads' ra g.show' (PyData.noDict_hsm g.nodict) hr.gd (by have := g.deep; omega) (fun _ _ e => e) (fun h' t tk kp => fin h' t tk kp) g.fits
  | dict _ => unfold Rep at rp; exact rp.elim
/-- data compared -/
def rEqD (neg : Bool) : R2 := fun x y H Q => ∃ S dx dy, Rep S H dx x ∧ Rep S H dy y ∧ dx.canLay0 = true ∧ dy.canLay0 = true ∧ dx.depth ≤ 60 ∧ Q (.bl (if neg then !PyData.eqv dx dy else PyData.eqv dx dy)) H
theorem op_neD (hr : Room k X.A) : OpR X (compareOp .NotEq) (rEqD true) := by
  intro pins s σ H x y v u Q I rx ry h
  obtain ⟨S, dx, dy, h1, h2, c1, c2, d1, q⟩ := h
  obtain ⟨as, ra⟩ := h1.reads I.hok rx
  obtain ⟨bs, rb⟩ := h2.reads I.hok ry
  have hun := hr.units
  exact SeqAt.compareNe_reads ra rb c1 c2 (by omega) ⟨.bl _, H, I, rfl, q⟩

/-! ### isinstance against a built-in type -/
theorem call_isi : CallR X (.builtin "isinstance") (fun xs H Q => ∃ x t c b, xs = [x, .ty c] ∧ TyOf X.K H x (.type t) ∧ PySem.W.kitOne X.K (.type t) (.type c) = some b ∧ Q (.bl b) H) := by
  intro pins s σ H xs us Q I r h
  obtain ⟨x, t, c, b, rfl, ty, e, q⟩ := h
  obtain ⟨u, u2, rfl, rx, rc⟩ := vals2 r
  cases (show u2 = Value.type c from rc)
  exact isinst_ok I rx ty e fun tk => ⟨.bl b, H, I.tok tk, rfl, q⟩
end

/-- the type of data -/
def tyD : PyData → String
  | .none => "NoneType"
  | .bool _ => "bool"
  | .int _ => "int"
  | .str _ => "str"
  | .list _ => "list"
  | .tuple _ => "tuple"
  | .dict _ => "dict"
theorem Rep.ty {K : PySem.W.Frag} {S : List Addr} {H : Hp} {d : PyData} {v : V} (h : Rep S H d v) : TyOf K H v (.type (tyD d)) := by
  cases d with
  | none => cases h.of_non; exact .non
  | bool b => cases h.of_bl; exact .bl b
  | int i => cases h.of_int; exact .int i
  | str x => cases h.of_str; exact .str x
  | tuple ds => obtain ⟨a, xs, rfl, ha, _⟩ := h.of_tup; exact .tup ha
  | list ds => obtain ⟨a, xs, rfl, ha, _⟩ := h.of_lst; exact .lst ha
  | dict _ => unfold Rep at h; exact h.elim
end L2

set_option Elab.async false
set_option linter.all false
set_option maxRecDepth 100000
/-! Rules of our own: ranges as values, tuple(range), slices of tuples, sums of tuples, insert, min and max of a tuple. -/
namespace PySem
open Sem (wp)
open AutoSeq1 (wpAny_loadPart')
section
variable {prog : Program} {w : World} {A : Around} {E : Value → Shared → Prop} {s : Shared}
end
end PySem
namespace L2
open PySem PySem.Spec PyProof.Rows
/-! ### ranges as values -/
def rngV (lo hi : Int) : List V := (List.range (hi - lo).toNat).map fun (k : Nat) => V.int (lo + k)
section
variable {X : Cx}
theorem call_rng : CallR X (.type "range") (fun xs H Q => ∃ j : Int, xs = [.int j] ∧ ∀ p, H p = none → Q (.ref p) (upd H p (.rng 0 j))) := by
  intro pins s σ H xs us Q I r h
  obtain ⟨j, rfl, q⟩ := h
  obtain ⟨u, rfl, ru⟩ := vals1 r
  obtain ⟨t, rfl⟩ := ru
  refine call_range_1 ?_
  refine ⟨.ref s.heap.objs.size, _, I.laid (o := .rng 0 j) (fun b o e => Heap.get?_push_of_some _ e) (Nat.le_refl _) ⟨_, _, _, Heap.get?_push_size _ rfl⟩, rfl, q _ (I.hok.fresh (Nat.le_refl _))⟩
theorem items_rng {lo hi : Int} {acc : Array Value} (h : ItemsOf (fun i v => ∃ t, v = Value.int (lo + i * 1) t) acc (hi - lo).toNat) : Vals (rngV lo hi) acc.toList := by
  obtain ⟨hs, hi'⟩ := h
  unfold rngV
  have : ∀ (l : List Value) (k : Nat), (∀ j v, l[j]? = some v → ∃ t, v = Value.int (lo + ((k + j : Nat) : Int)) t) → Vals ((List.range' k l.length).map fun (k : Nat) => V.int (lo + k)) l := by
    intro l
    induction l with
    | nil => intro k _; exact .nil
    | cons v l ih =>
      intro k hv
      rw [List.length_cons, List.range'_succ, List.map_cons]
      refine .cons (hv 0 v rfl) (ih (k + 1) fun j w hw => ?_)
      obtain ⟨t, e⟩ := hv (j + 1) w (by simpa using hw)
      exact ⟨t, by rw [e]; congr 2; omega⟩
  have q := this acc.toList 0 fun j v hv => by
    obtain ⟨t, e⟩ := hi' j v (by simpa using hv)
    exact ⟨t, by rw [e, Int.mul_one, Nat.zero_add]⟩
  rw [List.range_eq_range', ← hs]
  simpa using q
theorem rng_size (lo hi : Int) : Builtin.Range.rangeSize lo hi 1 = ((hi - lo).toNat : Int) := by rw [rangeSize_one]; split <;> omega
theorem call_list_rng (hc : X.calm = true) : CallR X (.type "list") (fun xs H Q => ∃ p lo hi, xs = [.ref p] ∧ H p = some (.rng lo hi) ∧ (-(2 ^ 62) ≤ lo ∧ lo < 2 ^ 62 ∧ -(2 ^ 62) ≤ hi ∧ hi < 2 ^ 62) ∧ (hi - lo).toNat ≤ 2 ^ 24 ∧ ∀ l, H l = none → Q (.ref l) (upd H l (.lst (rngV lo hi)))) := by
  intro pins s σ H xs us Q I r h
  obtain ⟨p, lo, hi, rfl, hp, ⟨h1, h2, h3, h4⟩, hl, q⟩ := h
  obtain ⟨u, rfl, ru⟩ := vals1 r
  cases ru
  obtain ⟨t, u, v, e⟩ := I.hok p _ hp
  refine call_list_range (I.ok.hd hc) e (small_one h1 h2 h3 h4) (rng_size lo hi) hl fun h' tk acc' c' kp e' hi' => ?_
  have hv := items_rng hi'
  have hlen := hv.length
  have hr : (rngV lo hi).length ≤ sizeLine := by
    unfold rngV; rw [List.length_map, List.length_range, sizeLine_eq]; omega
  refine ⟨.ref s.heap.objs.size, _, I.laid kp (Nat.le_refl _) (show ObjOk X.prog X.w _ h' _ (.lst (rngV lo hi)) from ⟨hr, acc'.toList, c', hv, by simpa using e'⟩), rfl, q _ (I.hok.fresh (Nat.le_refl _))⟩
/-! ### insert -/
end

/-! ### short words -/
section
variable {X : Cx}
theorem pe_ty (T : String) {x : Str} {pos : Pos} (hg : Gl X x) (hm : X.mg x = none) (hv : bootBuiltins x = some (.type T)) (hn : x ≠ "__name__" := by decide) (hd : (x == ("__debug__" : Str)) = false := by decide) : PE X (.Name x pos) (tC (.ty T)) := pe_bltn hg hm hv rfl hn hd
/-- a statement, then what holds behind it, then the rest -/
def tCut (t u : TS) : TS := fun D σ H => ∃ M : St → Hp → Prop, t { D with nx := M } σ H ∧ ∀ σ' H', M σ' H' → u D σ' H'
theorem pss_cut {st : Stmt} {rest : List Stmt} {t u : TS} (h1 : PS X st t) (h2 : PSs X rest u) : PSs X (st :: rest) (tCut t u) := by
  intro pins s σ H D I h
  obtain ⟨M, q, k⟩ := h
  refine wpAny_execs_cons (thn (h1 pins s σ H { D with nx := M } I q) fun f s1 e => ?_)
  cases f with
  | next => obtain ⟨σ1, H1, I1, m1⟩ := e; exact h2 pins s1 σ1 H1 D I1 (k σ1 H1 m1)
  | brk => exact e
  | cont => exact e
  | ret u => exact e
theorem atI_ex {α : Type} {xs : List α} {i : Int} (h0 : 0 ≤ i) (h1 : i < xs.length) : ∃ v, atI xs i = some v ∧ xs[i.toNat]? = some v := by
  have hlt : i.toNat < xs.length := by omega
  refine ⟨xs[i.toNat], ?_, by simp [hlt]⟩
  unfold atI ixN
  rw [if_pos h0, if_pos h1]
  simp [hlt]
end

/-! ### argument lists, looked at quickly -/
def notStar : Expr → Bool
  | .Starred .. => false
  | _ => true
theorem starEach_ns {e : Expr} {es : List Expr} {env : Env} (h : notStar e = true) : starEach (e :: es) env = (false, eval e env) :: starEach es env := by
  cases e <;> first | rfl | cases h
theorem backTo_ns {pos : Pos} {env : Env} : ∀ {es : List Expr}, es.all notStar = true → (backTo pos (starEach es env)).any (·.1) = false
  | [], _ => rfl
  | e :: es, h => by
    rw [List.all_cons, Bool.and_eq_true] at h
    rw [starEach_ns h.1]
    show (backTo pos ((false, eval e env) :: starEach es env)).any (·.1) = false
    have ih := backTo_ns (pos := pos) (env := env) h.2
    show (false || (backTo pos (starEach es env)).any (·.1)) = false
    rw [ih]
    rfl
theorem backTo_all {pos : Pos} {env : Env} : ∀ {es : List Expr}, es.all notStar = true → (backTo pos (starEach es env)).all (fun x => !x.1) = true
  | [], _ => rfl
  | e :: es, h => by
    rw [List.all_cons, Bool.and_eq_true] at h
    rw [starEach_ns h.1]
    have ih := backTo_all (pos := pos) (env := env) h.2
    show (true && (backTo pos (starEach es env)).all (fun x => !x.1)) = true
    rw [ih]
    rfl
theorem ns_hd {e : Expr} {es : List Expr} (h : (e :: es).all notStar = true) : notStar e = true ∧ es.all notStar = true := by
  rw [List.all_cons, Bool.and_eq_true] at h
  exact h
end L2

set_option Elab.async false
set_option linter.all false
set_option maxRecDepth 100000
/-! The judgements as structures (so that no elaborator unfolds them), and the rules over them: q.. for p... -/
namespace L2
open PySem PySem.Spec PyProof.Rows
structure QE (X : Cx) (e : Expr) (t : TE) : Prop where run : PE X e t
structure QT (X : Cx) (e : Expr) (t : TT) : Prop where run : PT X e t
structure QW (X : Cx) (e : Expr) (t : TT) : Prop where run : PW X e t
structure QA (X : Cx) (es : List Expr) (t : TA) : Prop where
  run : PA X es t
  ns : es.all notStar = true
structure QS (X : Cx) (st : Stmt) (t : TS) : Prop where run : PS X st t
structure QSs (X : Cx) (st : List Stmt) (t : TS) : Prop where run : PSs X st t
structure QG (X : Cx) (e : Expr) (t : TG) : Prop where run : PG X e t
structure QGs (X : Cx) (es : List Expr) (t : TGs) : Prop where run : PGs X es t
structure QI (X : Cx) (tg iter : Expr) (t : TI) : Prop where run : PI X tg iter t
structure QO (X : Cx) (e : Option Expr) (t : TO) : Prop where run : PO X e t
structure QK (X : Cx) (ifs : List Expr) (t : TT) : Prop where run : PCk X ifs t
section
variable {X : Cx} {a b c e o i' tg iter elt : Expr} {es : List Expr} {ta tb tc te to ti : TE} {tA tB' : TT} {t : TA} {pos p apos cpos p2 : Pos} {k : Nat} {x name : Str} {ps : List Str} {sp : Sp} {id T : String} {rest : List Expr}
theorem qv (i : Nat) {x : Str} {pos : Pos} (hN : X.N[i]? = some x := by rfl) (hv : Vis X.env.scope x := by first | exact Or.inl rfl | exact Or.inr (Or.inl rfl) | exact Or.inr (Or.inr rfl)) (hd : (x == ("__debug__" : Str)) = false := by decide)
    (hcd : (x == ("__classdict__" : Str)) = false := by decide) : QE X (.Name x pos) (tVar i) := ⟨pe_var hN hv hd hcd⟩
theorem qe_int {i j pos} : QE X (.Constant (.int i) j pos) (tC (.int i)) := ⟨pe_int⟩
theorem qe_bl {b j pos} : QE X (.Constant (.bool b) j pos) (tC (.bl b)) := ⟨pe_bl⟩
theorem qe_non {j pos} : QE X (.Constant .none j pos) (tC .non) := ⟨pe_non⟩
theorem qe_str {x j pos} : QE X (.Constant (.str x) j pos) (tC (.str x)) := ⟨pe_str⟩
theorem qe_ty (T : String) {x : Str} {pos : Pos} (hg : Gl X x) (hm : X.mg x = none) (hv : bootBuiltins x = some (.type T)) (hn : x ≠ "__name__" := by decide) (hd : (x == ("__debug__" : Str)) = false := by decide) : QE X (.Name x pos) (tC (.ty T)) := ⟨pe_ty T hg hm hv hn hd⟩
theorem qe_op {op : Operator} {r : R2} (ho : OpR X (binaryOp op) r) (ha : QE X a ta) (hb : QE X b tb) : QE X (.BinOp a op b pos) (tOp r ta tb) := ⟨pe_op ho ha.run hb.run⟩
theorem qe_un {op : UnaryOp} {r : V → Hp → VK → Prop} (ho : UnR X (unaryOp op) r) (ha : QE X a ta) : QE X (.UnaryOp op a pos) (tUn r ta) := ⟨pe_un ho ha.run⟩
theorem qe_cmpR {op : CmpOp} {r : R2} (ho : OpR X (compareOp op) r) (ha : QE X a ta) (hb : QE X b tb) (hm : behindInMarks op b = false) : QE X (.Compare a [op] [b] pos) (tOp r ta tb) := ⟨pe_cmpR ho ha.run hb.run hm⟩
theorem qt_cmpR {op : CmpOp} {r : R2} (ho : OpR X (compareOp op) r) (ha : QE X a ta) (hb : QE X b tb) (hm : behindInMarks op b = false) : QT X (.Compare a [op] [b] pos) (tTest (tOp r ta tb)) := ⟨pt_cmpR ho ha.run hb.run hm⟩
theorem qe_chain {op op' : CmpOp} {r r' : R2} (ho : OpR X (compareOp op) r) (ho' : OpR X (compareOp op') r') (ha : QE X a ta) (hb : QE X b tb) (hc : QE X c tc)
    (hm : lastMarks [op, op'] [b, c] = false := by with_unfolding_all rfl) : QE X (.Compare a [op, op'] [b, c] pos) (tChain r r' ta tb tc) := ⟨pe_chain ho ho' ha.run hb.run hc.run hm⟩
theorem qt_val (h : QE X e te) (he : ∀ whole, isTrue e X.env whole = (do let v ← whole; standAt e.pos; holding [v] (truthy v)) := by intro _; rfl) : QT X e (tB te) := ⟨pt_val h.run he⟩
theorem qw_and1 (ha : QT X a tA) : QW X (.BoolOp .And [a] pos) tA := ⟨pw_and1 ha.run⟩
theorem qw_or1 (ha : QT X a tA) : QW X (.BoolOp .Or [a] pos) tA := ⟨pw_or1 ha.run⟩
theorem qw_and (ha : QT X a tA) (hb : QW X (.BoolOp .And (b :: rest) pos) tB') : QW X (.BoolOp .And (a :: b :: rest) pos) (tAnd tA tB') := ⟨pw_and ha.run hb.run⟩
theorem qw_or (ha : QT X a tA) (hb : QW X (.BoolOp .Or (b :: rest) pos) tB') : QW X (.BoolOp .Or (a :: b :: rest) pos) (tOr tA tB') := ⟨pw_or ha.run hb.run⟩
theorem QW.pt (h : QW X e tA) : QT X e tA := ⟨h.run.pt⟩
theorem qt_not (ha : QT X a tA) : QT X (.UnaryOp .Not a pos) (tNot tA) := ⟨pt_not ha.run⟩
theorem qe_one {op} (h : QE X a ta) : QE X (.BoolOp op [a] pos) ta := ⟨pe_one h.run⟩
theorem qe_and (ha : QE X a ta) (hb : QE X (.BoolOp .And (b :: rest) pos) tb) : QE X (.BoolOp .And (a :: b :: rest) pos) (tAndV ta tb) := ⟨pe_and ha.run hb.run⟩
theorem qe_not (ha : QE X a ta) : QE X (.UnaryOp .Not a pos) (tNotV ta) := ⟨pe_not ha.run⟩
theorem qa_nil : QA X [] tNil := ⟨pa_nil, rfl⟩
theorem qa_c (ha : QE X e te) (hr : QA X es t) (hs : notStar e = true := by rfl) : QA X (e :: es) (tCons te t) := ⟨pa_cons ha.run hr.run (starEach_ns hs), by rw [List.all_cons, hs, hr.ns]; rfl⟩
theorem qe_lst (h : QA X es t) : QE X (.List es pos) (tLst t) := ⟨pe_lst h.run⟩
theorem qe_tup {x1} (h : QA X es t) : QE X (.Tuple es x1 pos) (tTup t) := ⟨pe_tup h.run⟩
theorem qe_ix {r : R2} (hr : IxR X r) (ha : QE X a ta) (hb : QE X b tb) (hs : PlainIx b) : QE X (.Subscript a b pos) (tOp r ta tb) := ⟨pe_ix hr ha.run hb.run hs⟩
theorem qo_none : QO X none tNoPart := ⟨po_none⟩
theorem qo_some (h : QE X e te) : QO X (some e) (tPart te) := ⟨po_some h.run⟩
theorem qe_slice {r : V → Option Int → Option Int → Hp → VK → Prop} {lo hi : Option Expr} {tl th : TO} (hr : SlR X r) (he : QE X e te) (hl : QO X lo tl) (hu : QO X hi th) : QE X (.Subscript e (.Slice lo hi none p2) pos) (tSl r te tl th) := ⟨pe_slice hr he.run hl.run hu.run⟩
theorem qe_callD (D : DefOk X.prog X.w X.K X.mg X.base k x ps sp) (hr : Room k X.A) (ha : QA X (e :: es) t) (hg : Gl X x := by rfl) (hdb : (x == ("__debug__" : Str)) = false := by decide) :
    QE X (.Call (.Name x p) (e :: es) [] pos) (tCallD sp t) := ⟨pe_callD D hr ha.run hg hdb (starEach_ns (ns_hd ha.ns).1) (backTo_ns (ns_hd ha.ns).2)⟩
theorem qe_callB {r : List V → Hp → VK → Prop} (hc : CallR X (.builtin id) r) (hg : Gl X x) (hm : X.mg x = none) (hv : bootBuiltins x = some (.builtin id)) (ha : QA X (e :: es) t) (hn : x ≠ "__name__" := by decide) (hdb : (x == ("__debug__" : Str)) = false := by decide) :
    QE X (.Call (.Name x p) (e :: es) [] pos) (tCB r t) := ⟨pe_callB hc hg hm hv ha.run hn hdb (starEach_ns (ns_hd ha.ns).1) (backTo_ns (ns_hd ha.ns).2)⟩
theorem qe_callTy {r : List V → Hp → VK → Prop} (hc : CallR X (.type T) r) (hg : Gl X x) (hm : X.mg x = none) (hv : bootBuiltins x = some (.type T)) (ha : QA X (e :: es) t) (hn : x ≠ "__name__" := by decide) (hdb : (x == ("__debug__" : Str)) = false := by decide) :
    QE X (.Call (.Name x p) (e :: es) [] pos) (tCB r t) := ⟨pe_callTy hc hg hm hv ha.run hn hdb (starEach_ns (ns_hd ha.ns).1) (backTo_ns (ns_hd ha.ns).2)⟩
theorem qe_bm {r : V → List V → Hp → VK → Prop} (pa : PlainAttrs T) (slot : Slot T name id) (hty : typeOf (.builtin id) = pure (.type "method_descriptor")) (hm : MtR X id r) (ho : QE X o to) (ha : QA X (e :: es) t)
    (hbase : attributeBase o name X.env (eval o X.env) = eval o X.env := by rfl) (hl : decide ((e :: es).length + 0 + 0 < 30) = true := by rfl)
    (hline : (apos.endLine == cpos.line) = true := by rfl) : QE X (.Call (.Attribute o name apos) (e :: es) [] cpos) (tBM X.K T r to t) := by
  refine ⟨pe_bm pa slot hty hm ho.run ha.run hbase ?_ hline (starEach_ns (ns_hd ha.ns).1) (backTo_ns (ns_hd ha.ns).2)⟩
  rw [backTo_all ha.ns]
  exact hl
/-! targets, iterators -/
theorem qg_name {i : Nat} {x : Str} (hN : X.N.Nodup) (hi : X.N[i]? = some x) (hx : Loc X.env.scope x) (hf : X.fn x = true ∨ X.env.scope.names.lookup x = some .local := by first | exact .inl rfl | exact .inr rfl | assumption) : QG X (.Name x pos) (gName i) := ⟨pg_name hN hi hx hf⟩
theorem qg_sub {tt : TSet} (ho : QE X o to) (hi : QE X i' ti) (hs : PSet X tt)
    (ha : ∀ v, assign (.Subscript o i' pos) X.env v = (do
      let ov ← holding [v] (eval o X.env)
      let iv ← holding [v, ov] (eval i' X.env)
      standAt pos
      holding [v, ov, iv] (setItem ov iv v)
      release [v, ov, iv] []) := by intro _; rfl) : QG X (.Subscript o i' pos) (gSub to ti tt) := ⟨pg_sub ho.run hi.run hs ha⟩
theorem qi_list (hl : QE X a ta) : QI X tg a (iList X.K ta) := ⟨pi_list hl.run⟩
theorem qi_tup (hl : QE X a ta) : QI X tg a (iTup X.K ta) := ⟨pi_tup hl.run⟩
theorem qi_range1 (hg : Gl X "range") (hm : X.mg "range" = none) (ha : QA X [a] t) : QI X tg (.Call (.Name "range" p) [a] [] pos) (iRng1 t) := ⟨pi_range1 hg hm ha.run (starEach_ns (ns_hd ha.ns).1)⟩
theorem qk_nil : QK X [] tTrue := ⟨pk_nil1⟩
theorem qk_one (h : QT X c tA) : QK X [c] tA := ⟨pk_one1 h.run⟩
/-! statements -/
variable {st : Stmt} {sts body els : List Stmt} {ts us : TS} {ifs : List Expr} {sc : Scope} {N : List Str} {mp : List (Option Nat)} {wi : TI} {g : TG}
theorem qss_nil : QSs X [] tNext := ⟨pss_nil⟩
theorem qss_cons (h1 : QS X st ts) (h2 : QSs X sts us) : QSs X (st :: sts) (tSeq ts us) := ⟨pss_cons h1.run h2.run⟩
theorem qss_cut (h1 : QS X st ts) (h2 : QSs X sts us) : QSs X (st :: sts) (tCut ts us) := ⟨pss_cut h1.run h2.run⟩
theorem qss_one (h1 : QS X st ts) : QSs X [st] ts := ⟨pss_one h1.run⟩
theorem qs_expr (he : QE X e te) (hs : swapsWith e none pos.line X.env = pure false := by rfl) : QS X (.Expr e pos) (tDrop te) := ⟨ps_expr he.run hs⟩
theorem qs_ret (he : QE X e te) : QS X (.Return (some e) pos) (tRet te) := ⟨ps_ret he.run⟩
theorem qs_if (hc : QT X c tA) (ha : QSs X body ts) (hb : QSs X els us) : QS X (.If c body els pos) (tIfS tA ts us) := ⟨ps_if hc.run ha.run hb.run⟩
theorem qs_set {i : Nat} {x : Str} {pos' : Pos} (hN : X.N.Nodup) (hi : X.N[i]? = some x) (hx : Loc X.env.scope x) (he : QE X e te) (hs : swapsWith e (some (.Name x pos')) pos.line X.env = pure false := by rfl)
    (hf : X.fn x = true ∨ X.env.scope.names.lookup x = some .local := by first | exact .inl rfl | exact .inr rfl | assumption) : QS X (.Assign [.Name x pos'] e pos) (tAsg te (gName i)) := ⟨ps_set hN hi hx he.run hs hf⟩
theorem qs_asg (he : QE X e te) (hg : QG X tg g) (hs : swapsWithSole [tg] e pos.line X.env = pure false := by rfl) (hw : swappedStores [tg] e X.env = pure none := by rfl)
    (h1 : (assignEach [tg] X.env).map (·.2) = [assign tg X.env] := by rfl) : QS X (.Assign [tg] e pos) (tAsg te g) := ⟨ps_asg he.run hg.run hs hw h1⟩
theorem qs_for (hp : PassesOwn (model X.prog X.w) X.A X.env X.xe) (hc : X.calm = true) (hi : QI X tg iter wi) (hg : QG X tg g) (hb : QSs X body ts) (hs : ∀ x, foldedSetIterable iter X.env x = pure x := by intro _; rfl) :
    QS X (.For tg iter body [] pos) (tFor wi g ts) := ⟨ps_for hp hc hi.run hg.run hb.run hs⟩
theorem qe_comp (hc : X.calm = true) (hi : QI X tg iter wi) (hk : sc.kind = .function) (hm : compOk X.N X.env.scope sc N mp = true)
    (hb : ∀ (cl : List (Str × Addr)) (C : Addr) (s₂ : Shared) (H₂ : Hp) (fp : List Addr), QG (cxComp X sc N cl C s₂ H₂ fp) tg g ∧ QK (cxComp X sc N cl C s₂ H₂ fp) ifs tA ∧ QE (cxComp X sc N cl C s₂ H₂ fp) elt te)
    (hs : ∀ x, foldedSetIterable iter X.env x = pure x := by intro _; rfl) : QE X (.ListComp elt [⟨tg, iter, ifs, 0⟩] sc pos) (tCompE (tComp wi mp g tA te)) :=
  ⟨pe_comp hc hi.run hk hm (fun cl C s₂ H₂ fp => ⟨(hb cl C s₂ H₂ fp).1.run, (hb cl C s₂ H₂ fp).2.1.run, (hb cl C s₂ H₂ fp).2.2.run⟩) hs⟩
theorem qs_comp {i : Nat} {x : Str} {py spos : Pos} (hN : X.N.Nodup) (hix : X.N[i]? = some x) (hx : X.env.scope.names.lookup x = some .local) (hc : X.calm = true) (hi : QI X tg iter wi) (hk : sc.kind = .function) (hm : compOk X.N X.env.scope sc N mp = true)
    (hb : ∀ (cl : List (Str × Addr)) (C : Addr) (s₂ : Shared) (H₂ : Hp) (fp : List Addr), QG (cxComp X sc N cl C s₂ H₂ fp) tg g ∧ QK (cxComp X sc N cl C s₂ H₂ fp) ifs tA ∧ QE (cxComp X sc N cl C s₂ H₂ fp) elt te)
    (hsw : swapsWith (.ListComp elt [⟨tg, iter, ifs, 0⟩] sc pos) (some (.Name x py)) spos.line X.env = pure true := by rfl)
    (hs : ∀ x, foldedSetIterable iter X.env x = pure x := by intro _; rfl) : QS X (.Assign [.Name x py] (.ListComp elt [⟨tg, iter, ifs, 0⟩] sc pos) spos) (tCompS i (tComp wi mp g tA te)) :=
  ⟨ps_comp hN hix hx hc hi.run hk hm (fun cl C s₂ H₂ fp => ⟨(hb cl C s₂ H₂ fp).1.run, (hb cl C s₂ H₂ fp).2.1.run, (hb cl C s₂ H₂ fp).2.2.run⟩) hsw hs⟩
end
theorem Fun.okQ {P : Program} {w : World} {K : PySem.W.Frag} {mg : Str → Option Value} {base : Heap} {x qual : Str} {st : Stmt} {f : Addr} {fd : FuncData} {N ps : List Str} {k : Nat} {sp : Sp} (F : Fun K x qual st f fd) (S : FnScope N ps (defScope st)) (len : ∀ vs H Q E, sp vs H Q E → vs.length = ps.length)
    (hbody : ∀ (cdv : Value) (A : Around) (outer : List Env) (s : Shared) (H : Hp) (vs : List V) (Q : VK) (E : XK), Room k (A.deeper (envOfC qual (defScope st) s.heap.objs.size f cdv)) → sp vs H Q E →
      ∃ t, QSs (cxOf CX0 P w K mg base N qual (defScope st) f cdv A outer s H E).nox (defBody st) t ∧ t { nx := fun _ H' => Q .non H', rt := Q } (start N vs) H) : FnOk P w K mg base CX0 (k + 1) f fd ps sp :=
  F.ok S len fun cdv A outer s H vs Q E hr h => let ⟨t, q, r⟩ := hbody cdv A outer s H vs Q E hr h; ⟨t, q.run, r⟩
/-! ### the rules that name the written part: K said outright (a block's own context must not stand in a reading) -/
section
variable {X : Cx} (K : PySem.W.Frag)
theorem ixT (h : X.K = K := by rfl) : IxR X (rIxT K) := by subst h; exact ix_tup
theorem ixL (h : X.K = K := by rfl) : IxR X (rIxL K) := by subst h; exact ix_list
theorem slL (h : X.K = K := by rfl) : SlR X (rSlL K) := by subst h; exact sl_list
theorem lenK (h : X.K = K := by rfl) : CallR X (.builtin "len") (fun xs H Q => ∃ p ys, xs = [.ref p] ∧ (SqL K H p ys ∨ SqT K H p ys) ∧ Q (.int ys.length) H) := by subst h; exact call_len_seq
theorem isiK (h : X.K = K := by rfl) : CallR X (.builtin "isinstance") (fun xs H Q => ∃ x t c b, xs = [x, .ty c] ∧ TyOf K H x (.type t) ∧ PySem.W.kitOne K (.type t) (.type c) = some b ∧ Q (.bl b) H) := by subst h; exact call_isi
theorem listK (h : X.K = K := by rfl) : CallR X (.type "list") (fun xs H Q => ∃ p ys, xs = [.ref p] ∧ (SqL K H p ys ∨ SqT K H p ys) ∧ ∀ l, H l = none → Q (.ref l) (upd H l (.lst ys))) := by subst h; exact call_list_of
theorem tupleK (h : X.K = K := by rfl) : CallR X (.type "tuple") (fun xs H Q => ∃ p ys, xs = [.ref p] ∧ ((SqL K H p ys ∧ ∀ l, H l = none → Q (.ref l) (upd H l (.tup ys))) ∨ (SqT K H p ys ∧ Q (.ref p) H))) := by subst h; exact call_tuple_of
variable {a o e tg : Expr} {es : List Expr} {ta to : TE} {t : TA} {apos cpos : Pos} {name : Str} {id T : String}
theorem qi_listK (hl : QE X a ta) (h : X.K = K := by rfl) : QI X tg a (iList K ta) := by subst h; exact qi_list hl
theorem qi_tupK (hl : QE X a ta) (h : X.K = K := by rfl) : QI X tg a (iTup K ta) := by subst h; exact qi_tup hl
theorem qe_bmK {r : V → List V → Hp → VK → Prop} (pa : PlainAttrs T) (slot : Slot T name id) (hty : typeOf (.builtin id) = pure (.type "method_descriptor")) (hm : MtR X id r) (ho : QE X o to) (ha : QA X (e :: es) t) (h : X.K = K := by rfl)
    (hbase : attributeBase o name X.env (eval o X.env) = eval o X.env := by rfl) (hl : decide ((e :: es).length + 0 + 0 < 30) = true := by rfl)
    (hline : (apos.endLine == cpos.line) = true := by rfl) : QE X (.Call (.Attribute o name apos) (e :: es) [] cpos) (tBM K T r to t) := by subst h; exact qe_bm pa slot hty hm ho ha hbase hl hline
end
end L2

set_option Elab.async false
set_option linter.all false
set_option maxRecDepth 100000
/-! Slices of tuples: the whole, turned about; sums with an empty tuple. -/
namespace HT
open PySem PyProof.Rows
section
variable {prog : Program} {w : World} {A : Around} {E : Value → Shared → Prop} {s : Shared}
theorem getItem_tuple_whole {t sl : Addr} {items : Array Value} {vl vu : Value} {lo hi : Option Int} {Q : Value → Shared → Prop} (ht : IsTup s.heap t items) (hs : s.heap.IsSliceOf sl vl vu .none) (pl : IsPart vl lo) (pu : IsPart vu hi)
    (hw : sIx items.size 0 lo = 0 ∧ sIx items.size items.size hi = items.size) (h : Q (.ref t) s) : wpAny (model prog w) A (getItem (.ref t) (.ref sl)) Q E s := by
  obtain ⟨os, hos, hcs, hds⟩ := id hs
  have hTs : s.TypeIs (.ref sl) "slice" := ⟨os, hos, hcs⟩
  unfold getItem
  try with_reducible refine wpAny_holding ?_
  first | refine wpAny_bind (wpAny_pure ?_) | skip
  refine wpAny_bind (wpAny_sequenceKey ht.typeIs (by decide) ?_)
  refine wpAny_bind (wpAny_callSpecial?_slot (name := Str.ofString "__getitem__") ht.typeIs PyProof.Rows.slot_tuple_getitem
    (wpAny_call_entry PyProof.Rows.slot_tuple_getitem ht.typeIs entry_tuple_getitem ?_ (args_tuple_getitem _ _)))
  show wpAny _ _ (Builtin.Tuple.tupleItemsOf (.ref t) >>= _) _ _ s
  refine wpAny_bind (tupleItemsOf_ ht ?_)
  refine wpAny_bind (wpAny_typeOf hTs ?_)
  rw [if_pos (by decide)]
  refine wpAny_bind (sliceApplied_gen hs pl pu ?_)
  have hyes : ((((sIx items.size 0 lo : Nat) : Int) == 0 && (1 : Int) == 1 && (sIx items.size items.size hi - sIx items.size 0 lo) == items.size) = true) := by
    rw [hw.1, hw.2]; simp
  show wpAny _ _ (if (((sIx items.size 0 lo : Nat) : Int) == 0 && (1 : Int) == 1 && (sIx items.size items.size hi - sIx items.size 0 lo) == items.size) = true then _ else _) _ _ s
  rw [if_pos hyes]
  refine wpAny_bind ?_
  unfold Builtin.Tuple.tupleIsExact
  refine wpAny_bind (wpAny_typeOf ht.typeIs (wpAny_pure ?_))
  show wpAny _ _ (if (Value.type "tuple" == Value.type "tuple") = true then _ else _) _ _ s
  rw [if_pos (by decide)]
  exact wpAny_bind (wpAny_rule (wpAny_pure ⟨_, rfl, wpAny_pure h⟩))
theorem sliceApplied_rev {sl : Addr} {tk : Tok} {n : Nat} {Q : Int × Int × Nat → Shared → Prop} (hs : s.heap.IsSliceOf sl .none .none (.int (-1) tk))
    (h : Q ((n : Int) - 1, -1, n) s) : wpAny (model prog w) A (Builtin.Slice.sliceApplied (.ref sl) (pure (n : Int))) Q E s := by
  obtain ⟨os, hos, hcs, hds⟩ := id hs
  unfold Builtin.Slice.sliceApplied Builtin.Slice.sliceFields
  refine wpAny_bind (wpAny_bind (wpAny_field hos hds (x := .none) rfl (wpAny_bind (wpAny_field hos hds (x := .none) rfl (wpAny_bind (wpAny_field hos hds (x := .int (-1) tk) rfl (wpAny_pure ?_)))))))
  refine wpAny_bind (slicePart_int ?_)
  show wpAny _ _ (if ((-1 : Int) == 0) = true then _ else _) _ _ s
  rw [if_neg (by decide)]
  refine wpAny_bind (slicePart_none (wpAny_bind (slicePart_none (wpAny_bind (wpAny_pure ?_)))))
  have e1 : Builtin.Slice.sliceAdjust none none (-1) (n : Int) = ((n : Int) - 1, -1) := rfl
  have e2 : Builtin.Slice.slicePlaces ((n : Int) - 1) (-1) (-1) = n := by
    unfold Builtin.Slice.slicePlaces
    rw [if_neg (by decide)]
    by_cases hn : (n : Int) - 1 > -1
    · rw [if_pos hn]
      have : ((n : Int) - 1 - -1 - 1) / (- -1) + 1 = n := by
        rw [show (- -1 : Int) = 1 from rfl, Int.ediv_one]
        omega
      rw [this]
      simp
    · rw [if_neg hn]
      omega
  show wpAny _ _ (match Builtin.Slice.sliceAdjust none none (-1) (n : Int) with | (lo, hi) => pure (lo, (-1 : Int), Builtin.Slice.slicePlaces lo hi (-1))) _ _ s
  rw [e1]
  show wpAny _ _ (pure ((n : Int) - 1, (-1 : Int), Builtin.Slice.slicePlaces ((n : Int) - 1) (-1) (-1))) _ _ s
  rw [e2]
  exact wpAny_pure h
theorem fm_map {α β : Type} {f : α → Option β} {g : α → β} : ∀ {l : List α}, (∀ m ∈ l, f m = some (g m)) → l.filterMap f = l.map g
  | [], _ => rfl
  | a :: l, h => by
    rw [List.filterMap_cons, h a List.mem_cons_self, List.map_cons, fm_map fun m hm => h m (List.mem_cons_of_mem _ hm)]
theorem pick_rev (xs : Array Value) : ((List.range xs.size).filterMap fun (m : Nat) => xs[(((xs.size : Nat) : Int) - 1 + (m : Int) * -1).toNat]?).toArray = xs.toList.reverse.toArray := by
  congr 1
  apply List.ext_getElem?
  intro i
  have key : ∀ m ∈ List.range xs.size, (fun (m : Nat) => xs[(((xs.size : Nat) : Int) - 1 + (m : Int) * -1).toNat]?) m = some (xs.getD (xs.size - 1 - m) .none) := by
    intro m hm
    have hm' := List.mem_range.mp hm
    have e : (((xs.size : Nat) : Int) - 1 + (m : Int) * -1).toNat = xs.size - 1 - m := by omega
    show xs[_]? = _
    rw [e]
    simp [Array.getD, show xs.size - 1 - m < xs.size by omega]
  have e3 : (List.range xs.size).filterMap (fun (m : Nat) => xs[(((xs.size : Nat) : Int) - 1 + (m : Int) * -1).toNat]?) = (List.range xs.size).map fun m => xs.getD (xs.size - 1 - m) .none := by
    exact fm_map key
  rw [e3, List.getElem?_map]
  by_cases hi : i < xs.size
  · rw [List.getElem?_range hi, List.getElem?_reverse (by simpa using hi)]
    simp [Array.getD, show xs.size - 1 - i < xs.size by omega]
  · rw [List.getElem?_eq_none (by simp; omega), List.getElem?_eq_none (by simp; omega)]
    rfl
theorem getItem_tuple_rev {t sl : Addr} {items : Array Value} {tk : Tok} {Q : Value → Shared → Prop} (ht : IsTup s.heap t items) (hs : s.heap.IsSliceOf sl .none .none (.int (-1) tk))
    (h : Q (.ref s.heap.objs.size) { s with heap := s.heap.push { cls := .type "tuple", data := .seq items.toList.reverse.toArray } }) (hsz : items.size ≤ sizeLine) : wpAny (model prog w) A (getItem (.ref t) (.ref sl)) Q E s := by
  obtain ⟨os, hos, hcs, hds⟩ := id hs
  have hTs : s.TypeIs (.ref sl) "slice" := ⟨os, hos, hcs⟩
  have hz : sizeOk (.seq items.toList.reverse.toArray) := by
    show items.toList.reverse.toArray.size ≤ sizeLine
    simpa using hsz
  unfold getItem
  try with_reducible refine wpAny_holding ?_
  first | refine wpAny_bind (wpAny_pure ?_) | skip
  refine wpAny_bind (wpAny_sequenceKey ht.typeIs (by decide) ?_)
  refine wpAny_bind (wpAny_callSpecial?_slot (name := Str.ofString "__getitem__") ht.typeIs PyProof.Rows.slot_tuple_getitem
    (wpAny_call_entry PyProof.Rows.slot_tuple_getitem ht.typeIs entry_tuple_getitem ?_ (args_tuple_getitem _ _)))
  show wpAny _ _ (Builtin.Tuple.tupleItemsOf (.ref t) >>= _) _ _ s
  refine wpAny_bind (tupleItemsOf_ ht ?_)
  refine wpAny_bind (wpAny_typeOf hTs ?_)
  rw [if_pos (by decide)]
  refine wpAny_bind (sliceApplied_rev (n := items.size) hs ?_)
  have hno : ¬ ((((items.size : Nat) : Int) - 1 == 0 && (-1 : Int) == 1 && items.size == items.size) = true) := by
    intro q
    rw [Bool.and_eq_true, Bool.and_eq_true] at q
    exact absurd q.1.2 (by decide)
  show wpAny _ _ (if (((items.size : Nat) : Int) - 1 == 0 && (-1 : Int) == 1 && items.size == items.size) = true then _ else _) _ _ s
  rw [if_neg hno, pick_rev]
  first
    | exact wpAny_bind (m := Builtin.Tuple.tupleExact _) (wpAny_newObj_type (wpAny_pure ⟨_, rfl, wpAny_pure h⟩) hz)
    | exact wpAny_bind (m := Builtin.Tuple.tupleExact _) (wpAny_newObj_type (wpAny_bind (wpAny_pure (wpAny_pure ⟨_, rfl, wpAny_pure h⟩))) hz)
    | exact wpAny_bind (wpAny_bind (m := Builtin.Tuple.tupleExact _) (wpAny_newObj_type (wpAny_pure (wpAny_pure ⟨_, rfl, wpAny_pure h⟩)) hz))
    | exact wpAny_bind (wpAny_bind (m := Builtin.Tuple.tupleExact _) (wpAny_newObj_type (wpAny_pure ⟨_, rfl, wpAny_pure h⟩) hz))
end
end HT
namespace L2
open PySem PySem.Spec PyProof.Rows
/-- t[lo:hi], also the whole (t itself) -/
def rSlTA (K : PySem.W.Frag) : V → Option Int → Option Int → Hp → VK → Prop := fun x lo hi H Q => ∃ a xs, x = .ref a ∧ SqT K H a xs ∧ (cutV xs lo hi = xs → Q (.ref a) H) ∧ ∀ p, H p = none → Q (.ref p) (upd H p (.tup (cutV xs lo hi)))
section
variable {X : Cx} (K : PySem.W.Frag)
theorem slT (h : X.K = K := by rfl) : SlR X (rSlTA K) := by
  subst h
  intro pins s σ H x v vl vu lo hi sl Q I rx hs pl pu h
  obtain ⟨a, xs, rfl, hx, hw, q⟩ := h
  by_cases hc : HT.sIx xs.length 0 lo = 0 ∧ HT.sIx xs.length xs.length hi = xs.length
  · cases rx
    obtain ⟨its, r, ht, hz⟩ := I.tuple hx
    have hlen : its.toArray.size = xs.length := by rw [List.size_toArray]; exact r.length.symm
    refine ⟨"tuple", _, PyProof.Rows.slot_tuple_getitem.lookup, ht.typeIs, ?_⟩
    refine HT.getItem_tuple_whole ht hs pl pu (by rw [hlen]; exact hc) ⟨.ref a, H, I, rfl, hw ?_⟩
    unfold cutV
    rw [hc.1, hc.2]
    simp
  · exact sl_tup pins s σ H (.ref a) v vl vu lo hi sl Q I rx hs pl pu ⟨a, xs, rfl, hx, hc, q⟩
/-- t[::-1] -/
def tRev (K : PySem.W.Frag) (te : TE) : TE := fun σ H Q => te σ H fun x H1 => ∃ a xs, x = .ref a ∧ SqT K H1 a xs ∧ ∀ p, H1 p = none → Q (.ref p) (upd H1 p (.tup xs.reverse))
theorem qe_rev {e : Expr} {te : TE} {pos p2 p3 p4 : Pos} {k : Nat} (he : QE X e te) (h : X.K = K := by rfl) : QE X (.Subscript e (.Slice none none (some (.UnaryOp .USub (.Constant (.int 1) k p4) p3)) p2) pos) (tRev K te) := by
  subst h
  refine ⟨fun pins s σ H Q I h => ?_⟩
  have hst : PE X (.UnaryOp .USub (.Constant (.int 1) k p4) p3) (tUn (rU fun i => .int (-i)) (tC (.int 1))) := pe_un un_neg pe_int
  refine Subscript_ (thn (he.run pins s σ H _ I h) fun v s1 ⟨x, H1, I1, r1, a, xs, ex, hx, q⟩ => ?_)
  subst ex
  cases r1
  refine wpAny_Slice ?_
  rw [evalPart_none]
  refine wpAny_pure (wpAny_pure ?_)
  rw [evalPart_some]
  refine thn (hst pins s1 σ H1 (fun z H2 => z = .int (-1) ∧ H2 = H1) I1 ⟨1, rfl, rfl, rfl⟩) fun u s3 ⟨z, H3, I3, r3, ez, eH⟩ => ?_
  subst ez eH
  obtain ⟨tk, rfl⟩ := r3
  have I4 : Inv X pins σ H3 { s3 with heap := s3.heap.push { cls := .type "slice", data := .fields #[.none, .none, .int (-1) tk] } } := I3.kept (t' := s3.toks) fun b ob q => Heap.get?_push_of_some _ q
  obtain ⟨its, r, ht, hz⟩ := I4.tuple hx
  show wpAny (model X.prog X.w) X.A (subscriptTail e (.Slice none none (some (.UnaryOp .USub (.Constant (.int 1) k p4) p3)) p2) (.ref a) (.ref s3.heap.objs.size)) (EP X pins σ Q) X.xe { s3 with heap := s3.heap.push { cls := .type "slice", data := .fields #[.none, .none, .int (-1) tk] } }
  refine tail_any (ops := [.ref a, .ref s3.heap.objs.size]) ht.typeIs PyProof.Rows.slot_tuple_getitem.lookup (HT.getItem_tuple_rev ht (Heap.IsSliceOf.new ..) ?_ (by rw [List.size_toArray, ← r.length]; exact hz)) (by with_unfolding_all rfl)
  refine ⟨.ref _, _, I4.laid (t' := s3.toks) (o := .tup xs.reverse) (fun b ob q => Heap.get?_push_of_some _ q) (Nat.le_refl _) ?_, rfl, q _ (I4.hok.fresh (Nat.le_refl _))⟩
  exact ⟨by rw [List.length_reverse]; exact hz, _, by simpa using r.reverse, TupN.new _ _⟩
end
/-- t + u, any -/
def rCatA (K : PySem.W.Frag) : R2 := fun x y H Q => ∃ a b xs ys, x = .ref a ∧ y = .ref b ∧ SqT K H a xs ∧ SqT K H b ys ∧ xs.length + ys.length ≤ sizeLine ∧ (xs = [] → Q (.ref b) H) ∧ (ys = [] → Q (.ref a) H) ∧ ∀ p, H p = none → Q (.ref p) (upd H p (.tup (xs ++ ys)))
theorem catT {X : Cx} (K : PySem.W.Frag) (h : X.K = K := by rfl) : OpR X (binaryOp .Add) (rCatA K) := by
  subst h
  intro pins s σ H x y v u Q I rx ry h
  obtain ⟨a, b, xs, ys, rfl, rfl, ha, hb, hz, q0, q1, q2⟩ := h
  by_cases hx : xs = []
  · cases rx
    cases ry
    obtain ⟨its, r1, p1, _⟩ := I.tuple ha
    obtain ⟨its2, r2, p2, _⟩ := I.tuple hb
    have hi : its = [] := r1.nil_iff.mpr hx
    obtain ⟨⟨cls, dd, data, sl⟩, ho, hc, n, hd⟩ := id p1
    obtain ⟨⟨cls2, dd2, data2, sl2⟩, ho2, hc2, n2, hd2⟩ := id p2
    simp only at hc hd hc2 hd2
    subst hc hd hc2 hd2
    exact concat_meets ⟨_, ho, rfl⟩ ⟨_, ho2, rfl⟩ noFill_tuple_add seq_tuple_add PySem.F.slot_tuple_add PySem.F.entry_tuple_add (PySem.F.args_tuple_add_2 _ _)
      (tuple_addW0 a b its.toArray its2.toArray n n2 dd dd2 sl sl2 (by simp [hi])) ⟨ho, ho2, ⟨.ref b, H, I, rfl, q0 hx⟩⟩
  · exact op_catT pins s σ H _ _ v u Q I rx ry ⟨a, b, xs, ys, rfl, rfl, ha, hb, hx, hz, q1, fun _ => q2⟩
end L2

set_option Elab.async false
set_option linter.all false
set_option maxRecDepth 100000
/-! min and max of a tuple of two ints. -/
namespace L2
open PySem PySem.Spec PyProof.Rows
section
variable {X : Cx}
theorem call_maxT (K : PySem.W.Frag) (hc : X.calm = true) (hk : X.K = K := by rfl) : CallR X (.builtin "max") (fun xs H Q => ∃ p i j, xs = [.ref p] ∧ SqT K H p [.int i, .int j] ∧ Q (.int (if i < j then j else i)) H) := by
  subst hk
  intro pins s σ H xs us Q I r h
  obtain ⟨p, i, j, rfl, hp, q⟩ := h
  obtain ⟨u, rfl, ru⟩ := vals1 r
  cases ru
  obtain ⟨its, rv, ht, hz⟩ := I.tuple hp
  obtain ⟨u1, u2, rfl, ⟨t1, rfl⟩, ⟨t2, rfl⟩⟩ := vals2 rv
  have hh := I.ok.hd hc
  have hpl : p < s.heap.objs.size := ht.lt
  refine call_max_walk (wpAny_pyIter_tuple (show s.heap.IsTuple p _ from ht) ⟨s.heap.objs.size, _, _, 2, _, _, fun a b => decide ((if b = 0 then i else j) < (if a = 0 then i else j)), rfl, Walks.tuple (A := X.A.in1) hh _ p (Nat.ne_of_lt hpl) #[.int i t1, .int j t2], ⟨⟨_, Heap.get?_push_size _ rfl, rfl, rfl⟩, (show s.heap.IsTuple p _ from ht).at fun o e => Heap.get?_push_of_some _ e⟩, ?_, by decide, ?_, ?_⟩)
  · intro b hb
    rw [Heap.size_push]
    rcases List.mem_cons.mp hb with e | hb
    · rw [e]; exact Nat.lt_succ_self _
    · have e : b = p := by simpa using hb
      rw [e]; exact Nat.lt_succ_of_lt hpl
  · have key : ∀ (a : Nat) (v : Value), #[Value.int i t1, Value.int j t2][a]? = some v → ∃ t, v = .int (if a = 0 then i else j) t := by
      intro a v e
      match a, e with
      | 0, e => exact ⟨t1, (Option.some.inj e).symm⟩
      | 1, e => exact ⟨t2, (Option.some.inj e).symm⟩
      | a + 2, e => cases e
    intro a b va vb s' Q' E' ha hb hq
    obtain ⟨ta, rfl⟩ := key a va ha
    obtain ⟨tb, rfl⟩ := key b vb hb
    show wpAny _ _ (compareOp .Gt _ _) _ _ _
    exact gt_int hq
  · intro v h' tk hv kp
    have I1 : Inv X pins σ H { s with heap := h', toks := tk } := I.kept fun b o e => kp b o (fun z => by
      have e2 : b = s.heap.objs.size := by simpa using z
      rw [e2] at e
      exact absurd (Heap.lt_size e) (Nat.lt_irrefl _)) (Heap.get?_push_of_some _ e)
    by_cases hji : i < j
    · have e : argBest (fun a b => decide ((if b = 0 then i else j) < (if a = 0 then i else j))) (2 - 1) = 1 := by
        show (if decide (i < j) = true then 1 else 0) = 1
        rw [if_pos (decide_eq_true hji)]
      rw [e] at hv
      have hv' : Value.int j t2 = v := Option.some.inj hv
      subst hv'
      rw [if_pos hji] at q
      exact ⟨.int j, H, I1, ⟨_, rfl⟩, q⟩
    · have e : argBest (fun a b => decide ((if b = 0 then i else j) < (if a = 0 then i else j))) (2 - 1) = 0 := by
        show (if decide (i < j) = true then 1 else 0) = 0
        rw [if_neg (fun z => hji (of_decide_eq_true z))]
      rw [e] at hv
      have hv' : Value.int i t1 = v := Option.some.inj hv
      subst hv'
      rw [if_neg hji] at q
      exact ⟨.int i, H, I1, ⟨_, rfl⟩, q⟩
end
end L2

set_option Elab.async false
set_option linter.all false
set_option maxRecDepth 100000
/-! Displays of plain data read at once; all(..) of a list of truths; a tuple times a number. -/
namespace PySem
open Sem (wp)
theorem noFill_tuple_mul : fillsNumberSlot (.type "tuple") "mul" = pure false :=
  fillsNumberSlot_seq (id := "tuple.__mul__") (r := some (.builtin "tuple.__rmul__")) F.slot_tuple_mul.lookup (by decide +kernel) F.slot_tuple_rmul.lookup (by decide +kernel)
theorem repeat_tuple : seqRepeat? (.type "tuple") = pure (some (.builtin "tuple.__mul__")) := by
  unfold seqRepeat?
  rw [seqSlot_of (T := "tuple") (name := "__mul__") (id := "tuple.__mul__") F.slot_tuple_mul.lookup (by decide +kernel), seqSlot_of (T := "tuple") (name := "__rmul__") (id := "tuple.__rmul__") F.slot_tuple_rmul.lookup (by decide +kernel)]
  rfl
theorem int_rmul_tuple (a : Int) (t : Tok) (l : Addr) (items : Array Value) (n : Nat) (dd : Option Addr) (sl : Array (Option Value)) :
    Meets (Builtin.«int.__rmul__» ⟨[.int a t, .ref l], []⟩) (fun _ R s => s.heap.get? l = some { cls := .type "tuple", dict := dd, data := .seq items n, slots := sl } ∧ R (.ok (.ret Value.notImplemented)) s) :=
  .of_wp fun prog w A R s h => by obtain ⟨hp, g, d, tk, os⟩ := s; obtain ⟨hl, h⟩ := h; wp_walk; exact ⟨_, rfl, h⟩
theorem tuple_mul_int (l : Addr) (items : Array Value) (n : Nat) (dd : Option Addr) (sl : Array (Option Value)) (k : Int) (t : Tok) (hne : items.isEmpty = false) (h2 : 2 ≤ k) (hk : k < 2 ^ 40) (hz : items.size * k.toNat ≤ 16000000) :
    Meets (Builtin.«tuple.__mul__» ⟨[.ref l, .int k t], []⟩) (fun _ R s => s.heap.get? l = some { cls := .type "tuple", dict := dd, data := .seq items n, slots := sl } ∧ R (.ok (.ret (Value.ref s.heap.objs.size))) { s with heap := s.heap.push { cls := Value.type "tuple", data := Data.seq (List.foldl (fun x1 x2 => x1 ++ x2) #[] (List.replicate k.toNat items)) }, toks := s.toks }) :=
  .of_wp fun prog w A R s h => by
    obtain ⟨hp, g, d, tk, os⟩ := s
    obtain ⟨hl, h⟩ := h
    have f1 := AutoSeq1.idx_int
    have c0 : ¬ (decide (k < -(2 ^ 63)) || decide (k ≥ 2 ^ 63)) = true := by simp; omega
    have c1 : ¬ (items.isEmpty || k == 1) = true := by rw [hne]; simp; omega
    have c2 : ¬ (decide (k ≤ 0) || items.isEmpty) = true := by rw [hne]; simp; omega
    wp_walk
    have hk2 : k = ((k.toNat : Nat) : Int) := by omega
    have hm : (items.size : Int) * k = ((items.size * k.toNat : Nat) : Int) := by rw [Int.natCast_mul, ← hk2]
    have c3 : ¬ (items.size : Int) * k > (2 ^ 63 - 1) / 8 := by rw [hm]; omega
    have c4 : ¬ Builtin.Tuple.tupleTooMany ((items.size : Int) * k) = true := by
      rw [hm]
      unfold Builtin.Tuple.tupleTooMany
      rw [decide_eq_true_eq, show sizeLine = 16777216 by decide]
      omega
    have hit : PyProof.Rows.IsTup hp l items := ⟨_, hl, rfl, n, rfl⟩
    have hsz : (List.foldl (fun x1 x2 => x1 ++ x2) #[] (List.replicate k.toNat items)).size ≤ sizeLine := by
      have e := AutoListH.size_joined items k.toNat #[]
      have e0 : (#[] : Array Value).size = 0 := rfl
      rw [e0, Nat.zero_add, Nat.mul_comm] at e
      rw [e]
      exact Nat.le_trans hz (by decide)
    rw [if_neg c0]
    show wpAny _ _ (Builtin.Tuple.tupleItemsOf (.ref l) >>= _) _ _ _
    refine wpAny_bind (PyProof.Rows.tupleItemsOf_ hit ?_)
    dsimp only
    rw [if_neg c1, if_neg c2, if_neg c3, if_neg c4]
    first
      | exact wpAny_bind (m := Builtin.Tuple.tupleExact _) (wpAny_newObj_type (wpAny_pure ⟨_, rfl, h⟩) hsz)
      | exact wpAny_bind (m := Builtin.Tuple.tupleExact _) (wpAny_newObj_type (wpAny_bind (wpAny_pure (wpAny_pure ⟨_, rfl, h⟩))) hsz)
      | exact wpAny_bind (wpAny_bind (m := Builtin.Tuple.tupleExact _) (wpAny_newObj_type (wpAny_pure (wpAny_pure ⟨_, rfl, h⟩)) hsz))
      | exact wpAny_bind (wpAny_bind (m := Builtin.Tuple.tupleExact _) (wpAny_newObj_type (wpAny_pure ⟨_, rfl, h⟩) hsz))
end PySem
namespace L2
open PySem PySem.Spec PyProof.Rows
section
variable {X : Cx}
theorem QE.weaken {e : Expr} {t t' : TE} (h : QE X e t) (w : ∀ σ H Q, t' σ H Q → t σ H Q) : QE X e t' := ⟨fun pins s σ H Q I q => h.run pins s σ H Q I (w σ H Q q)⟩
theorem QA.weaken {es : List Expr} {t t' : TA} (h : QA X es t) (w : ∀ σ H Q, t' σ H Q → t σ H Q) : QA X es t' := ⟨fun pos pins s σ H Q I q => h.run pos pins s σ H Q I (w σ H Q q), h.ns⟩
end
/-- what a display asks: the data of the names in it (ints in slots ui, any in slots us) -/
def Has (us ui : List Nat) (S : List Addr) (ρ : Nat → PyData) (ι : Nat → Int) (σ : St) (H : Hp) : Prop :=
  (∀ b ∈ S, H b ≠ none) ∧ (∀ i ∈ us, ∃ v, σ[i]? = some (some v) ∧ Rep S H (ρ i) v) ∧ (∀ i ∈ ui, σ[i]? = some (some (.int (ι i))))
theorem Has.ext {us ui : List Nat} {S : List Addr} {ρ : Nat → PyData} {ι : Nat → Int} {σ : St} {H H' : Hp} (h : Has us ui S ρ ι σ H) (x : Ext [] H H') : Has us ui S ρ ι σ H' := by
  refine ⟨fun b hb => ?_, fun i hi => ?_, h.2.2⟩
  · have := h.1 b hb
    cases e : H b with
    | none => exact absurd e this
    | some o => rw [x.keep b o (by simp) e]; simp
  · obtain ⟨v, e, r⟩ := h.2.1 i hi
    exact ⟨v, e, r.ext (x.mono (by simp))⟩
abbrev DD := (Nat → PyData) → (Nat → Int) → PyData
def tDat (us ui : List Nat) (d : DD) : TE := fun σ H Q => ∃ S ρ ι, Has us ui S ρ ι σ H ∧ ∀ v H', Ext [] H H' → Rep S H' (d ρ ι) v → Q v H'
def tDats (us ui : List Nat) (d : (Nat → PyData) → (Nat → Int) → List PyData) : TA := fun σ H Q => ∃ S ρ ι, Has us ui S ρ ι σ H ∧ ∀ v H', Ext [] H H' → Reps S H' (d ρ ι) v → Q v H'
section
variable {X : Cx} {us ui : List Nat} {a b e : Expr} {es : List Expr} {pos : Pos}
theorem qd_of {v : V} {d : PyData} (h : QE X e (tC v)) (r : ∀ S H, Rep S H d v) : QE X e (tDat us ui fun _ _ => d) := h.weaken fun σ H Q ⟨S, ρ, ι, hh, k⟩ => k v H (.refl _ _) (r S H)
theorem qd_int {i : Int} {j pos} : QE X (.Constant (.int i) j pos) (tDat us ui fun _ _ => .int i) := qd_of qe_int fun _ _ => .int i
theorem qd_bl {i : Bool} {j pos} : QE X (.Constant (.bool i) j pos) (tDat us ui fun _ _ => .bool i) := qd_of qe_bl fun _ _ => .bl i
theorem qd_var (i : Nat) (h : QE X e (tVar i)) (hi : i ∈ us := by decide) : QE X e (tDat us ui fun ρ _ => ρ i) := h.weaken fun σ H Q ⟨S, ρ, ι, hh, k⟩ => by
  obtain ⟨v, e, r⟩ := hh.2.1 i hi
  exact ⟨v, e, k v H (.refl _ _) r⟩
theorem qds_nil : QA X [] (tDats us ui fun _ _ => []) := qa_nil.weaken fun σ H Q ⟨S, ρ, ι, hh, k⟩ => k [] H (.refl _ _) .nil
theorem qds_c {d : DD} {ds : (Nat → PyData) → (Nat → Int) → List PyData} (ha : QE X e (tDat us ui d)) (hr : QA X es (tDats us ui ds)) (hs : notStar e = true := by rfl) : QA X (e :: es) (tDats us ui fun ρ ι => d ρ ι :: ds ρ ι) :=
  (qa_c ha hr hs).weaken fun σ H Q ⟨S, ρ, ι, hh, k⟩ => ⟨S, ρ, ι, hh, fun v H' x r => ⟨S, ρ, ι, hh.ext x, fun v2 H2 x2 r2 => k _ H2 (x.trans x2) (.cons (r.ext (x2.mono (by simp))) r2)⟩⟩
theorem qd_tup {x1 : Nat} {ds : (Nat → PyData) → (Nat → Int) → List PyData} (h : QA X es (tDats us ui ds)) (hl : ∀ ρ ι, (ds ρ ι).length = es.length := by intro _ _; rfl) (hn : es.length ≤ sizeLine := by decide) : QE X (.Tuple es x1 pos) (tDat us ui fun ρ ι => .tuple (ds ρ ι)) :=
  (qe_tup h).weaken fun σ H Q ⟨S, ρ, ι, hh, k⟩ => ⟨S, ρ, ι, hh, fun v H' x r => ⟨by rw [r.length, hl]; exact hn, fun p hp => k _ _ (x.trans (.new hp)) (.tup upd_same (r.ext (.new hp)))⟩⟩
theorem qd_lst {ds : (Nat → PyData) → (Nat → Int) → List PyData} (h : QA X es (tDats us ui ds)) (hl : ∀ ρ ι, (ds ρ ι).length = es.length := by intro _ _; rfl) (hn : es.length ≤ sizeLine := by decide) : QE X (.List es pos) (tDat us ui fun ρ ι => .list (ds ρ ι)) :=
  (qe_lst h).weaken fun σ H Q ⟨S, ρ, ι, hh, k⟩ => ⟨S, ρ, ι, hh, fun v H' x r => ⟨by rw [r.length, hl]; exact hn, fun p hp => k _ _ (x.trans (.new hp)) (.lst upd_same (fun z => (hh.ext x).1 p z hp) (r.ext (.new hp)))⟩⟩
/-- a tuple, not empty, times a number from 2 on -/
def rRepT (K : PySem.W.Frag) : R2 := fun x y H Q => ∃ a k xs, x = .ref a ∧ y = .int k ∧ SqT K H a xs ∧ xs ≠ [] ∧ 2 ≤ k ∧ k < 2 ^ 40 ∧ xs.length * k.toNat ≤ 16000000 ∧ ∀ p, H p = none → Q (.ref p) (upd H p (.tup (List.replicate k.toNat xs).flatten))
theorem op_repT (K : PySem.W.Frag) (h : X.K = K := by rfl) : OpR X (binaryOp .Mult) (rRepT K) := by
  subst h
  intro pins s σ H x y v u Q I rx ry h
  obtain ⟨a, k, xs, rfl, rfl, hx, hne, h2, hk, hz, q⟩ := h
  cases rx
  obtain ⟨t, rfl⟩ := ry
  obtain ⟨its, r, ht, hl⟩ := I.tuple hx
  obtain ⟨⟨cls, dd, data, sl⟩, ho, hc, n, hd⟩ := id ht
  simp only at hc hd
  subst hc hd
  have hne' : its.toArray.isEmpty = false := by
    cases its with
    | nil => exact absurd (r.nil_iff.mp rfl) hne
    | cons _ _ => rfl
  have hsz : its.toArray.size * k.toNat ≤ 16000000 := by rw [List.size_toArray, ← r.length]; exact hz
  refine wpAny_binaryOp_repeat_ref (T := "tuple") (U := "int") (by decide) ⟨_, ho, rfl⟩ (fun s' => typeIs_int s' k t) noFill_tuple_mul F.fills_int_mul F.slot_int_rmul repeat_tuple F.slot_int_index.lookup
    (call_meets F.slot_int_rmul (typeIs_int s k t) F.entry_int_rmul (F.args_int_rmul_2 _ _) (int_rmul_tuple k t a its.toArray n dd sl)
      ⟨ho, rfl, ⟨_, ho, rfl⟩, call_meets F.slot_tuple_mul ⟨_, ho, rfl⟩ F.entry_tuple_mul (F.args_tuple_mul_2 _ _) (tuple_mul_int a its.toArray n dd sl k t hne' h2 hk hsz) ⟨ho, ?_⟩⟩)
  have hnew : List.foldl (fun x1 x2 => x1 ++ x2) #[] (List.replicate k.toNat its.toArray) = (List.replicate k.toNat its).flatten.toArray := by
    have := foldl_rep its k.toNat []
    rw [List.nil_append] at this
    exact this
  rw [hnew]
  have hlen : (List.replicate k.toNat xs).flatten.length ≤ sizeLine := by
    rw [len_rep, Nat.mul_comm, show sizeLine = 16777216 by decide]
    omega
  exact ⟨.ref _, _, I.laid (t' := s.toks) (o := .tup (List.replicate k.toNat xs).flatten) (fun b o e => Heap.get?_push_of_some _ e) (Nat.le_refl _) ⟨hlen, _, r.rep k.toNat, TupN.new _ _⟩, rfl, q _ (I.hok.fresh (Nat.le_refl _))⟩
theorem Reps.rep {S : List Addr} {H : Hp} {ds : List PyData} {xs : List V} (r : Reps S H ds xs) : ∀ k : Nat, Reps S H (List.replicate k ds).flatten (List.replicate k xs).flatten
  | 0 => .nil
  | k + 1 => by
    rw [List.replicate_succ, List.replicate_succ, List.flatten_cons, List.flatten_cons]
    exact r.append (Reps.rep r k)
theorem qd_repT (K : PySem.W.Frag) {k : Int} {j pos2} {n : Nat} {ds : (Nat → PyData) → (Nat → Int) → List PyData} (ha : QE X a (tDat us ui fun ρ ι => .tuple (ds ρ ι))) (h : X.K = K := by rfl) (hl : ∀ ρ ι, (ds ρ ι).length = n + 1 := by intro _ _; rfl) (h2 : 2 ≤ k := by decide) (hk : k < 2 ^ 40 := by decide) (hz : (n + 1) * k.toNat ≤ 16000000 := by decide) :
    QE X (.BinOp a .Mult (.Constant (.int k) j pos2) pos) (tDat us ui fun ρ ι => .tuple (List.replicate k.toNat (ds ρ ι)).flatten) :=
  (qe_op (op_repT K h) ha qe_int).weaken fun σ H Q ⟨S, ρ, ι, hh, q⟩ => ⟨S, ρ, ι, hh, fun v H' x r => by
    obtain ⟨p, xs, rfl, hp, rs⟩ := r.of_tup
    have hxl := rs.length
    rw [hl] at hxl
    exact ⟨p, k, xs, rfl, rfl, SqT.of hp, (fun z => by rw [z] at hxl; cases hxl), h2, hk, by rw [hxl]; exact hz, fun p' hp' => q _ _ (x.trans (.new hp')) (.tup upd_same ((rs.rep _).ext (.new hp')))⟩⟩
/-- a name of the module that holds an int -/
theorem qe_globI {x : Str} {i : Int} (hg : Gl X x) (hm : ∃ t, X.mg x = some (.int i t)) (hd : (x == ("__debug__" : Str)) = false := by decide) : QE X (.Name x pos) (tC (.int i)) := by
  obtain ⟨t, e⟩ := hm
  exact ⟨pe_glob hg e ⟨t, rfl⟩ hd⟩
theorem Vals.at' {xs : List V} {us : List Value} {i : Nat} {u : Value} (r : Vals xs us) (h : us[i]? = some u) : ∃ x, xs[i]? = some x ∧ RelV x u := by
  have hi : i < us.length := (List.getElem?_eq_some_iff.mp h).1
  have hi' : i < xs.length := by rw [r.length]; exact hi
  have e : xs[i]? = some xs[i] := by simp [hi']
  obtain ⟨w, hw, rw'⟩ := r.get e
  rw [h] at hw
  cases hw
  exact ⟨_, e, rw'⟩
/-- all of a list of truths -/
theorem call_allL (K : PySem.W.Frag) (hc : X.calm = true) (hk : X.K = K := by rfl) : CallR X (.builtin "all") (fun xs H Q => ∃ (p : Addr) (bs : List Bool), xs = [.ref p] ∧ SqL K H p (bs.map V.bl) ∧ Q (.bl (bs.all id)) H) := by
  subst hk
  intro pins s σ H xs us Q I r h
  obtain ⟨p, bs, rfl, hp, q⟩ := h
  obtain ⟨u, rfl, ru⟩ := vals1 r
  cases ru
  obtain ⟨its, rv, ht, hz⟩ := I.list hp
  have hh := I.ok.hd hc
  have hpl : p < s.heap.objs.size := ht.lt
  have hlen : its.toArray.size = bs.length := by rw [List.size_toArray, ← rv.length, List.length_map]
  have key : ∀ (a : Nat) (v : Value), its.toArray[a]? = some v → v = .bool (bs.getD a true) := by
    intro a v e
    have e' : its[a]? = some v := by simpa using e
    obtain ⟨x, hx, rx⟩ := rv.at' e'
    rw [List.getElem?_map] at hx
    cases hb : bs[a]? with
    | none => rw [hb] at hx; cases hx
    | some b =>
      rw [hb] at hx
      cases hx
      rw [List.getD_eq_getElem?_getD, hb]
      exact rx
  refine call_all_walk (wpAny_pyIter_list ht.isList ⟨s.heap.objs.size, _, _, its.toArray.size, _, _, fun a => bs.getD a true, rfl, Walks.list (A := X.A.in1) hh _ p (Nat.ne_of_lt hpl) its.toArray, ⟨⟨_, Heap.get?_push_size _ rfl, rfl, rfl⟩, ht.isList.at fun o e => Heap.get?_push_of_some _ e⟩, ?_, ?_⟩)
  · intro i v s' Q' E' hP hq
    rw [key i v hP]
    exact wpAny_truthy_bool hq
  · intro h' tk kp
    have I1 : Inv X pins σ H { s with heap := h', toks := tk } := I.kept fun b o e => kp b o (fun z => by
      have e2 : b = s.heap.objs.size := by simpa using z
      rw [e2] at e
      exact absurd (Heap.lt_size e) (Nat.lt_irrefl _)) (Heap.get?_push_of_some _ e)
    have e : (List.range its.toArray.size).all (fun a => bs.getD a true) = bs.all id := by
      rw [hlen]
      clear q hp rv hlen key hz
      induction bs with
      | nil => rfl
      | cons b bs ih =>
        rw [List.length_cons, List.range_succ_eq_map, List.all_cons, List.all_map, List.all_cons]
        have : ((fun a => (b :: bs).getD a true) ∘ Nat.succ) = fun a => bs.getD a true := rfl
        rw [this, ih]
        rfl
    rw [e]
    exact ⟨.bl _, H, I1, rfl, q⟩
end
end L2

set_option Elab.async false
set_option linter.all false
set_option maxRecDepth 100000
namespace L2
open PySem PySem.Spec PyProof.Rows

/-! ### lists of pairs as tables -/
section
variable {κ : Type} [DecidableEq κ]
def valV (kvs : List (κ × V)) (k : κ) : Option V := (kvs.find? fun kv => decide (kv.1 = k)).map (·.2)
/-- in its place, or at the end -/
def putK (kvs : List (κ × V)) (k : κ) (v : V) : List (κ × V) :=
  if (kvs.any fun kv => decide (kv.1 = k)) = true then kvs.map (fun kv => if kv.1 = k then (kv.1, v) else kv) else kvs ++ [(k, v)]
def dropK (kvs : List (κ × V)) (k : κ) : List (κ × V) := kvs.filter fun kv => decide (kv.1 ≠ k)

theorem valV_pos {p : κ × V} {r : List (κ × V)} {k : κ} (e : p.1 = k) : valV (p :: r) k = some p.2 := by simp [valV, List.find?_cons, e]
theorem valV_neg {p : κ × V} {r : List (κ × V)} {k : κ} (e : ¬ p.1 = k) : valV (p :: r) k = valV r k := by simp [valV, List.find?_cons, e]
theorem valV_any (k : κ) : ∀ kvs : List (κ × V), (kvs.any fun kv => decide (kv.1 = k)) = (valV kvs k).isSome
  | [] => rfl
  | p :: r => by
    rw [List.any_cons]
    by_cases e : p.1 = k
    · simp only [valV_pos e, decide_eq_true e, Bool.true_or, Option.isSome_some]
    · rw [valV_neg e, decide_eq_false e, Bool.false_or]; exact valV_any k r
theorem length_putK (kvs : List (κ × V)) (k : κ) (v : V) : (putK kvs k v).length ≤ kvs.length + 1 := by
  unfold putK
  split
  · rw [List.length_map]; omega
  · rw [List.length_append, List.length_cons, List.length_nil]; omega
theorem RelO.isSome_eq {o : Option V} {u : Option Value} (r : RelO o u) : o.isSome = u.isSome := by
  cases o with
  | none => cases u with
    | none => rfl
    | some _ => exact (show False from r).elim
  | some _ => cases u with
    | none => exact (show False from r).elim
    | some _ => rfl
theorem RelO.getD {o : Option V} {u : Option Value} {d : V} {d' : Value} (r : RelO o u) (rd : RelV d d') : RelV (o.getD d) (u.getD d') := by
  cases o with
  | none => cases u with
    | none => exact rd
    | some _ => exact (show False from r).elim
  | some _ => cases u with
    | none => exact (show False from r).elim
    | some _ => exact r

/-- raw tables of the same keys -/
theorem KV.val {kvs : List (κ × V)} {vs : List (κ × Value)} (r : KV kvs vs) (k : κ) : RelO (valV kvs k) (valueAt vs k) := by
  unfold KV at r
  induction r with
  | nil => exact True.intro
  | @cons p q ps qs h t ih =>
    obtain ⟨h1, h2⟩ := h
    by_cases e : p.1 = k
    · have e' : q.1 = k := h1.symm.trans e
      have b : valueAt (q :: qs) k = some q.2 := by simp [valueAt, List.find?_cons, e']
      rw [valV_pos e, b]; exact h2
    · have e' : ¬ q.1 = k := fun z => e (h1.trans z)
      have b : valueAt (q :: qs) k = valueAt qs k := by simp [valueAt, List.find?_cons, e']
      rw [valV_neg e, b]; exact ih
theorem KV.any {kvs : List (κ × V)} {vs : List (κ × Value)} (r : KV kvs vs) (k : κ) : (kvs.any fun kv => decide (kv.1 = k)) = vs.any fun kv => decide (kv.1 = k) := by
  unfold KV at r
  induction r with
  | nil => rfl
  | cons h t ih => rw [List.any_cons, List.any_cons, ih, h.1]
theorem KV.repl {kvs : List (κ × V)} {vs : List (κ × Value)} (r : KV kvs vs) (k : κ) {y : V} {u : Value} (ry : RelV y u) :
    KV (kvs.map fun kv => if kv.1 = k then (kv.1, y) else kv) (vs.map fun kv => if kv.1 = k then (kv.1, u) else kv) := by
  unfold KV at r ⊢
  induction r with
  | nil => exact .nil
  | @cons p q ps qs h t ih =>
    rw [List.map_cons, List.map_cons]
    refine .cons ?_ ih
    obtain ⟨h1, h2⟩ := h
    by_cases e : p.1 = k
    · rw [if_pos e, if_pos (h1.symm.trans e)]; exact ⟨h1, ry⟩
    · rw [if_neg e, if_neg (fun z => e (h1.trans z))]; exact ⟨h1, h2⟩
theorem KV.put {kvs : List (κ × V)} {vs : List (κ × Value)} (r : KV kvs vs) (k : κ) {y : V} {u : Value} (ry : RelV y u) : KV (putK kvs k y) (stored vs k u) := by
  unfold putK stored
  rw [r.any k]
  by_cases e : (vs.any fun kv => decide (kv.1 = k)) = true
  · rw [if_pos e, if_pos e]; exact r.repl k ry
  · rw [if_neg e, if_neg e]; exact Paired.snoc r ⟨rfl, ry⟩
theorem KV.drop {kvs : List (κ × V)} {vs : List (κ × Value)} (r : KV kvs vs) (k : κ) : KV (dropK kvs k) (without vs k) := by
  unfold KV at r ⊢
  unfold dropK without
  induction r with
  | nil => exact .nil
  | @cons p q ps qs h t ih =>
    obtain ⟨h1, h2⟩ := h
    rw [List.filter_cons, List.filter_cons]
    by_cases e : p.1 = k
    · have a : ¬ decide (p.1 ≠ k) = true := by simp [e]
      have b : ¬ decide (q.1 ≠ k) = true := by simp [h1.symm.trans e]
      rw [if_neg a, if_neg b]; exact ih
    · have e' : ¬ q.1 = k := fun z => e (h1.trans z)
      have a : decide (p.1 ≠ k) = true := by simp [e]
      have b : decide (q.1 ≠ k) = true := by simp [e']
      rw [if_pos a, if_pos b]; exact .cons ⟨h1, h2⟩ ih
theorem KV.keys {kvs : List (κ × V)} {vs : List (κ × Value)} (r : KV kvs vs) : kvs.map (·.1) = vs.map (·.1) := by
  unfold KV at r
  induction r with
  | nil => rfl
  | cons h t ih => rw [List.map_cons, List.map_cons, ih, h.1]
theorem KV.length {kvs : List (κ × V)} {vs : List (κ × Value)} (r : KV kvs vs) : kvs.length = vs.length := Paired.length r
end


/-! ### a tracked dict, its keys ints and texts or tuples of these -/
theorem kV_is {P : Program} {w : World} {k : Key} {u : Value} (r : RelV (kV k) u) : (mixKind P w).is k u = true := by
  cases k with
  | inl i => obtain ⟨t, e⟩ := (show ∃ t, u = Value.int i t from r); subst e; exact mixKind_int P w i t
  | inr x => obtain ⟨t, e⟩ := (show ∃ t, u = Value.str x t from r); subst e; exact mixKind_str P w x t
theorem items_are {P : Program} {w : World} : ∀ {ks : List Key} {us : List Value}, Vals (ks.map kV) us → ItemsAre (mixKind P w) ks us
  | [], _, r => by rw [List.map_nil] at r; cases r; exact .nil
  | k :: ks, _, r => by
    rw [List.map_cons] at r
    cases r with
    | cons h t => exact .cons (kV_is h) (items_are t)

/-- raw entries of a dict with tuple keys -/
abbrev KT (H : Hp) : List (List Key × V) → List (List Key × Addr × Value) → Prop := Paired fun p q => p.1 = q.1 ∧ H q.2.1 = some (.tup (p.1.map kV)) ∧ RelV p.2 q.2.2
theorem KT.val {H : Hp} {kvs : List (List Key × V)} {xs : List (List Key × Addr × Value)} (r : KT H kvs xs) (k : List Key) : RelO (valV kvs k) ((atKey xs k).map (·.2)) := by
  induction r with
  | nil => exact True.intro
  | @cons p q ps qs h t ih =>
    obtain ⟨h1, _, h2⟩ := h
    by_cases e : p.1 = k
    · have e' : q.1 = k := h1.symm.trans e
      have b : atKey (q :: qs) k = some q.2 := by simp [atKey, List.find?_cons, e']
      rw [valV_pos e, b]; exact h2
    · have e' : ¬ q.1 = k := fun z => e (h1.trans z)
      have b : atKey (q :: qs) k = atKey qs k := by simp [atKey, List.find?_cons, e']
      rw [valV_neg e, b]; exact ih
theorem KT.repl {H : Hp} {kvs : List (List Key × V)} {xs : List (List Key × Addr × Value)} (r : KT H kvs xs) (k : List Key) {y : V} {u : Value} (ry : RelV y u) :
    KT H (kvs.map fun kv => if kv.1 = k then (kv.1, y) else kv) (xs.map (putAt k u)) := by
  induction r with
  | nil => exact .nil
  | @cons p q ps qs h t ih =>
    rw [List.map_cons, List.map_cons]
    refine .cons ?_ ih
    obtain ⟨h1, h2, h3⟩ := h
    unfold putAt
    by_cases e : p.1 = k
    · rw [if_pos e, if_pos (h1.symm.trans e)]; exact ⟨h1, h2, ry⟩
    · rw [if_neg e, if_neg (fun z => e (h1.trans z))]; exact ⟨h1, h2, h3⟩
theorem KT.put {H : Hp} {kvs : List (List Key × V)} {xs : List (List Key × Addr × Value)} (r : KT H kvs xs) (k : List Key) {b : Addr} {y : V} {u : Value} (hb : H b = some (.tup (k.map kV))) (ry : RelV y u) :
    KT H (putK kvs k y) (storedH xs k b u) := by
  have e : (kvs.any fun kv => decide (kv.1 = k)) = (atKey xs k).isSome := by
    rw [valV_any, (r.val k).isSome_eq, Option.isSome_map]
  unfold putK storedH
  rw [e]
  by_cases q : (atKey xs k).isSome = true
  · rw [if_pos q, if_pos q]; exact r.repl k ry
  · rw [if_neg q, if_neg q]; exact Paired.snoc r ⟨rfl, hb, ry⟩
theorem KT.keeps {H H' : Hp} {kvs : List (List Key × V)} {xs : List (List Key × Addr × Value)} (r : KT H kvs xs) (ht : ∀ b ys, H b = some (.tup ys) → H' b = some (.tup ys)) : KT H' kvs xs :=
  Paired.mapP r fun _ _ z => ⟨z.1, ht _ _ z.2.1, z.2.2⟩

section
variable {P : Program} {w : World} {H : Hp} {h : Heap} {a : Addr}
theorem rd_of {u : HO} (ok : HOk P w H h) (e : Rd H a u) : ObjOk P w H h a u := e.ok ok
theorem dk_rd {kvs : List (Key × V)} (ok : HOk P w H h) (e : Rd H a (.dK kvs)) : kvs.length ≤ sizeLine ∧ (a == sysModules) = false ∧ ∃ vs, KV kvs vs ∧ h.DictOf (mixKind P w) a vs :=
  show ObjOk P w H h a (.dK kvs) from rd_of ok e
theorem dk_of {kvs : List (Key × V)} (ok : HOk P w H h) (e : H a = some (.dK kvs)) : kvs.length ≤ sizeLine ∧ (a == sysModules) = false ∧ ∃ vs, KV kvs vs ∧ h.DictOf (mixKind P w) a vs := dk_rd ok (.inl e)
/-- a tracked tuple of ints and texts is a key -/
theorem key_of {ks : List Key} (ok : HOk P w H h) (e : H a = some (.tup (ks.map kV))) : (tupleKind (mixKind P w)).is h ks a := by
  obtain ⟨_, its, r, o, h1, h2, n, h3, _⟩ := (show ObjOk P w H h a (.tup (ks.map kV)) from ok a _ e)
  exact ⟨o, its.toArray, n, h1, h2, h3, by simpa using items_are r⟩
theorem dt_rd {kvs : List (List Key × V)} (ok : HOk P w H h) (e : Rd H a (.dT kvs)) : kvs.length ≤ sizeLine ∧ (a == sysModules) = false ∧
    ∃ xs, KT H kvs xs ∧ h.DictOfH (tupleKind (mixKind P w)) a xs := by
  obtain ⟨z, y, xs, r, o, es, ep, h1, h2, h3, h4, h5⟩ := (show ObjOk P w H h a (.dT kvs) from rd_of ok e)
  refine ⟨z, y, xs, r, o, es, ep, h1, h2, h3, h4, fun x hx => ?_, h5⟩
  have all : ∀ {l : List (List Key × V)} {m : List (List Key × Addr × Value)}, KT H l m → ∀ x ∈ m, (tupleKind (mixKind P w)).is h x.1 x.2.1 := by
    intro l m q
    induction q with
    | nil => intro x hx; exact nomatch hx
    | @cons p q ps qs hq t ih =>
      intro x hx
      rcases List.mem_cons.mp hx with e | hx
      · subst e
        exact key_of ok (by rw [← hq.1]; exact hq.2.1)
      · exact ih x hx
  exact all r x hx
theorem dt_of {kvs : List (List Key × V)} (ok : HOk P w H h) (e : H a = some (.dT kvs)) : kvs.length ≤ sizeLine ∧ (a == sysModules) = false ∧
    ∃ xs, KT H kvs xs ∧ h.DictOfH (tupleKind (mixKind P w)) a xs := dt_rd ok (.inl e)
end

/-- what the dict at a holds at the key y -/
def DGet (H : Hp) (a : Addr) (y : V) (r : Option V) : Prop :=
  (∃ kvs k, Rd H a (.dK kvs) ∧ y = kV k ∧ r = valV kvs k) ∨ ∃ kvs k b, Rd H a (.dT kvs) ∧ y = .ref b ∧ H b = some (.tup (k.map kV)) ∧ r = valV kvs k
/-- the heap behind a[y] = v -/
def DPut (H : Hp) (a : Addr) (y v : V) (H' : Hp) : Prop :=
  (∃ kvs k, H a = some (.dK kvs) ∧ y = kV k ∧ kvs.length < sizeLine ∧ H' = upd H a (.dK (putK kvs k v))) ∨
  ∃ kvs k b, H a = some (.dT kvs) ∧ y = .ref b ∧ H b = some (.tup (k.map kV)) ∧ kvs.length < sizeLine ∧ H' = upd H a (.dT (putK kvs k v))
theorem DGet.k {H : Hp} {a : Addr} {kvs : List (Key × V)} {k : Key} (e : H a = some (.dK kvs)) : DGet H a (kV k) (valV kvs k) := .inl ⟨kvs, k, .inl e, rfl, rfl⟩
theorem DGet.t {H : Hp} {a b : Addr} {kvs : List (List Key × V)} {k : List Key} (e : H a = some (.dT kvs)) (eb : H b = some (.tup (k.map kV))) : DGet H a (.ref b) (valV kvs k) := .inr ⟨kvs, k, b, .inl e, rfl, eb, rfl⟩
theorem DPut.k {H : Hp} {a : Addr} {kvs : List (Key × V)} {k : Key} {v : V} (e : H a = some (.dK kvs)) (hl : kvs.length < sizeLine) : DPut H a (kV k) v (upd H a (.dK (putK kvs k v))) := .inl ⟨kvs, k, e, rfl, hl, rfl⟩
theorem DPut.t {H : Hp} {a b : Addr} {kvs : List (List Key × V)} {k : List Key} {v : V} (e : H a = some (.dT kvs)) (eb : H b = some (.tup (k.map kV))) (hl : kvs.length < sizeLine) :
    DPut H a (.ref b) v (upd H a (.dT (putK kvs k v))) := .inr ⟨kvs, k, b, e, rfl, eb, hl, rfl⟩


section
variable {X : Cx} {pins : List (Addr × Obj)} {σ : St} {H : Hp} {s : Shared} {a : Addr} {y v : V} {u r : Value} {o : Option V} {A : Around} {E : Value → Shared → Prop}

theorem Inv.big (I : Inv X pins σ H s) : sysModules < s.heap.objs.size := by
  have h : mainGlobals < s.heap.objs.size := (I.mod.glob.keeps I.bk).lt
  exact Nat.lt_trans (by decide) h

/-- d[y], there -/
theorem d_getItem {Q : Value → Shared → Prop} (hu : A.units + 1 < cLine) (I : Inv X pins σ H s) (g : DGet H a y (some v)) (ry : RelV y u) (h : ∀ w' s', Inv X pins σ H s' → RelV v w' → Q w' s') :
    wpAny (model X.prog X.w) A (getItem (.ref a) u) Q E s := by
  rcases g with ⟨kvs, k, e, ey, l⟩ | ⟨kvs, k, b, e, ey, eb, l⟩
  · subst ey
    obtain ⟨z, hd, vs, rel, dd⟩ := dk_rd I.hok e
    obtain ⟨w', hw, rw'⟩ := RelO.some_of (v := v) (o := valueAt vs k) (by rw [l]; exact rel.val k)
    exact wpAny_getItem_of (kV_is ry) dd.mapOf hw (h w' _ (I.tok _) rw')
  · subst ey
    cases (show u = Value.ref b from ry)
    obtain ⟨z, hd, xs, rel, dd⟩ := dt_rd I.hok e
    obtain ⟨w', hw, rw'⟩ := RelO.some_of (v := v) (o := (atKey xs k).map (·.2)) (by rw [l]; exact rel.val k)
    obtain ⟨p, hp, hp2⟩ := Option.map_eq_some_iff.mp hw
    refine wpAny_getItem_heap (tupleKind_room_in1 hu) (key_of I.hok eb) dd hp ?_
    rw [hp2]
    exact h w' _ (I.tok _) rw'
/-- a dict's object is replaced -/
theorem d_write {h' : Heap} {t' : Nat} {ob : HO} (I : Inv X pins σ H s) (mu : Mut (H a)) (hs : Heap.SameBut a s.heap h') (he : ∃ q, h'.get? a = some q) (new : ObjOk X.prog X.w (upd H a ob) h' a ob) :
    Inv X pins σ (upd H a ob) { s with heap := h', toks := t' } :=
  I.write (x := a) (e := a) mu (.inl rfl) (fun b q hb z => (hs.2 b hb).trans z) he new
theorem dk_new {P : Program} {w : World} {H' : Hp} {h' : Heap} {kvs : List (Key × V)} {vs : List (Key × Value)} (z : kvs.length ≤ sizeLine) (hd : (a == sysModules) = false) (rel : KV kvs vs) (dd : h'.DictOf (mixKind P w) a vs) :
    ObjOk P w H' h' a (.dK kvs) := ⟨z, hd, vs, rel, dd⟩
/-- d[y] = v -/
theorem d_setItem {H' : Hp} {Q : Unit → Shared → Prop} (hu : A.units + 1 < cLine) (I : Inv X pins σ H s) (g : DPut H a y v H') (ry : RelV y u) (rv : RelV v r) (h : ∀ s', Inv X pins σ H' s' → Q () s') :
    wpAny (model X.prog X.w) A (setItem (.ref a) u r) Q E s := by
  rcases g with ⟨kvs, k, e, ey, l, eH⟩ | ⟨kvs, k, b, e, ey, eb, l, eH⟩
  · subst ey eH
    obtain ⟨z, hd, vs, rel, dd⟩ := dk_of I.hok e
    have hz : vs.length ≤ sizeLine := by rw [← rel.length]; exact z
    have hl : (putK kvs k v).length ≤ sizeLine := by have := length_putK kvs k v; omega
    refine wpAny_setItem_pairs (hsz := hz) (kV_is ry) dd fun h' dd' hs => h _ ?_
    have he : ∃ q, h'.get? a = some q := let ⟨q, _, _, hq, _⟩ := dd'; ⟨q, hq⟩
    exact d_write I (by rw [e]; exact True.intro) hs he (dk_new hl hd (rel.put k rv) dd')
  · subst ey eH
    cases (show u = Value.ref b from ry)
    obtain ⟨z, hd, xs, rel, dd⟩ := dt_of I.hok e
    have hz : xs.length ≤ sizeLine := by rw [← Paired.length rel]; exact z
    have hl : (putK kvs k v).length ≤ sizeLine := by have := length_putK kvs k v; omega
    refine wpAny_setItem_heap (hsz := hz) (tupleKind_room_in1 hu) (key_of I.hok eb) dd fun h' dd' hs => h _ ?_
    obtain ⟨q, es, ep, hq, h2, h3, h4, _, h5⟩ := dd'
    refine d_write I (by rw [e]; exact True.intro) hs ⟨q, hq⟩ ⟨hl, hd, _, (rel.put k eb rv).keeps fun c ys ec => ?_, q, es, ep, hq, h2, h3, h4, h5⟩
    rw [upd_ne (ne_of ec e (fun z => nomatch z))]
    exact ec
end

section
variable {X : Cx} {pins : List (Addr × Obj)} {σ : St} {H : Hp} {s : Shared} {a : Addr} {kvs : List (Key × V)} {k : Key} {u : Value} {A : Around} {E : Value → Shared → Prop}
end


/-! ### readings and rules -/
/-- the element of a subscription, not a slice -/
def NoSl (i : Expr) : Prop := ∀ ov iv, subscripted i false ov iv = operate [ov, iv] (getItem ov iv)
theorem subD_of {prog : Program} {w : World} {A : Around} {E : Value → Shared → Prop} {s : Shared} {env : Env} {value slice : Expr} {pos : Pos} {T id : String} {Q : Value → Shared → Prop}
    (hl : typeLookup (.type T) "__getitem__" = pure (some (.builtin id))) (hs : NoSl slice)
    (h : wpAny (model prog w) A (eval value env) (fun o s₁ => wpAny (model prog w) A (eval slice env) (fun i s₂ => s₂.TypeIs o T ∧ wpAny (model prog w) A (getItem o i) Q E s₂) E s₁) E s) :
    wpAny (model prog w) A (eval (.Subscript value slice pos) env) Q E s := by
  refine Subscript_ (wpAny_mono h (fun o s₁ h₁ => wpAny_mono h₁ (fun i s₂ h₂ => ?_) fun _ _ x => x) fun _ _ x => x)
  obtain ⟨hT, h₂⟩ := h₂
  unfold subscriptTail
  refine wpAny_bind ?_
  rw [getitemInPython_of_ne hT.not_modules]
  refine wpAny_bind (wpAny_specialOf hT hl ?_)
  have fin : wpAny (model prog w) A (subscripted slice false o i) (fun r s₃ => wpAny (model prog w) A (letTemporaryGo value o r >>= fun _ => pure r) Q E s₃) E s₂ := by
    rw [hs o i]
    exact wpAny_operating (wpAny_mono h₂ (fun r s₃ h₃ => wpAny_bind (wpAny_letTemporaryGo (wpAny_pure h₃))) fun _ _ x => x)
  first
    | exact wpAny_pure (wpAny_bind fin)
    | exact wpAny_bind (wpAny_pure (wpAny_bind fin))
    | exact wpAny_bind fin

theorem dict_typeIs {X : Cx} {pins : List (Addr × Obj)} {σ : St} {H : Hp} {s : Shared} {a : Addr} {y : V} {o : Option V} (I : Inv X pins σ H s) (g : DGet H a y o) : s.TypeIs (.ref a) "dict" := by
  rcases g with ⟨kvs, k, e, _, _⟩ | ⟨kvs, k, b, e, _, _, _⟩
  · obtain ⟨_, _, vs, _, dd⟩ := dk_rd I.hok e
    exact dd.typeIs
  · obtain ⟨_, _, xs, _, dd⟩ := dt_rd I.hok e
    exact dd.typeIs
/-- d[y] -/
def tDGet (td ty : TE) : TE := fun σ H Q => td σ H fun x H1 => ty σ H1 fun y H2 => ∃ a v, x = .ref a ∧ DGet H2 a y (some v) ∧ Q v H2
/-- d[y] = v -/
def sDPut (td ty tv : TE) : TS := fun D σ H => tv σ H fun v H1 => td σ H1 fun x H2 => ty σ H2 fun y H3 => ∃ a H4, x = .ref a ∧ DPut H3 a y v H4 ∧ D.nx σ H4
section
variable {X : Cx} {o i e value : Expr} {pos pos' tpos : Pos} {td ty tv : TE}
theorem pe_dget (hu : X.A.units + 1 < cLine) (ho : PE X o td) (hi : PE X i ty) (hs : NoSl i) : PE X (.Subscript o i pos) (tDGet td ty) := by
  intro pins s σ H Q I h
  refine subD_of PySem.F.slot_dict_getitem.lookup hs (thn (ho pins s σ H _ I h) fun u s1 ⟨x, H1, I1, rx, q1⟩ => thn (hi pins s1 σ H1 _ I1 q1) fun iv s2 ⟨y, H2, I2, ry, a, v, ex, g, q2⟩ => ?_)
  subst ex
  obtain rfl : u = Value.ref a := rx
  exact ⟨dict_typeIs I2 g, d_getItem hu I2 g ry fun w' s3 I3 rw' => ⟨v, H2, I3, rw', q2⟩⟩
theorem ps_dput (hu : X.A.units + 1 < cLine) (ho : PE X o td) (hi : PE X i ty) (hv : PE X value tv) (hs : swapsWith value (some (.Subscript o i pos')) pos.line X.env = pure false) :
    PS X (.Assign [.Subscript o i pos'] value pos) (sDPut td ty tv) := by
  intro pins s σ H D I h
  refine wpAny_Assign_Subscript (thn (hv pins s σ H _ I h) fun r s1 ⟨v, H1, I1, rv, q1⟩ => thn (ho pins s1 σ H1 _ I1 q1) fun u s2 ⟨x, H2, I2, rx, q2⟩ => thn (hi pins s2 σ H2 _ I2 q2) fun iv s3 ⟨y, H3, I3, ry, a, H4, ex, g, q3⟩ => ?_) hs
  subst ex
  obtain rfl : u = Value.ref a := rx
  exact d_setItem hu I3 g ry rv fun s4 I4 => ⟨σ, H4, I4, q3⟩
end


/-! ### displays -/
theorem dk_empty {P : Program} {w : World} {H : Hp} (h : Heap) (hb : sysModules < h.objs.size) : ObjOk P w H (h.push { cls := .type "dict", data := .dict #[] }) h.objs.size (.dK []) :=
  ⟨Nat.zero_le _, beq_eq_false_iff_ne.mpr (Ne.symm (Nat.ne_of_lt hb)), [], .nil, Heap.DictOf.new h⟩
section
variable {X : Cx} {pos : Pos}
end

/-- the pairs of a display, from the left -/
def tPairs : List (TE × TE) → St → Hp → (List (V × V) → Hp → Prop) → Prop
  | [], _, H, Q => Q [] H
  | (tk, tv) :: r, σ, H, Q => tk σ H fun x H1 => tv σ H1 fun y H2 => tPairs r σ H2 fun ps H3 => Q ((x, y) :: ps) H3
abbrev VV : List (V × V) → List (Value × Value) → Prop := Paired fun p q => RelV p.1 q.1 ∧ RelV p.2 q.2
def PPs (X : Cx) (pos : Pos) (keys : List (Option Expr)) (values : List Expr) (trs : List (TE × TE)) : Prop :=
  ∀ (pins : List (Addr × Obj)) (s : Shared) (σ : St) (H : Hp) (Q : List (V × V) → Hp → Prop), Inv X pins σ H s → tPairs trs σ H Q →
    wpAny (model X.prog X.w) X.A (evalPairs (pairTrees keys values X.env pos)) (fun vs s' => ∃ ps H', Inv X pins σ H' s' ∧ VV ps vs ∧ Q ps H') X.xe s
theorem pps_nil {X : Cx} {pos : Pos} : PPs X pos [] [] [] := fun pins s σ H Q I h => pairTrees_nil_walk ⟨[], H, I, .nil, h⟩
theorem pps_cons {X : Cx} {pos : Pos} {k v : Expr} {ks : List (Option Expr)} {vs : List Expr} {tk tv : TE} {trs : List (TE × TE)} (hk : PE X k tk) (hv : PE X v tv) (hr : PPs X pos ks vs trs) :
    PPs X pos (some k :: ks) (v :: vs) ((tk, tv) :: trs) := fun pins s σ H Q I h =>
  pairTrees_cons_walk (thn (hk pins s σ H _ I h) fun u s1 ⟨x, H1, I1, rx, q1⟩ => thn (hv pins s1 σ H1 _ I1 q1) fun w2 s2 ⟨y, H2, I2, ry, q2⟩ =>
    thn (hr pins s2 σ H2 _ I2 q2) fun ws s3 ⟨ps, H3, I3, rel, q3⟩ => ⟨(x, y) :: ps, H3, I3, .cons ⟨rx, ry⟩ rel, q3⟩)

def mergeK (kvs more : List (Key × V)) : List (Key × V) := more.foldl (fun acc kv => putK acc kv.1 kv.2) kvs
theorem KV.merge : ∀ {more : List (Key × V)} {rs : List (Key × Value)} {kvs : List (Key × V)} {vs : List (Key × Value)}, KV more rs → KV kvs vs → KV (mergeK kvs more) (merged vs rs) := by
  intro more rs kvs vs r
  unfold KV at r
  induction r generalizing kvs vs with
  | nil => intro q; exact q
  | @cons p q ps qs h t ih =>
    intro r0
    have e : KV (putK kvs p.1 p.2) (stored vs q.1 q.2) := by
      have := r0.put p.1 h.2
      rw [← h.1]; exact this
    exact ih e
theorem length_mergeK : ∀ (more kvs : List (Key × V)), (mergeK kvs more).length ≤ kvs.length + more.length
  | [], kvs => by show kvs.length ≤ kvs.length + 0; omega
  | p :: r, kvs => by
    have h1 := length_mergeK r (putK kvs p.1 p.2)
    have h2 := length_putK kvs p.1 p.2
    show (mergeK (putK kvs p.1 p.2) r).length ≤ _
    rw [List.length_cons]; omega
theorem carries_of {P : Program} {w : World} : ∀ {kvs : List (Key × V)} {ws : List (Value × Value)}, VV (kvs.map fun kv => (kV kv.1, kv.2)) ws → ∃ rs, Carries (mixKind P w) ws rs ∧ KV kvs rs
  | [], _, r => by rw [List.map_nil] at r; cases r; exact ⟨[], True.intro, .nil⟩
  | p :: kvs, _, r => by
    rw [List.map_cons] at r
    cases r with
    | @cons a b as bs h t =>
      obtain ⟨rs, c, q⟩ := carries_of (P := P) (w := w) t
      obtain ⟨b1, b2⟩ := b
      exact ⟨(p.1, b2) :: rs, ⟨kV_is h.1, rfl, c⟩, .cons ⟨rfl, h.2⟩ q⟩
/-- {k: v, ..} with keys ints and texts; the new dict stands empty while the pairs are made -/
def tDisp (trs : List (TE × TE)) : TE := fun σ H Q => ∀ p, H p = none → tPairs trs σ (upd H p (.dK [])) fun ps H2 => H2 p = some (.dK []) ∧ ∃ kvs : List (Key × V), ps = kvs.map (fun kv => (kV kv.1, kv.2)) ∧ kvs.length ≤ 15 ∧ Q (.ref p) (upd H2 p (.dK (mergeK [] kvs)))
theorem pe_disp {X : Cx} {pos : Pos} {keys : List (Option Expr)} {values : List Expr} {trs : List (TE × TE)} (h : PPs X pos keys values trs) (hall : keys.all (·.isSome) = true) (hl : keys.length = values.length) (h0 : keys ≠ [])
    (h15 : keys.length ≤ 15) : PE X (.Dict keys values pos) (tDisp trs) := by
  intro pins s σ H Q I q
  have hn := I.hok.fresh (Nat.le_refl s.heap.objs.size)
  have I1 := I.laid (a := s.heap.objs.size) (o := .dK []) (h' := s.heap.push { cls := .type "dict", data := .dict #[] }) (t' := s.toks) (fun _ _ q => Heap.get?_push_of_some _ q) (Nat.le_refl _) (dk_empty s.heap I.big)
  refine wpAny_Dict_walk (knd := mixKind X.prog X.w) hall hl h0 h15 (thn (h pins _ σ _ _ I1 (q _ hn)) fun ws s2 ⟨ps, H2, I2, rel, e, kvs, ep, lk, q2⟩ => ?_)
  subst ep
  obtain ⟨rs, c, rk⟩ := carries_of (P := X.prog) (w := X.w) rel
  obtain ⟨z, hd, vs0, r0, dd⟩ := dk_of I2.hok e
  cases r0
  refine ⟨rs, c, dd, fun h' dd' hs => ⟨.ref s.heap.objs.size, _, ?_, rfl, q2⟩⟩
  have hz : (mergeK [] kvs).length ≤ sizeLine := by
    have h1 := length_mergeK kvs []
    rw [List.length_nil] at h1
    rw [sizeLine_eq]; omega
  have he : ∃ q, h'.get? s.heap.objs.size = some q := let ⟨q, _, _, hq, _⟩ := dd'; ⟨q, hq⟩
  exact d_write I2 (by rw [e]; exact True.intro) hs he (dk_new hz hd (rk.merge .nil) dd')


/-! ### methods -/
/-- a method call o.m(e) of a built-in, with one argument: what must be seen of the text -/
structure M1 (X : Cx) (o : Expr) (m : Str) (apos : Pos) (e : Expr) (cpos : Pos) : Prop where
  base : attributeBase o m X.env (eval o X.env) = eval o X.env
  few : ((backTo cpos (starEach [e] X.env)).all (fun x => !x.1) && (backToKw cpos (keywordEach [] X.env)).all (fun x => x.1.isSome)
    && decide (([e] : List Expr).length + ([] : List Keyword).length + (if ([] : List Keyword).isEmpty then 0 else 1) < 30)) = true
  line : (apos.endLine == cpos.line) = true
  trees : backTo cpos (starEach [e] X.env) = [(false, eval e X.env)]
structure M2 (X : Cx) (o : Expr) (m : Str) (apos : Pos) (e f : Expr) (cpos : Pos) : Prop where
  base : attributeBase o m X.env (eval o X.env) = eval o X.env
  few : ((backTo cpos (starEach [e, f] X.env)).all (fun x => !x.1) && (backToKw cpos (keywordEach [] X.env)).all (fun x => x.1.isSome)
    && decide (([e, f] : List Expr).length + ([] : List Keyword).length + (if ([] : List Keyword).isEmpty then 0 else 1) < 30)) = true
  line : (apos.endLine == cpos.line) = true
  trees : backTo cpos (starEach [e, f] X.env) = [(false, eval e X.env), (false, eval f X.env)]

section
variable {X : Cx} {pins : List (Addr × Obj)} {σ : St} {H : Hp} {s : Shared} {a : Addr} {y d : V} {u r : Value} {o : Option V} {A : Around} {E : Value → Shared → Prop}
end

section
variable {X : Cx} {o e f : Expr} {apos cpos : Pos} {td ty tx : TE}
end

/-! ### dict(d): a copy -/
section
variable {X : Cx} {pins : List (Addr × Obj)} {σ : St} {H : Hp} {s : Shared} {a : Addr} {kvs : List (Key × V)} {A : Around} {E : Value → Shared → Prop}
end


section
variable {X : Cx} {pins : List (Addr × Obj)} {σ : St} {H : Hp} {s : Shared} {a : Addr} {y : V} {u : Value} {A : Around} {E : Value → Shared → Prop}
end
end L2

namespace L2
open PySem PySem.Spec PyProof.Rows
/-! ### a dict's pairs: keys that differ -/
section
variable {κ : Type} [DecidableEq κ]
end
end L2

set_option Elab.async false
set_option linter.all false
set_option maxRecDepth 100000
/-! Dicts over the quick judgements; sum, sorted; xs[i] += n; extend by a tuple. -/
namespace PySem
open Sem (wp)
open AutoSeq1 (wpAny_loadPart')
end PySem
namespace L2
open PySem PySem.Spec PyProof.Rows
section
variable {X : Cx} {o i e f value : Expr} {td ty tv tx to ti te : TE} {pos pos' apos cpos : Pos}
theorem qe_dget (hu : X.A.units + 1 < cLine) (ho : QE X o td) (hi : QE X i ty) (hs : NoSl i) : QE X (.Subscript o i pos) (tDGet td ty) := ⟨pe_dget hu ho.run hi.run hs⟩
theorem qs_dput (hu : X.A.units + 1 < cLine) (ho : QE X o td) (hi : QE X i ty) (hv : QE X value tv) (hs : swapsWith value (some (.Subscript o i pos')) pos.line X.env = pure false := by rfl) : QS X (.Assign [.Subscript o i pos'] value pos) (sDPut td ty tv) := ⟨ps_dput hu ho.run hi.run hv.run hs⟩
theorem IntsAre.of_vals : ∀ {ns : List Int} {us : List Value}, Vals (ns.map V.int) us → IntsAre us ns
  | [], us, h => by cases h; exact .nil
  | n :: ns, us, h => by
    cases h with
    | cons r t =>
      obtain ⟨tk, rfl⟩ := r
      exact .cons n tk (IntsAre.of_vals t)
end
end L2

set_option Elab.async false
set_option linter.all false
set_option maxRecDepth 100000
/-! A dict that is walked: in a loop, a comprehension; sorted(d). -/
namespace L2
open PySem PySem.Spec PyProof.Rows
section
variable {X : Cx} {tg : Expr}
end
end L2

set_option Elab.async false
set_option linter.all false
set_option maxRecDepth 100000
/-! sorted(d): a dict's keys gathered and sorted. -/
namespace PySem
open Sem (wp)
section
variable {prog : Program} {w : World} {A : Around} {E : Value → Shared → Prop} {s : Shared} {κ : Type} [DecidableEq κ] {knd : KeyKind prog w κ}
end
end PySem
namespace L2
open PySem PySem.Spec PyProof.Rows
section
variable {X : Cx}
end
end L2

set_option Elab.async false
set_option linter.all false
set_option maxRecDepth 100000
/-! enumerate(t) of a tuple, its pairs unpacked. -/
namespace PySem
open Sem (wp)
open AutoSeq1 (wpAny_loadPart')
section
variable {prog : Program} {w : World} {A : Around} {E : Value → Shared → Prop} {s : Shared}
end
end PySem

set_option Elab.async false
set_option linter.all false
set_option maxRecDepth 100000
namespace L2
open PySem PySem.Spec PyProof.Rows
section
variable {X : Cx} {elts : List Expr} {k : Nat} {tpos : Pos}
end
end L2

set_option Elab.async false
set_option linter.all false
set_option maxRecDepth 100000
/-! What a set's table keeps: who leads it, and its places rising while it is plain. -/
namespace PySem
namespace SetTable
/-- led by whom it was, its places rising while it is plain -/
def Good (b : Bool) (t : SetTable) : Prop := t.led = b ∧ (t.plain = true → t.place.toList.Pairwise (· < ·))
variable {b : Bool} {t : SetTable}
theorem Good.stand (g : Good b t) (n : Nat) : Good b (t.standIn n) := ⟨g.1, fun z => by cases z⟩
theorem Good.or (g : Good b t) (n : Nat) : Good b (t.orStandIn n) := by
  unfold orStandIn
  split
  · exact g
  · exact g.stand n
end SetTable
end PySem

set_option Elab.async false
set_option linter.all false
set_option maxRecDepth 100000
/-! A set of whole numbers: made of a list or a tuple. -/
namespace PySem
open Sem (wp)
open PyProof.Rows
def byTx (w : World) : Bool := w.params.followText "set-order"
def iOf (e : Int × Value) : Option Int := match e.2 with | .int k _ => some k | _ => none
def IEl (es : List (Int × Value)) : Prop := ∀ e ∈ es, ∃ k t, e = (hashInt k, Value.int k t)
/-- a set of these whole numbers, each once -/
def SetI (w : World) (a : Addr) (ns : List Int) (h : Heap) : Prop :=
  ∃ o es ep t, h.get? a = some o ∧ o.ExactSet ∧ o.data = .set es ep t ∧ IEl es.toList ∧ (es.toList.filterMap iOf).Perm ns ∧ es.size < scanBound ∧ t.fits es.size = true ∧ SetTable.Good (!byTx w) t
section
variable {prog : Program} {w : World} {A : Around} {E : Value → Shared → Prop} {s : Shared}
theorem IEl.perm {l l' : List (Int × Value)} (h : IEl l) (p : l'.Perm l) : IEl l' := fun e he => h e (p.mem_iff.mp he)
theorem IEl.len {l : List (Int × Value)} : IEl l → (l.filterMap iOf).length = l.length := by
  induction l with
  | nil => intro _; rfl
  | cons e l ih =>
    intro h
    obtain ⟨k, t, rfl⟩ := h e (by simp)
    have := ih fun e he => h e (by simp [he])
    simp [iOf] at this ⊢
    exact this
theorem IEl.has {l : List (Int × Value)} (h : IEl l) {k : Int} : k ∈ l.filterMap iOf ↔ ∃ e ∈ l, (intKind prog w).is k e.2 = true := by
  rw [List.mem_filterMap]
  constructor
  · rintro ⟨e, he, q⟩
    obtain ⟨j, t, rfl⟩ := h e he
    cases q
    exact ⟨_, he, intKind_is _ _ _ _⟩
  · rintro ⟨e, he, q⟩
    obtain ⟨j, t, rfl⟩ := h e he
    have : k = j := (intKind prog w).inj _ _ _ q (intKind_is _ _ j t)
    subst this
    exact ⟨_, he, rfl⟩
theorem SetI.keep {a : Addr} {ns : List Int} {h h' : Heap} (x : SetI w a ns h) (k : ∀ o, h.get? a = some o → h'.get? a = some o) : SetI w a ns h' := by
  obtain ⟨o, es, ep, t, e, r⟩ := x
  exact ⟨o, es, ep, t, k o e, r⟩
theorem SetI.type {a : Addr} {ns : List Int} (x : SetI w a ns s.heap) : s.TypeIs (.ref a) "set" := by
  obtain ⟨o, es, ep, t, e, c, _⟩ := x
  exact ⟨o, e, c.1⟩
theorem SetI.put {h : Heap} {a : Addr} {o : Obj} {es es' : Array (Int × Value)} {ep : Nat} {t t' : SetTable} {ns : List Int} (ho : h.get? a = some o) (x : o.ExactSet) (hd : o.data = .set es ep t) (h1 : IEl es'.toList)
    (h2 : (es'.toList.filterMap iOf).Perm ns) (h3 : es'.size < scanBound) (h4 : t'.fits es'.size = true) (h5 : SetTable.Good (!byTx w) t') :
    (h.update a (Obj.putSet es' t')).get? a = some { o with data := .set es' (ep + 1) t' } ∧ SetI w a ns (h.update a (Obj.putSet es' t')) := by
  have g := Heap.get?_update_self (Obj.putSet es' t') ho (by rw [putSet_of es' t' hd]; rfl)
  rw [putSet_of es' t' hd] at g
  exact ⟨g, _, es', ep + 1, t', g, x, rfl, h1, h2, h3, h4, h5⟩
end
end PySem

set_option Elab.async false
set_option linter.all false
set_option maxRecDepth 100000
namespace PySem
open Sem (wp)
open PyProof.Rows
section
variable {prog : Program} {w : World} {A : Around} {E : Value → Shared → Prop} {s : Shared} {R : Result → Shared → Prop}
end
end PySem

set_option Elab.async false
set_option linter.all false
set_option maxRecDepth 100000
/-! A set of whole numbers walked: in some order, whichever it is. -/
namespace PySem
open Sem (wp)
open PyProof.Rows
section
variable {prog : Program} {w : World} {A : Around} {E : Value → Shared → Prop} {s : Shared}
/-- where a walk stands in the table -/
def stSl (t : SetTable) : Nat → Nat
  | 0 => 0
  | i + 1 => t.place.getD i 0 + 1
/-- the three ways in which a set is walked -/
def SMode (w : World) (a it pl : Addr) (es : Array (Int × Value)) (ep : Nat) (t : SetTable) (out : List Value) (i : Nat) (first : Value) (h : Heap) : Prop :=
  (byTx w = true ∧ first = .int 0 0 ∧ out = (pickOrder (w.params.setOrder a ep) es).toList.map (·.2)) ∨
  (byTx w = false ∧ (!t.plain && decide (es.size > 1)) = false ∧ t.place.toList.Pairwise (· < ·) ∧ first = .int (stSl t i : Nat) 0 ∧ out = es.toList.map (·.2)) ∨
  (byTx w = false ∧ first = .ref pl ∧ pl ≠ it ∧ ∃ ord : List Nat, h.IsTuple pl (ord.map fun i : Nat => rawInt i).toArray ∧ ord.Perm (List.range es.size) ∧ out = ord.map fun i => ((es[i]?).map (·.2)).getD .none)
def SSt (w : World) (a it pl : Addr) (o : Obj) (es : Array (Int × Value)) (ep : Nat) (t : SetTable) (out : List Value) (i : Nat) (h : Heap) : Prop :=
  h.get? a = some o ∧ out.length = es.size ∧ ∃ first, h.get? it = some { cls := .type "set_iterator", data := .fields #[first, .int i 0, .ref a, .int es.size 0, .int ep 0] } ∧ SMode w a it pl es ep t out i first h
structure SFix (w : World) (o : Obj) (es : Array (Int × Value)) (ep : Nat) (t : SetTable) : Prop where
  ex : o.ExactSet
  dat : o.data = .set es ep t
  fit : t.fits es.size = true
  led : t.led = !byTx w
theorem SSt.frame {a it pl : Addr} {o : Obj} {es : Array (Int × Value)} {ep : Nat} {t : SetTable} {out : List Value} {i : Nat} {h h' : Heap} (x : SSt w a it pl o es ep t out i h) (k : ∀ b ∈ [it, a, pl], ∀ o, h.get? b = some o → h'.get? b = some o) : SSt w a it pl o es ep t out i h' := by
  obtain ⟨x1, x2, f, x3, m⟩ := x
  refine ⟨k a (by simp) _ x1, x2, f, k it (by simp) _ x3, ?_⟩
  rcases m with m | m | ⟨m1, m2, m3, ord, m4, m5⟩
  · exact .inl m
  · exact .inr (.inl m)
  · exact .inr (.inr ⟨m1, m2, m3, ord, m4.at fun o e => k pl (by simp) o e, m5⟩)
theorem SSt.type {a it pl : Addr} {o : Obj} {es : Array (Int × Value)} {ep : Nat} {t : SetTable} {out : List Value} {i : Nat} (x : SSt w a it pl o es ep t out i s.heap) : s.TypeIs (.ref it) "set_iterator" := by
  obtain ⟨_, _, f, e, _⟩ := x
  exact ⟨_, e, rfl⟩
end
end PySem

set_option Elab.async false
set_option linter.all false
set_option maxRecDepth 100000
/-! sorted(set(..)) of whole numbers. -/
namespace PySem
open Sem (wp)
open PyProof.Rows
section
variable {prog : Program} {w : World} {A : Around} {E : Value → Shared → Prop} {s : Shared}
theorem IEl.ints {l : List (Int × Value)} : IEl l → IntsAre (l.map (·.2)) (l.filterMap iOf) := by
  induction l with
  | nil => intro _; exact .nil
  | cons e l ih =>
    intro h
    obtain ⟨k, t, rfl⟩ := h e (by simp)
    exact .cons k t (ih fun e he => h e (by simp [he]))
end
end PySem

set_option Elab.async false
set_option linter.all false
set_option maxRecDepth 100000
namespace PySem
open Sem (wp)
open PyProof.Rows
section
variable {prog : Program} {w : World} {A : Around} {E : Value → Shared → Prop} {s : Shared}
end
end PySem
namespace L2
open PySem PySem.Spec PyProof.Rows
section
variable {X : Cx}
theorem Inv.drawn {pins : List (Addr × Obj)} {s : Shared} {σ : St} {H : Hp} (I : Inv X pins σ H s) (d : Drawn) : Inv X pins σ H { s with drawn := d } :=
  { ok := I.ok, os := I.os, bare := I.bare, base := I.base, loc := I.loc, cell := I.cell, free := I.free, freeC := I.freeC, pin := I.pin, hok := I.hok, len := I.len }
end
end L2

set_option Elab.async false
set_option linter.all false
set_option maxRecDepth 100000
namespace L2
open PySem PySem.Spec PyProof.Rows
section
variable {X : Cx} {elts : List Expr} {k : Nat} {tpos : Pos}
def tMono (te : TE) : TE := fun σ H Q => ∃ D : VK, te σ H D ∧ ∀ x H1, D x H1 → Q x H1
theorem QE.mono {e : Expr} {te : TE} (he : QE X e te) : QE X e (tMono te) := ⟨fun pins s σ H Q I ⟨D, h, k⟩ => thn (he.run pins s σ H D I h) fun v s1 ⟨x, H1, I1, r1, q1⟩ => ⟨x, H1, I1, r1, k x H1 q1⟩⟩
end
end L2

set_option Elab.async false
set_option linter.all false
set_option maxRecDepth 100000
/-! len(set(xs)) of whole numbers. -/
namespace L2
open PySem PySem.Spec PyProof.Rows
section
variable {X : Cx}
end
end L2

set_option Elab.async false
set_option linter.all false
set_option maxRecDepth 100000
/-! min(xs) and xs.index(n) of whole numbers. -/
namespace L2
open PySem PySem.Spec PyProof.Rows
section
variable {X : Cx}
end
end L2

set_option Elab.async false
set_option linter.all false
set_option maxRecDepth 100000
namespace L2
open PySem
/-! a new address is no part of data -/
mutual
theorem Rep.more {S : List Addr} {H : Hp} {p : Addr} (hp : H p = none) : ∀ {d : PyData} {v : V}, Rep S H d v → Rep (p :: S) H d v
  | .none, _, h => h
  | .bool _, _, h => h
  | .int _, _, h => h
  | .str _, _, h => h
  | .tuple ds, _, h => by
    unfold Rep at h ⊢
    obtain ⟨a, xs, e, ha, hr⟩ := h
    exact ⟨a, xs, e, ha, Reps.more hp hr⟩
  | .list ds, _, h => by
    unfold Rep at h ⊢
    obtain ⟨a, xs, e, ha, hs, hr⟩ := h
    refine ⟨a, xs, e, ha, fun z => ?_, Reps.more hp hr⟩
    rcases List.mem_cons.mp z with z | z
    · rw [z, hp] at ha; cases ha
    · exact hs z
  | .dict _, _, h => h
theorem Reps.more {S : List Addr} {H : Hp} {p : Addr} (hp : H p = none) : ∀ {ds : List PyData} {vs : List V}, Reps S H ds vs → Reps (p :: S) H ds vs
  | [], _, h => h
  | d :: ds, _, h => by
    unfold Reps at h ⊢
    obtain ⟨y, r, e, h1, h2⟩ := h
    exact ⟨y, r, e, Rep.more hp h1, Reps.more hp h2⟩
end
end L2

set_option Elab.async false
set_option linter.all false
set_option maxRecDepth 100000
/-! while, whatever the test. -/
namespace L2
open PySem PySem.Spec PyProof.Rows
section
variable {X : Cx}
def tMonoT (t : TT) : TT := fun σ H Q => ∃ D : Bool → Hp → Prop, t σ H D ∧ ∀ b H1, D b H1 → Q b H1
theorem QT.mono {e : Expr} {t : TT} (he : QT X e t) : QT X e (tMonoT t) := ⟨fun pins s σ H Q I ⟨D, h, k⟩ => thn (he.run pins s σ H D I h) fun b s1 ⟨H1, I1, q1⟩ => ⟨H1, I1, k b H1 q1⟩⟩
end
end L2

set_option Elab.async false
set_option linter.all false
set_option maxRecDepth 100000
/-! An exception in flight: what is noted of the frames that it leaves. -/
namespace L2
open PySem PySem.Spec PyProof.Rows
/-- an exception at x: its class, its dict, the head of its trace -/
structure ExcAt (h : Heap) (x : Addr) (cls : Value) (od tb : Option Addr) : Prop where
  obj : ∃ oe vs, h.get? x = some oe ∧ oe.cls = cls ∧ oe.dict = od ∧ oe.data = .fields vs ∧ vs[1]? = some (tb.elim Value.none Value.ref)
  hd : ∀ T, tb = some T → T ≠ x ∧ ∃ oT ts, h.get? T = some oT ∧ oT.data = .fields ts ∧ ts[3]? = some .none
/-- what stays while it is noted: all but it, its trace, the frames' slots -/
structure Noted (fs : List Addr) (x : Addr) (tb : Option Addr) (h h' : Heap) : Prop where
  keep : ∀ b o, h.get? b = some o → b ≠ x → tb ≠ some b → b ∉ fs → h'.get? b = some o
  slot : ∀ b o, h.get? b = some o → b ∈ fs → ∃ sl, h'.get? b = some { o with slots := sl }
  there : ∀ b o, h.get? b = some o → ∃ o', h'.get? b = some o'
section
variable {M : Model} {A : Around} {E : Value → Shared → Prop} {s : Shared}
end
end L2

set_option Elab.async false
set_option linter.all false
set_option maxRecDepth 100000
/-! Exceptions that leave a def: how they lie, and how they pass. -/
namespace L2
open PySem PySem.Spec PyProof.Rows
/-- an exception, flying or caught -/
def xfly (x : Addr) (cls : Value) (od : Option Addr) : Heap → Prop := fun h => ∃ oe vs, h.get? x = some oe ∧ oe.cls = cls ∧ oe.dict = od ∧ oe.data = .fields vs
theorem xfly_ok {P : Program} {w : World} {H : Hp} {h : Heap} {x : Addr} {cls : Value} {od : Option Addr} (r : xfly x cls od h) : ObjOk P w H h x (.ext (xfly x cls od)) := by
  refine ⟨r, let ⟨oe, _, e, _⟩ := r; ⟨oe, e⟩, fun h1 h2 ⟨oe, vs, e, r⟩ k => ⟨oe, vs, k _ e, r⟩⟩
/-- behind a call that raised -/
def CX1 (P : Program) (w : World) : CXT := fun outer H s E e s' => ∃ (x : Addr) (cls : Value) (od : Option Addr) (T : Addr) (H' : Hp), e = .ref x ∧ s'.os = s.os ∧ AllBare s'.gens ∧ Un (frs outer) [] H H' s.heap s'.heap ∧ HOk P w H' s'.heap ∧
  H' x = some (.ext (xfly x cls od)) ∧ H' T = none ∧ s.heap.objs.size ≤ x ∧ s.heap.objs.size ≤ T ∧ ExcAt s'.heap x cls od (some T) ∧ E cls od H'
/-- within a body: an exception lies there -/
def XP (X : Cx) (pins : List (Addr × Obj)) (σ : St) (E : XK) (e : Value) (s' : Shared) : Prop := ∃ (x : Addr) (cls : Value) (od tb : Option Addr) (H' : Hp), e = .ref x ∧ Inv X pins σ H' s' ∧ H' x = some (.ext (xfly x cls od)) ∧ X.s₀.heap.objs.size ≤ x ∧ (∀ p ∈ X.pn ++ pins, p.1 ≠ x) ∧
  (∀ T, tb = some T → H' T = none ∧ X.s₀.heap.objs.size ≤ T ∧ ∀ p ∈ X.pn ++ pins, p.1 ≠ T) ∧ ExcAt s'.heap x cls od tb ∧ E cls od H'
section
variable {X : Cx} {pins : List (Addr × Obj)} {σ : St} {H : Hp} {s s' : Shared} {E : XK} {e : Value}
/-- what is tracked stays -/
theorem HOk.noted {P : Program} {w : World} {h h' : Heap} {fs : List Addr} {x : Addr} {cls : Value} {od tb : Option Addr} (ok : HOk P w H h) (nt : Noted fs x tb h h') (nx : H x = some (.ext (xfly x cls od))) (fl : xfly x cls od h') (nT : ∀ T, tb = some T → H T = none) (nf : ∀ b ∈ fs, H b = none) : HOk P w H h' := fun a o e => by
  have key : ∀ b (u : HO), b ≠ x → H b = some u → ∀ v, h.get? b = some v → h'.get? b = some v := fun b u hbx hb v hv =>
    nt.keep b v hv hbx (fun z => by rw [nT b z] at hb; cases hb) fun z => by rw [nf b z] at hb; cases hb
  by_cases hax : a = x
  · subst hax
    rw [nx] at e
    cases e
    exact xfly_ok fl
  · refine (ok a o e).stay (fun b v hb q => ?_) (fun b q => q) fun b xs q => q
    rcases hb with rfl | hb
    · exact key b o hax e v q
    · exact key b _ (fun z => by rw [z, nx] at hb; cases hb) hb v q
end
section
variable {P : Program} {w : World} {K : PySem.W.Frag} {mg : Str → Option Value} {base : Heap}
/-- a def by its name, one that may raise -/
structure DefX (P : Program) (w : World) (K : PySem.W.Frag) (mg : Str → Option Value) (base : Heap) (k : Nat) (x : Str) (ps : List Str) (sp : Sp) : Prop where
  ex : ∃ (f : Addr) (fd : FuncData), FnOk P w K mg base (CX1 P w) k f fd ps sp ∧ mg x = some (.ref f) ∧ PySem.W.keepIn K (.ref f) = true ∧ Binds K fd ps []
end
section
variable {X : Cx} {k : Nat} {x : Str} {ps : List Str} {sp : Sp} {E : XK} {e : Expr} {es : List Expr} {t : TA} {p pos : Pos}
end
end L2

set_option Elab.async false
set_option linter.all false
set_option maxRecDepth 100000
/-! An exception's attributes: read and written. -/
namespace L2
open PySem PySem.Spec PyProof.Rows
/-- what of the text an own exception's class must have -/
structure ClsX (K : PySem.W.Frag) (C : Addr) : Prop where
  ga : PySem.W.findIn K (.ref C) "__getattribute__" = some (some (.builtin "BaseException.__getattribute__"))
  gh : PySem.W.findIn K (.ref C) "__getattr__" = some none
  sa : PySem.W.findIn K (.ref C) "__setattr__" = some (some (.builtin "object.__setattr__"))
  hd : PySem.W.hasDictIn K C = true
  isx : PySem.W.mroIn K C (.type "BaseException") = some true
  iso : PySem.W.mroIn K C (.type "object") = some true
section
variable {prog : Program} {w : World} {A : Around} {E : Value → Shared → Prop} {K : PySem.W.Frag} {x C dx : Addr} {o : Obj} {mA : Str → Option Value} {name : Str} {v : Value}
/-! writing -/
def veTail : List Value → Bool
  | [.type a, .type b, .type c, .type d] => a == "ValueError" && b == "Exception" && c == "BaseException" && d == "object"
  | .ref _ :: r => veTail r
  | _ => false
end
end L2

set_option Elab.async false
set_option linter.all false
set_option maxRecDepth 100000
set_option maxHeartbeats 4000000
/-! An own exception is made: its __new__, then its own __init__. -/
namespace L2
open PySem PySem.Spec PyProof.Rows
abbrev veMro : List Value := [.type "ValueError", .type "Exception", .type "BaseException", .type "object"]
section
variable {prog : Program} {w : World} {A : Around} {E : Value → Shared → Prop} {u : Heap} {gs : Array GenState} {dr : Drawn} {tk : Nat} {ost : OsState}
variable {nm qn : Str} {C N fI : Addr} {bs bm : List Value} {hdct : Bool} {sn : List Str} {sub : List Value} {ab : Bool} {col : Option Bool} {dd : Option Addr} {k0 k1 k2 k3 k5 : Option Value} {us : List Value}
end
end L2

set_option Elab.async false
set_option linter.all false
set_option maxRecDepth 100000
set_option maxHeartbeats 4000000
/-! An own exception's __init__: self.f = value. -/
namespace L2
open PySem PySem.Spec PyProof.Rows
theorem ext_of {P : Program} {w : World} {H : Hp} {h : Heap} {a : Addr} {φ : Heap → Prop} (ok : HOk P w H h) (e : H a = some (.ext φ)) : φ h := (show ObjOk P w H h a (.ext φ) from ok a _ e).1
/-- an own exception's class, with its object -/
structure ExcCls (K : PySem.W.Frag) (C : Addr) : Prop where
  cls : ClsX K C
  ve : ∃ cd, PySem.W.clsIn K C = some cd ∧ veTail cd.mro = true
  ty : ∃ o, K.lookup C = some o ∧ o.cls = .type "type"
section
variable {X : Cx} {pins : List (Addr × Obj)} {σ : St} {H : Hp} {s : Shared} {x C dx : Addr} {f : Str} {y : V} {v : Value} {fs : List (Str × V)}
end
end L2

set_option Elab.async false
set_option linter.all false
set_option maxRecDepth 100000
set_option maxHeartbeats 4000000
/-! raise C(..), C an own exception with an __init__ of its own. -/
namespace L2
open PySem PySem.Spec PyProof.Rows
/-- the base of the own exceptions -/
structure JOk (K : PySem.W.Frag) (J : Addr) : Prop where
  ex : ∃ c0 dd cd sl c1 d1 es n sl1, K.lookup J = some ⟨c0, dd, .cls cd, sl⟩ ∧ K.lookup cd.ns = some ⟨c1, d1, .dict es n, sl1⟩ ∧ StrKeys es ∧ nsFind es "__init__" = none
/-- an own exception that can be made -/
structure XMk (K : PySem.W.Frag) (C fI : Addr) : Prop where
  obj : ∃ J nm qn N bs hdct sn sub ab col dd k0 k1 k2 k3 k5, K.lookup C = some (excClassObj nm qn C N bs (.ref J :: veMro) hdct sn sub ab col dd k0 k1 k2 k3 k5 "ValueError.__new__") ∧ JOk K J
  init : PySem.W.findIn K (.ref C) "__init__" = some (some (.ref fI))
  fn : PySem.W.isFn K (.ref fI) = true
  kp : PySem.W.keepIn K (.ref C) = true
  cls : ClsX K C
theorem XMk.ec {K : PySem.W.Frag} {C fI : Addr} (m : XMk K C fI) : ExcCls K C := by
  obtain ⟨J, nm, qn, N, bs, hdct, sn, sub, ab, col, dd, k0, k1, k2, k3, k5, e, _⟩ := m.obj
  refine ⟨m.cls, ⟨{ name := nm, bases := bs, mro := .ref C :: .ref J :: veMro, ns := N, qualname := qn, hasDict := hdct, slotNames := sn, subclasses := sub, abstract := ab, collection := col, hasDel := false }, ?_, by simp [veTail]⟩, _, e, rfl⟩
  unfold PySem.W.clsIn
  rw [e]
section
variable {X : Cx} {pins : List (Addr × Obj)} {σ : St} {H : Hp} {s : Shared} {C fI : Addr} {k : Nat} {fd : FuncData} {ps : List Str} {sp : Sp} {E : XK}
end
end L2

set_option Elab.async false
set_option linter.all false
set_option maxRecDepth 100000
set_option maxHeartbeats 4000000
/-! isinstance of an exception. -/
namespace L2
open PySem PySem.Spec PyProof.Rows
/-- what isinstance asks of an exception's class -/
structure ClsI (K : PySem.W.Frag) (C : Addr) : Prop where
  cx : ClsX K C
  ha : PySem.W.findIn K (.ref C) "__class__" = some (some (.builtin "object.__class__"))
  hn : PySem.W.specialIn K (.builtin "object.__class__") "__get__" = some (some (.builtin "getset_descriptor.__get__"))
  tk : PySem.W.takesIn K (.builtin "object.__class__") = some true
section
variable {prog : Program} {w : World} {A : Around} {E : Value → Shared → Prop} {K : PySem.W.Frag} {x C : Addr} {o od : Obj} {s : Shared}
end
/-- the classes that isinstance is asked for -/
inductive Asked (K : PySem.W.Frag) (H : Hp) (C : Addr) : V → Bool → Prop where
  | own {D : Addr} {b : Bool} (e : PySem.W.kitOne K (.ref C) (.ref D) = some b) : Asked K H C (.ref D) b
  | ty {T : String} {b : Bool} (e : PySem.W.kitOne K (.ref C) (.type T) = some b) : Asked K H C (.ty T) b
  | tup {t : Addr} {ds : List Addr} {b : Bool} (h : H t = some (.tup (ds.map V.ref))) (e : PySem.W.kitAny K (.ref C) (ds.map Value.ref) = some b) : Asked K H C (.ref t) b
section
variable {X : Cx}
end
end L2

set_option Elab.async false
set_option linter.all false
set_option maxRecDepth 100000
set_option maxHeartbeats 4000000
/-! try: one statement; except C as e: a suite that raises nothing. -/
namespace L2
open PySem PySem.Spec PyProof.Rows
/-- an expression that may raise: what is wanted of the exception is its own -/
structure QEx (X : Cx) (e : Expr) (t : XK → TE) : Prop where
  run : ∀ (E : XK) (pins : List (Addr × Obj)) (s : Shared) (σ : St) (H : Hp) (Q : VK), Inv X pins σ H s → t E σ H Q → wpAny (model X.prog X.w) X.A (eval e X.env) (EP X pins σ Q) (XP X pins σ E) s
section
variable {X : Cx} {pins : List (Addr × Obj)} {σ : St} {H : Hp} {s : Shared} {E : XK}
theorem EP.unwish {Ex : Value → Shared → Prop} {Q : VK} {u : Value} {s' : Shared} (h : EP (X.wish Ex) pins σ Q u s') : EP X pins σ Q u s' := let ⟨v, H', I, r, q⟩ := h; ⟨v, H', I.unwish, r, q⟩
/-- what an exception is not -/
theorem fly_not {x : Addr} {cls : Value} {od : Option Addr} (I : Inv X pins σ H s) (f : xfly x cls od s.heap) : x ≠ X.env.locals ∧ ∀ y c, X.env.cells.lookup y = some c → c ≠ x := by
  obtain ⟨oe, vs, hx, _, _, hd⟩ := f
  refine ⟨fun z => ?_, fun y c hc z => ?_⟩
  · obtain ⟨m, ⟨o, es, ep, ho, hd', _⟩, _⟩ := I.loc
    rw [← z, hx] at ho
    cases ho
    rw [hd] at hd'
    cases hd'
  · obtain ⟨v, o, ho, hd'⟩ := I.cell y c hc
    rw [z, hx] at ho
    cases ho
    rw [hd] at hd'
    cases hd'
theorem Inv.noted {h' : Heap} {x : Addr} {cls : Value} {od tb : Option Addr} (I : Inv X pins σ H s) (nt : Noted (frs X.stack) x tb s.heap h') (ex : H x = some (.ext (xfly x cls od))) (fl : xfly x cls od h') (sx : X.s₀.heap.objs.size ≤ x) (px : ∀ p ∈ X.pn ++ pins, p.1 ≠ x)
    (hT : ∀ T, tb = some T → H T = none ∧ X.s₀.heap.objs.size ≤ T ∧ ∀ p ∈ X.pn ++ pins, p.1 ≠ T) (tT : ∀ T, tb = some T → ∃ oT ts, s.heap.get? T = some oT ∧ oT.data = .fields ts) : Inv X pins σ H { s with heap := h' } := by
  have fx := fly_not I (ext_of I.hok ex)
  refine I.call (g' := s.gens) (t' := s.toks) (d' := s.drawn) (ch := x :: tb.toList) ⟨fun b o hb n hf hc => ?_, fun b o hb n hf hc => nt.slot b o hb hf, fun b o hb n _ => n, fun b o hb _ => nt.there b o hb, fun _ _ e => e, fun _ _ _ e => e, fun b ps e => ⟨#[], by rw [e]; simp⟩⟩ (I.hok.noted nt ex fl (fun T e => (hT T e).1) I.stkFree) I.bare fun b hb => ?_
  · refine nt.keep b o hb (fun z => hc (by rw [z]; exact List.mem_cons_self ..)) (fun z => hc (List.mem_cons_of_mem _ (by rw [z]; simp))) hf
  · rcases List.mem_cons.mp hb with rfl | hb
    · exact ⟨.inr sx, fx.1, fx.2, px⟩
    · have e : tb = some b := by
        cases tb with
        | none => cases hb
        | some T => simp at hb; rw [hb]
      obtain ⟨oT, ts, h1, h2⟩ := tT b e
      have fT := fly_not (x := b) (cls := oT.cls) (od := oT.dict) I ⟨oT, ts, h1, rfl, rfl, h2⟩
      exact ⟨.inr (hT b e).2.1, fT.1, fT.2, (hT b e).2.2⟩
/-- a name is gone -/
theorem Inv.gone {h' : Heap} {tk : Nat} {j : Nat} {n : Str} {m : Str → Option Value} {v : Option Value} (I : Inv X pins σ H s) (hN : X.N.Nodup) (hj : X.N[j]? = some n) (hl : ∀ (i : Nat) (x : Str) (w : V), X.N[i]? = some x → σ[i]? = some (some w) → Vis X.env.scope x → ∃ u, RelV w u ∧ Look X.env s.heap m x u)
    (hn' : h'.Ns X.env.locals (fun y => if y = n then v else m y)) (hs : Heap.SameBut X.env.locals s.heap h') : Inv X pins (σ.set j none) H { s with heap := h', toks := tk } := by
  have cne := I.cne
  have up := I.ok.above
  have old : ∀ b (o : Obj), X.s₀.heap.get? b = some o → b ≠ X.env.locals := fun b o e => Nat.ne_of_lt (Nat.lt_of_lt_of_le (Heap.lt_size e) up)
  refine ⟨I.ok, I.os, I.bare, ⟨fun b o e n' hb hx => ?_, fun b o e n' hb hx => ?_, I.base.free, fun b o e hx => ?_, I.base.tups, I.base.frzs, I.base.tbls⟩, ⟨_, hn', fun i y w e1 e2 e3 => ?_⟩, fun y c e => ?_, I.free, I.freeC, fun p hp => ?_, fun b ob e => ?_, by simpa using I.len⟩
  · exact (hs.2 b (old b o e)).trans (I.base.keep b o e n' hb hx)
  · obtain ⟨sl, e1⟩ := I.base.slot b o e n' hb hx
    exact ⟨sl, (hs.2 b (old b o e)).trans e1⟩
  · obtain ⟨o', e1⟩ := I.base.there b o e hx
    exact ⟨o', (hs.2 b (old b o e)).trans e1⟩
  · have hij : i ≠ j := fun z => by
      subst z
      by_cases hlt : i < σ.length
      · rw [List.getElem?_set_self hlt] at e2
        cases e2
      · rw [List.getElem?_eq_none (by rw [List.length_set]; omega)] at e2
        cases e2
    rw [List.getElem?_set_ne (Ne.symm hij)] at e2
    obtain ⟨u, r, q⟩ := hl i y w e1 e2 e3
    refine ⟨u, r, ?_⟩
    rcases q with ⟨k, e⟩ | ⟨k, c, e, ob, hob, hdc⟩
    · have hyn : y ≠ n := fun z => hij (nodup_ix hN e1 (z ▸ hj))
      exact .inl ⟨k, by simp [hyn, e]⟩
    · exact .inr ⟨k, c, e, ob, (hs.2 c (cne y c e)).trans hob, hdc⟩
  · obtain ⟨w, ob, hob, hdc⟩ := I.cell y c e
    exact ⟨w, ob, (hs.2 c (cne y c e)).trans hob, hdc⟩
  · obtain ⟨p1, p2, p3, p4, p5⟩ := I.pin p hp
    exact ⟨(hs.2 p.1 p3).trans p1, p2, p3, p4, p5⟩
  · have free := I.free
    refine (I.hok b ob e).stay (fun c w' hc q => (hs.2 c fun z => ?_).trans q) (fun _ q => q) fun _ _ q => q
    rcases hc with rfl | hc
    · rw [z, free] at e; cases e
    · rw [z, free] at hc; cases hc
end
end L2

set_option Elab.async false
set_option linter.all false
set_option maxRecDepth 100000
set_option maxHeartbeats 4000000
namespace L2
open PySem PySem.Spec PyProof.Rows
/-- behind a suite the name is gone -/
def Ends.after (D : Ends) (j : Nat) : Ends := { nx := fun σ H => D.nx (σ.set j none) H, rt := D.rt, bk := fun σ H => D.bk (σ.set j none) H, ct := fun σ H => D.ct (σ.set j none) H }
section
variable {X : Cx} {pins : List (Addr × Obj)} {σ : St} {H : Hp} {s : Shared} {D : Ends} {th : TS} {cn n : Str} {C0 : Addr} {np hpos : Pos} {b0 : Stmt} {suite : List Stmt} {j : Nat} {e : Value}
variable {i : Nat} {x : Str} {ex : Expr} {te : XK → TE} {px apos pos : Pos}
end
end L2

set_option Elab.async false
set_option linter.all false
set_option maxRecDepth 100000
set_option maxHeartbeats 4000000
/-! In short: an own exception by its name. -/
namespace L2
open PySem PySem.Spec PyProof.Rows
/-- an own exception that may be raised: its name, its class, its __init__ -/
structure RaiseOk (P : Program) (w : World) (K : PySem.W.Frag) (mg : Str → Option Value) (base : Heap) (x : Str) (C : Addr) (sp : Sp) : Prop where
  ex : ∃ (fI : Addr) (fd : FuncData) (ps : List Str), XMk K C fI ∧ FnOk P w K mg base CX0 1 fI fd ps sp ∧ mg x = some (.ref C) ∧ Binds K fd ps []
end L2

set_option Elab.async false
set_option linter.all false
set_option maxRecDepth 100000
set_option maxHeartbeats 4000000
/-! What a text's own exception classes are, in the words that a text's part answers. -/
namespace L2
open PySem PySem.Spec PyProof.Rows
structure OwnC (K : PySem.W.Frag) (mg : Str → Option Value) (x : Str) (D : Addr) : Prop where
  nm : mg x = some (.ref D)
  ty : PySem.W.typeIn K (.ref D) = some (.type "type")
  cl : (PySem.W.clsIn K D).isSome = true
structure ExcI (K : PySem.W.Frag) (C J : Addr) : Prop where
  ci : ClsI K C
  own : PySem.W.mroIn K C (.ref C) = some true
  val : PySem.W.mroIn K C (.type "ValueError") = some true
  up : PySem.W.mroIn K C (.ref J) = some true
  jx : PySem.W.mroIn K J (.type "BaseException") = some true
section
variable {K : PySem.W.Frag} {mg : Str → Option Value} {x : Str} {C D J : Addr} {b : Bool}
theorem OwnC.kit (o : OwnC K mg x D) : PySem.W.kitCls K (.ref C) (.ref D) = PySem.W.mroIn K C (.ref D) := by
  show (if ((PySem.W.clsIn K D).isSome && PySem.W.typeIn K (.ref D) == some (.type "type")) = true then PySem.W.subIn K (.ref C) (.ref D) else none) = _
  rw [o.cl, o.ty]
  rw [if_pos (by simp)]
  rfl
theorem ExcI.one (e : ExcI K C J) (o : OwnC K mg x D) (h : PySem.W.mroIn K C (.ref D) = some b) : PySem.W.kitOne K (.ref C) (.ref D) = some b := by
  unfold PySem.W.kitOne
  by_cases q : C = D
  · subst q
    have := e.own
    rw [h] at this
    rw [if_pos (by simp), ← this]
  · rw [if_neg (by simpa using q), o.kit]
    exact h
end
/-- the facts of a class that is raised -/
structure RF (K : PySem.W.Frag) (C J fI : Addr) : Prop where
  obj : ∃ nm qn N bs hdct sn sub ab col dd k0 k1 k2 k3 k5, K.lookup C = some (excClassObj nm qn C N bs (.ref J :: veMro) hdct sn sub ab col dd k0 k1 k2 k3 k5 "ValueError.__new__")
  init : PySem.W.findIn K (.ref C) "__init__" = some (some (.ref fI))
  fn : PySem.W.isFn K (.ref fI) = true
  kp : PySem.W.keepIn K (.ref C) = true
  ei : ExcI K C J
section
variable {P : Program} {w : World} {K : PySem.W.Frag} {mg : Str → Option Value} {base : Heap} {C J fI : Addr} {fd : FuncData} {x q f g : Str} {st : Stmt} {sp : Sp} {ps : List Str}
end
end L2

set_option Elab.async false
set_option linter.all false
set_option maxRecDepth 100000
/-! A dict display over the quick judgements; t.count(n) of a tuple of whole numbers. -/
namespace L2
open PySem PySem.Spec PyProof.Rows
structure QPs (X : Cx) (pos : Pos) (keys : List (Option Expr)) (values : List Expr) (trs : List (TE × TE)) : Prop where
  run : PPs X pos keys values trs
section
variable {X : Cx} {pos : Pos}
theorem qps_nil : QPs X pos [] [] [] := ⟨pps_nil⟩
theorem qps_c {k v : Expr} {ks : List (Option Expr)} {vs : List Expr} {tk tv : TE} {trs : List (TE × TE)} (hk : QE X k tk) (hv : QE X v tv) (hr : QPs X pos ks vs trs) : QPs X pos (some k :: ks) (v :: vs) ((tk, tv) :: trs) := ⟨pps_cons hk.run hv.run hr.run⟩
theorem qe_disp {keys : List (Option Expr)} {values : List Expr} {trs : List (TE × TE)} (h : QPs X pos keys values trs) (hall : keys.all (·.isSome) = true) (hl : keys.length = values.length) (h0 : keys.isEmpty = false)
    (h15 : keys.length ≤ 15) : QE X (.Dict keys values pos) (tDisp trs) := ⟨pe_disp h.run hall hl (fun z => by rw [z] at h0; cases h0) h15⟩
end
end L2

set_option Elab.async false
set_option linter.all false
set_option maxRecDepth 100000
/-! a tuple, not empty, times a number from 1 on -/
namespace PySem
end PySem
namespace L2
open PySem PySem.Spec PyProof.Rows
variable {X : Cx}
theorem call_minTn (K : PySem.W.Frag) (hc : X.calm = true) (hk : X.K = K := by rfl) : CallR X (.builtin "min") (fun xs H Q => ∃ (p : Addr) (ns : List Int), xs = [.ref p] ∧ SqT K H p (ns.map V.int) ∧ ns ≠ [] ∧ ∀ M, M ∈ ns → (∀ a ∈ ns, M ≤ a) → Q (.int M) H) := by
  subst hk
  intro pins s σ H xs us Q I r h
  obtain ⟨p, ns, rfl, hp, hne, q⟩ := h
  obtain ⟨u, rfl, ru⟩ := vals1 r
  cases ru
  obtain ⟨its, rv, ht, hz⟩ := I.tuple hp
  have hpl : p < s.heap.objs.size := ht.lt
  have hI : IntsAre its ns := IntsAre.of_vals rv
  obtain ⟨ys, e⟩ := hI.allInts.items
  have hl : s.heap.IsTuple p its.toArray := ht
  rw [e] at hl
  have hys : ys.size = ns.length := by
    have h1 := congrArg Array.size e
    rw [List.size_toArray] at h1
    have h2 := IntsAre.length hI
    simp only [intItems, Array.size_map] at h1
    omega
  have hn0 : 0 < ns.length := by
    cases ns with
    | nil => exact absurd rfl hne
    | cons a l => simp
  have nat : ∀ i, i < ns.length → numAt ys i = ns.getD i 0 := by
    intro i hi
    have h1 : i < its.length := by rw [IntsAre.length hI]; exact hi
    have h2 : its[i]? = some its[i] := by simp [h1]
    obtain ⟨t, ht⟩ := IntsAre.int_at hI i _ h2
    have h3 : (intItems ys)[i]? = some its[i] := by rw [← e, List.getElem?_toArray]; exact h2
    obtain ⟨t', ht'⟩ := intItems_at h3
    rw [ht] at ht'
    injection ht' with h4 h5
    exact h4.symm
  refine call_min_walk (wpAny_pyIter_tuple hl ⟨s.heap.objs.size, _, _, _, _, _, fun i j => decide (numAt ys i < numAt ys j), rfl, Walks.tuple (A := X.A.in1) (I.ok.hd hc) _ p (Nat.ne_of_lt hpl) (intItems ys), ⟨⟨_, Heap.get?_push_size _ rfl, rfl, rfl⟩, hl.at fun o e => Heap.get?_push_of_some _ e⟩, (fun b hb => by
    rw [Heap.size_push]
    rcases List.mem_cons.mp hb with e | hb
    · rw [e]; exact Nat.lt_succ_self _
    · have e : b = p := by simpa using hb
      rw [e]; exact Nat.lt_succ_of_lt hpl), by simp only [intItems, Array.size_map]; omega, CmpOf.ints_lt (numAt ys) (fun _ _ => intItems_at), fun v h' tk hv0 hk0 => ?_⟩)
  have hv : (intItems ys)[argBest (fun i j => decide (numAt ys i < numAt ys j)) (ys.size - 1)]? = some v := by simpa [intItems] using hv0
  have hkp : ∀ b o, s.heap.get? b = some o → h'.get? b = some o := fun b o e => hk0 b o (fun z => by
    have e2 : b = s.heap.objs.size := by simpa using z
    rw [e2] at e
    exact absurd (Heap.lt_size e) (Nat.lt_irrefl _)) (Heap.get?_push_of_some _ e)
  obtain ⟨t, rfl⟩ := intItems_at hv
  obtain ⟨b1, b2⟩ := argBest_lt (numAt ys) (ys.size - 1)
  have hb : argBest (fun i j => decide (numAt ys i < numAt ys j)) (ys.size - 1) < ns.length := by
    rcases Nat.lt_or_ge (argBest (fun i j => decide (numAt ys i < numAt ys j)) (ys.size - 1)) ns.length with z | z
    · exact z
    · rw [Array.getElem?_eq_none (by simp only [intItems, Array.size_map]; omega)] at hv
      cases hv
  refine ⟨.int (numAt ys (argBest (fun i j => decide (numAt ys i < numAt ys j)) (ys.size - 1))), H, I.kept (t' := tk) hkp, ⟨_, rfl⟩, q _ ?_ fun a ha => ?_⟩
  · rw [nat _ hb]
    simp [List.getD, hb]
  · obtain ⟨j, hj, rfl⟩ := List.getElem_of_mem ha
    have := b2 j (by omega)
    rw [nat j hj] at this
    simpa [List.getD, hj] using this
end L2

open PySem
namespace Odj
def isIntD : PyData → Bool | .int _ => true | _ => false
def wholeD (lo hi : Int) : PyData → Bool
  | .int i => decide (lo ≤ i) && decide (i ≤ hi)
  | _ => false
def intOf : PyData → Int | .int i => i | _ => 0
end Odj

set_option linter.all false
open PySem
namespace Odj
def tupOf (n : Int) : PyData → Bool
  | .tuple ds => decide ((ds.length : Int) = n)
  | _ => false
def isTupD : PyData → Bool
  | .tuple _ => true
  | _ => false
end Odj

set_option Elab.async false
set_option linter.all false
set_option maxRecDepth 100000
namespace Odj
open PySem L2
def top (i : Nat) : Stmt := PySem.Challenge.pw_oddjoins_k65_oneway_webs_of_any_thing.main.body.getD i (.Pass ⟨0, 0, 0, 0⟩)
/-- the built-ins are not called otherwise -/
structure Bt (mg : Str → Option Value) : Prop where
  isinstance : mg "isinstance" = none
  int : mg "int" = none
  bool : mg "bool" = none
  tuple : mg "tuple" = none
  len : mg "len" = none
section
variable {P : Program} {w : World} {K : PySem.W.Frag} {mg : Str → Option Value} {base : Heap}
theorem kit1 (d : PyData) : PySem.W.kitOne K (.type (tyD d)) (.type "int") = some (match d with | .int _ => true | .bool _ => true | _ => false) := by
  cases d <;> rfl
theorem kit2 (d : PyData) : PySem.W.kitOne K (.type (tyD d)) (.type "bool") = some (match d with | .bool _ => true | _ => false) := by
  cases d <;> rfl
theorem kit3 (d : PyData) : PySem.W.kitOne K (.type (tyD d)) (.type "tuple") = some (match d with | .tuple _ => true | _ => false) := by
  cases d <;> rfl
end
end Odj

set_option Elab.async false
set_option linter.all false
set_option maxRecDepth 100000
namespace Odj
open PySem L2
def spIsWhole : Sp := fun vs H Q _ => ∃ S d v, vs = [v] ∧ Rep S H d v ∧ Q (.bl (isIntD d)) H
section
variable {P : Program} {w : World} {K : PySem.W.Frag} {mg : Str → Option Value} {base : Heap} {f : Addr} {fd : FuncData}
theorem d_is_whole (F : Fun K "is_whole" "is_whole" (top 1) f fd) (hm : mg "is_whole" = some (.ref f)) (B : Bt mg) : DefOk P w K mg base 1 "is_whole" ["thing"] spIsWhole := by
  refine ⟨f, fd, ?_, hm, F.kp, F.binds fun _ _ _ _ _ _ us hl => match us, hl with | [_], _ => rfl⟩
  have sc : FnScope ["thing"] ["thing"] (defScope (top 1)) := ⟨rfl, rfl, rfl, by decide +kernel, rfl, by decide +kernel, by decide +kernel⟩
  refine F.okQ sc (fun vs H Q E h => ?_) (fun cdv A outer s H vs Q E hr h => ?_)
  · obtain ⟨S, d, v, rfl, _⟩ := h
    rfl
  · obtain ⟨S, d, v, rfl, rp, q⟩ := h
    refine ⟨_, (qss_one (qs_ret (qe_and (qe_callB call_isi (by rfl) B.isinstance (by decide +kernel) (qa_c (qv 0) (qa_c (qe_ty "int" (by rfl) B.int (by decide +kernel)) qa_nil))) (qe_one (qe_not (qe_callB call_isi (by rfl) B.isinstance (by decide +kernel) (qa_c (qv 0) (qa_c (qe_ty "bool" (by rfl) B.bool (by decide +kernel)) qa_nil)))))))), ?_⟩
    refine ⟨v, rfl, v, _, _, _, rfl, rp.ty, kit1 d, _, rfl, ?_⟩
    cases d with
    | int i => exact iteT ⟨v, rfl, v, _, _, _, rfl, rp.ty, kit2 _, _, rfl, q⟩
    | bool b => exact iteT ⟨v, rfl, v, _, _, _, rfl, rp.ty, kit2 _, _, rfl, q⟩
    | _ => exact iteF q
end
end Odj

set_option Elab.async false
set_option linter.all false
set_option maxRecDepth 100000
namespace L2
open PySem
theorem DGet.f {H : Hp} {a : Addr} {kvs : List (Key × V)} {k : Str} {v : V} (e : H a = some (.dK kvs)) (h : valV kvs (.inr k) = some v) : DGet H a (.str k) (some v) := .inl ⟨kvs, .inr k, .inl e, rfl, h.symm⟩
theorem Ext.setD {S : List Addr} {H : Hp} {p : Addr} {o : HO} {kvs : List (Key × V)} (hp : p ∈ S) (h : H p = some (.dK kvs)) : Ext S H (upd H p o) :=
  ⟨fun b u hb e => by rw [upd_ne (fun (z : b = p) => hb (by rw [z]; exact hp))]; exact e, fun b xs e => by rw [upd_ne (fun z => by rw [z, h] at e; cases e)]; exact e⟩
theorem Ext.setD' {S : List Addr} {H0 H : Hp} {p : Addr} {o : HO} {kvs : List (Key × V)} (a : Ext S H0 H) (h0 : H0 p = none) (h : H p = some (.dK kvs)) : Ext S H0 (upd H p o) :=
  ⟨fun b u hb e => by rw [upd_ne (fun z => by rw [z, h0] at e; cases e)]; exact a.keep b u hb e, fun b ys e => by rw [upd_ne (fun z => by rw [z, h0] at e; cases e)]; exact a.tup b ys e⟩
theorem SqL.new {K : PySem.W.Frag} {H : Hp} {a p : Addr} {xs : List V} {o : HO} (h : SqL K H a xs) (hp : H p = none) : SqL K (upd H p o) a xs := by
  rcases h with h | h
  · refine .inl ?_
    rcases h with h | ⟨u, h⟩
    · exact .inl (by rw [upd_ne (ne_of_none h hp)]; exact h)
    · exact .inr ⟨u, by rw [upd_ne (ne_of_none h hp)]; exact h⟩
  · exact .inr h
end L2
namespace Odj
open PySem L2
def feedKV (sa : Addr) (i c n : Int) : List (Key × V) := [(.inr "script", .ref sa), (.inr "at", .int i), (.inr "left", .int c), (.inr "turn", .int n)]
section
variable {H : Hp} {fa sa : Addr} {i c n m : Int}
theorem dg_script (e : H fa = some (.dK (feedKV sa i c n))) : DGet H fa (.str "script") (some (.ref sa)) := .f e rfl
theorem dg_at (e : H fa = some (.dK (feedKV sa i c n))) : DGet H fa (.str "at") (some (.int i)) := .f e rfl
theorem dg_left (e : H fa = some (.dK (feedKV sa i c n))) : DGet H fa (.str "left") (some (.int c)) := .f e rfl
theorem dg_turn (e : H fa = some (.dK (feedKV sa i c n))) : DGet H fa (.str "turn") (some (.int n)) := .f e rfl
theorem dp_at (e : H fa = some (.dK (feedKV sa i c n))) : DPut H fa (.str "at") (.int m) (upd H fa (.dK (feedKV sa m c n))) := .inl ⟨_, .inr "at", e, rfl, by show 4 < sizeLine; decide, rfl⟩
theorem dp_left (e : H fa = some (.dK (feedKV sa i c n))) : DPut H fa (.str "left") (.int m) (upd H fa (.dK (feedKV sa i m n))) := .inl ⟨_, .inr "left", e, rfl, by show 4 < sizeLine; decide, rfl⟩
theorem dp_turn (e : H fa = some (.dK (feedKV sa i c n))) : DPut H fa (.str "turn") (.int m) (upd H fa (.dK (feedKV sa i c m))) := .inl ⟨_, .inr "turn", e, rfl, by show 4 < sizeLine; decide, rfl⟩
end
/-- the feed at fa, its script at sa, asked n times so far -/
structure Feed (H : Hp) (fa sa : Addr) (n : Int) : Prop where
  ex : ∃ (ns : List Int) (i c : Int), H fa = some (.dK (feedKV sa i c n)) ∧ H sa = some (.lst (ns.map V.int))
  ne : sa ≠ fa
  lo : 0 ≤ n
theorem Feed.ext {S : List Addr} {H H' : Hp} {fa sa : Addr} {n : Int} (f : Feed H fa sa n) (x : Ext S H H') (h1 : fa ∉ S) (h2 : sa ∉ S) : Feed H' fa sa n := by
  obtain ⟨ns, i, c, e1, e2⟩ := f.ex
  exact ⟨⟨ns, i, c, x.keep _ _ h1 e1, x.keep _ _ h2 e2⟩, f.ne, f.lo⟩
theorem Feed.put {H : Hp} {fa sa : Addr} {n : Int} (f : Feed H fa sa n) (i c n' : Int) (h : 0 ≤ n') : Feed (upd H fa (.dK (feedKV sa i c n'))) fa sa n' ∧ Ext [fa] H (upd H fa (.dK (feedKV sa i c n'))) := by
  obtain ⟨ns, i0, c0, e1, e2⟩ := f.ex
  exact ⟨⟨⟨ns, i, c, upd_same, by rw [upd_ne f.ne]; exact e2⟩, f.ne, h⟩, .setD (by simp) e1⟩
theorem Feed.has {H : Hp} {fa sa : Addr} {n : Int} (f : Feed H fa sa n) {l : Addr} (h : H l = none) : l ≠ fa ∧ l ≠ sa := by
  obtain ⟨ns, i, c, e1, e2⟩ := f.ex
  exact ⟨(ne_of_none e1 h).symm, (ne_of_none e2 h).symm⟩
end Odj

set_option Elab.async false
set_option linter.all false
set_option maxRecDepth 100000
namespace Odj
open PySem L2
/-- the feed at fa, its script at sa, asked n times so far -/
def most : Int := 1099511627776
/-- a draw below many -/
def spDraw : Sp := fun vs H Q _ => ∃ (fa sa : Addr) (n many : Int), vs = [.ref fa, .int many] ∧ Feed H fa sa n ∧ 0 < many ∧ many < 1073741824 ∧ n < most ∧
  ∀ (r : Int) (H' : Hp), 0 ≤ r → r < many → Feed H' fa sa (n + 1) → Ext [fa] H H' → Q (.int r) H'
theorem canLay_ints (ns : List Int) : PyData.canLayAll0 (ns.map PyData.int) = true := by
  induction ns with
  | nil => rfl
  | cons n ns ih => simpa [PyData.canLayAll0, PyData.canLay0] using ih
theorem depth_ints (ns : List Int) : PyData.depthAll (ns.map PyData.int) = 0 := by
  induction ns with
  | nil => rfl
  | cons n ns ih => simpa [PyData.depthAll, PyData.depth] using ih
section
variable {P : Program} {w : World} {K : PySem.W.Frag} {mg : Str → Option Value} {base : Heap} {f : Addr} {fd : FuncData}
end
end Odj

set_option Elab.async false
set_option linter.all false
set_option maxRecDepth 100000
set_option maxHeartbeats 4000000
namespace Odj
open PySem L2
/-- a web's own shape -/
def webD (many : Int) (ts : List PyData) : PyData := .tuple [.int many, .tuple ts]
def spWhole : Sp := fun vs H Q _ => ∃ S d v lo hi, vs = [v, .int lo, .int hi] ∧ Rep S H d v ∧ Q (.bl (wholeD lo hi d)) H
theorem web_of {S : List Addr} {H : Hp} {many : Int} {ts : List PyData} {v : V} (h : Rep S H (webD many ts) v) : ∃ a t xs, v = .ref a ∧ H a = some (.tup [.int many, .ref t]) ∧ H t = some (.tup xs) ∧ Reps S H ts xs := by
  obtain ⟨a, xs, e, ha, r⟩ := h.of_tup
  obtain ⟨x, r1, e1, h1, h2⟩ := r.of_cons
  obtain ⟨y, r2, e2, h3, h4⟩ := h2.of_cons
  have e3 := h4.of_nil
  have e4 := h1.of_int
  subst e1 e2 e3 e4
  obtain ⟨t, ys, e5, ht, h5⟩ := h3.of_tup
  subst e5
  exact ⟨a, t, ys, e, ha, ht, h5⟩
def spFeed (K : PySem.W.Frag) : Sp := fun vs H Q _ => ∃ (a : Addr) (ns : List Int), vs = [.ref a] ∧ SqL K H a (ns.map V.int) ∧ ∀ (fa sa : Addr) (H' : Hp), Feed H' fa sa 0 → Ext [] H H' → H fa = none → H sa = none → Q (.ref fa) H'
section
variable {P : Program} {w : World} {K : PySem.W.Frag} {mg : Str → Option Value} {base : Heap} {f : Addr} {fd : FuncData}
end
end Odj

set_option Elab.async false
set_option linter.all false
set_option maxRecDepth 100000
set_option maxHeartbeats 4000000
namespace L2
open PySem
/-! ### comprehensions by a word -/
section
variable {mp : List (Option Nat)} {g : TG} {tc : TT} {te : TE} {σ : St} {H : Hp} {R : List V → Hp → Prop}
theorem comp_range {lo : Int} {n : Nat} (Pv : Nat → List V → St → Hp → Prop) (h0 : Pv 0 [] (seed mp σ) H)
    (hs : ∀ i ys σ' H', i < n → Pv i ys σ' H' → ys.length < sizeLine ∧ g (.int (lo + i)) σ' H' fun σ2 H2 => tc σ2 H2 fun b H3 => if b = true then te σ2 H3 fun y H4 => Pv (i + 1) (ys ++ [y]) σ2 H4 else Pv (i + 1) ys σ2 H3)
    (hd : ∀ ys σ' H', Pv n ys σ' H' → ys.length ≤ sizeLine ∧ R ys H') :
    ∃ W : Nat → Nat → List V → St → Hp → Prop, (∃ m, W 0 m [] (seed mp σ) H) ∧ ∀ i m ys σ' H', W i m ys σ' H' →
      ((Itr lo n).stop i H' ∧ ys.length ≤ sizeLine ∧ R ys H') ∨
      ((Itr lo n).go i H' ∧ ys.length < sizeLine ∧ ∀ x H'', (Itr lo n).yld i H' x H'' → g x σ' H'' fun σ2 H2 => tc σ2 H2 fun b H3 =>
        if b = true then te σ2 H3 fun y H4 => ∃ m', m' < m ∧ W (i + 1) m' (ys ++ [y]) σ2 H4 else ∃ m', m' < m ∧ W (i + 1) m' ys σ2 H3) := by
  refine ⟨fun i m ys σ H => m = n - i ∧ i ≤ n ∧ Pv i ys σ H, ⟨n, by simp, Nat.zero_le _, h0⟩, ?_⟩
  rintro i m ys σ' H' ⟨rfl, hi, p⟩
  by_cases hlt : i < n
  · obtain ⟨hl, q⟩ := hs i ys σ' H' hlt p
    refine .inr ⟨hlt, hl, fun x H'' y => ?_⟩
    obtain ⟨e, y⟩ := y
    subst e y
    have e : ∀ ys σ H, (∃ m', m' < n - i ∧ m' = n - (i + 1) ∧ i + 1 ≤ n ∧ Pv (i + 1) ys σ H) = Pv (i + 1) ys σ H := fun ys σ H => propext ⟨fun ⟨_, _, _, _, z⟩ => z, fun z => ⟨_, by omega, rfl, hlt, z⟩⟩
    simp only [e]
    exact q
  · have e : i = n := by omega
    subst e
    obtain ⟨hl, q⟩ := hd ys σ' H' p
    exact .inl ⟨Nat.le_refl _, hl, q⟩
theorem comp_tup {K : PySem.W.Frag} {a : Addr} {xs : List V} (Pv : Nat → List V → St → Hp → Prop) (h0 : Pv 0 [] (seed mp σ) H) (hl : ∀ i ys σ' H', Pv i ys σ' H' → SqT K H' a xs)
    (hs : ∀ i x ys σ' H', xs[i]? = some x → Pv i ys σ' H' → ys.length < sizeLine ∧ g x σ' H' fun σ2 H2 => tc σ2 H2 fun b H3 => if b = true then te σ2 H3 fun y H4 => Pv (i + 1) (ys ++ [y]) σ2 H4 else Pv (i + 1) ys σ2 H3)
    (hd : ∀ ys σ' H', Pv xs.length ys σ' H' → ys.length ≤ sizeLine ∧ R ys H') :
    ∃ W : Nat → Nat → List V → St → Hp → Prop, (∃ m, W 0 m [] (seed mp σ) H) ∧ ∀ i m ys σ' H', W i m ys σ' H' →
      ((Itt K a).stop i H' ∧ ys.length ≤ sizeLine ∧ R ys H') ∨
      ((Itt K a).go i H' ∧ ys.length < sizeLine ∧ ∀ x H'', (Itt K a).yld i H' x H'' → g x σ' H'' fun σ2 H2 => tc σ2 H2 fun b H3 =>
        if b = true then te σ2 H3 fun y H4 => ∃ m', m' < m ∧ W (i + 1) m' (ys ++ [y]) σ2 H4 else ∃ m', m' < m ∧ W (i + 1) m' ys σ2 H3) := by
  refine ⟨fun i m ys σ H => m = xs.length - i ∧ i ≤ xs.length ∧ Pv i ys σ H, ⟨xs.length, by simp, Nat.zero_le _, h0⟩, ?_⟩
  rintro i m ys σ' H' ⟨rfl, hi, p⟩
  have q0 := hl i ys σ' H' p
  by_cases hlt : i < xs.length
  · have e : ∀ ys σ H, (∃ m', m' < xs.length - i ∧ m' = xs.length - (i + 1) ∧ i + 1 ≤ xs.length ∧ Pv (i + 1) ys σ H) = Pv (i + 1) ys σ H := fun ys σ H => propext ⟨fun ⟨_, _, _, _, z⟩ => z, fun z => ⟨_, by omega, rfl, hlt, z⟩⟩
    have hx : xs[i]? = some xs[i] := by simp [hlt]
    refine .inr ⟨⟨xs, xs[i], q0, hx⟩, (hs i _ ys σ' H' hx p).1, fun x H'' y => ?_⟩
    obtain ⟨e1, y⟩ := y
    subst e1
    simp only [e]
    exact (hs i x ys σ' _ (y xs q0) p).2
  · have e : i = xs.length := by omega
    subst e
    obtain ⟨hl, q⟩ := hd ys σ' H' p
    exact .inl ⟨⟨xs, q0, Nat.le_refl _⟩, hl, q⟩
end
end L2
namespace Odj
open PySem L2
structure Bt2 (mg : Str → Option Value) : Prop where
  range : mg "range" = none
section
variable {P : Program} {w : World} {K : PySem.W.Frag} {mg : Str → Option Value} {base : Heap} {f : Addr} {fd : FuncData}
end
end Odj

set_option Elab.async false
set_option linter.all false
set_option maxRecDepth 100000
set_option maxHeartbeats 4000000
namespace Odj
open PySem L2
theorem truN {i : Nat} {x : V} {σ : St} {H : Hp} {A B : St → Hp → Prop} (h : A (σ.set i (some x)) H) : gName i x σ H fun σ2 H2 => tTrue σ2 H2 fun b H3 => if b = true then A σ2 H3 else B σ2 H3 := by
  show if true = true then A (σ.set i (some x)) H else B (σ.set i (some x)) H
  exact iteT h
def lenD : PyData → Nat
  | .tuple ds => ds.length
  | _ => 0
theorem int_at {S : List Addr} {H : Hp} {ds : List PyData} {xs : List V} {lo hi : Int} (r : Reps S H ds xs) (hw : ds.all (wholeD lo hi) = true) {i : Nat} (h : i < ds.length) : xs[i]? = some (.int (intOf (ds.getD i .none))) := by
  have e : ds[i]? = some ds[i] := by simp [h]
  obtain ⟨x, hx, rx⟩ := r.at e
  have hm : wholeD lo hi ds[i] = true := List.all_eq_true.mp hw _ (List.getElem_mem h)
  rw [hx, List.getD_eq_getElem?_getD, e]
  generalize ds[i] = d at hm rx
  cases d with
  | int z => rw [rx.of_int]; rfl
  | _ => cases hm
section
variable {P : Program} {w : World} {K : PySem.W.Frag} {mg : Str → Option Value} {base : Heap} {f : Addr} {fd : FuncData}
end
end Odj

set_option Elab.async false
set_option linter.all false
set_option maxRecDepth 100000
set_option maxHeartbeats 8000000
namespace Odj
open PySem L2
abbrev Tie := Int × Int × Int
def tieD (t : Tie) : PyData := .tuple [.int t.1, .int t.2.1, .int t.2.2]
structure TieOk (many : Int) (t : Tie) : Prop where
  a0 : 0 ≤ t.1
  ab : t.1 < t.2.1
  bm : t.2.1 < many
  p0 : -99 ≤ t.2.2
  p1 : t.2.2 ≤ 99
/-- ties stand so in H, whatever lists change -/
def Ties (H : Hp) (ts : List Tie) (xs : List V) : Prop := ∀ S, Reps S H (ts.map tieD) xs
theorem Ties.ext {S : List Addr} {H H' : Hp} {ts : List Tie} {xs : List V} (h : Ties H ts xs) (x : Ext S H H') : Ties H' ts xs := fun S' => ((h (S' ++ S)).ext (x.mono fun b hb => List.mem_append_right _ hb)).less fun b hb => List.mem_append_left _ hb
theorem Ties.nil {H : Hp} : Ties H [] [] := fun _ => .nil
theorem Ties.append {H : Hp} {ts us : List Tie} {xs ys : List V} (h : Ties H ts xs) (k : Ties H us ys) : Ties H (ts ++ us) (xs ++ ys) := fun S => by rw [List.map_append]; exact (h S).append (k S)
theorem Ties.one {H : Hp} {t : Tie} {p : Addr} (h : H p = some (.tup [.int t.1, .int t.2.1, .int t.2.2])) : Ties H [t] [.ref p] := fun S => .cons (.tup h (.cons (.int _) (.cons (.int _) (.cons (.int _) .nil)))) .nil
theorem Ties.take {H : Hp} {ts : List Tie} {xs : List V} (h : Ties H ts xs) (n : Nat) : Ties H (ts.take n) (xs.take n) := fun S => by rw [List.map_take]; exact (h S).take n
theorem Ties.drop {H : Hp} {ts : List Tie} {xs : List V} (h : Ties H ts xs) (n : Nat) : Ties H (ts.drop n) (xs.drop n) := fun S => by rw [List.map_drop]; exact (h S).drop n
theorem Ties.length {H : Hp} {ts : List Tie} {xs : List V} (h : Ties H ts xs) : xs.length = ts.length := by have := (h []).length; rw [List.length_map] at this; exact this
theorem Ties.at {H : Hp} {ts : List Tie} {xs : List V} (h : Ties H ts xs) {i : Nat} {x : V} (hx : xs[i]? = some x) : ∃ t, ts[i]? = some t ∧ Ties H [t] [x] := by
  have hi : i < xs.length := (List.getElem?_eq_some_iff.mp hx).1
  have hi' : i < ts.length := by rw [← h.length]; exact hi
  refine ⟨ts[i], by simp [hi'], fun S => ?_⟩
  obtain ⟨d, hd, r⟩ := (h S).get hx
  rw [List.getElem?_map] at hd
  have : ts[i]? = some ts[i] := by simp [hi']
  rw [this] at hd
  have hd' : tieD ts[i] = d := Option.some.inj hd
  subst hd'
  exact .cons r .nil
/-- the list of ties under work: at l, new since H0 -/
structure Found (H0 H : Hp) (fa sa l : Addr) (many : Int) (ts : List Tie) : Prop where
  ex : ∃ xs, H l = some (.lst xs) ∧ Ties H ts xs
  ok : ∀ t ∈ ts, TieOk many t
  nf : l ≠ fa
  ns : l ≠ sa
  new : H0 l = none
  ext : Ext [fa] H0 H
section
variable {H0 H H' : Hp} {fa sa l : Addr} {many n : Int} {ts : List Tie}
theorem Found.step (f : Found H0 H fa sa l many ts) (x : Ext [fa] H H') : Found H0 H' fa sa l many ts := by
  obtain ⟨xs, h1, h2⟩ := f.ex
  exact ⟨⟨xs, x.keep _ _ (by simpa using f.nf) h1, h2.ext x⟩, f.ok, f.nf, f.ns, f.new, f.ext.trans x⟩
theorem Found.set (f : Found H0 H fa sa l many ts) {ys : List V} {us : List Tie} (h : Ties H us ys) (hk : ∀ t ∈ us, TieOk many t) : Found H0 (upd H l (.lst ys)) fa sa l many us := by
  obtain ⟨xs, h1, h2⟩ := f.ex
  exact ⟨⟨ys, upd_same, h.ext (.set (S := [l]) (by simp) h1)⟩, hk, f.nf, f.ns, f.new, f.ext.set' f.new h1⟩
theorem Found.feed (f : Found H0 H fa sa l many ts) (fe : Feed H fa sa n) {o : HO} : Feed (upd H l o) fa sa n := by
  obtain ⟨xs, h1, _⟩ := f.ex
  exact fe.ext (.set (S := [l]) (by simp) h1) (by simpa using f.nf.symm) (by simpa using f.ns.symm)
end
section
variable {P : Program} {w : World} {K : PySem.W.Frag} {mg : Str → Option Value} {base : Heap} {f : Addr} {fd : FuncData}
end
end Odj

set_option Elab.async false
set_option linter.all false
set_option maxRecDepth 100000
set_option maxHeartbeats 8000000
namespace L2
open PySem
section
variable {mp : List (Option Nat)} {g : TG} {tc : TT} {te : TE} {σ : St} {H : Hp} {R : List V → Hp → Prop}
theorem erase_perm {α : Type} : ∀ {l : List α} {i : Nat} (h : i < l.length), (l[i] :: l.eraseIdx i).Perm l
  | a :: l, 0, _ => List.Perm.refl _
  | a :: l, i + 1, h => by
    have h' : i < l.length := by simpa using h
    exact (List.Perm.swap a l[i] (l.eraseIdx i)).trans ((erase_perm h').cons a)
theorem nodup_at {α : Type} : ∀ {l : List α}, l.Nodup → ∀ {i j : Nat} {x : α}, l[i]? = some x → l[j]? = some x → i = j
  | [], _, i, j, x, h, _ => by cases h
  | a :: l, hn, 0, 0, x, _, _ => rfl
  | a :: l, hn, 0, j + 1, x, h1, h2 => by
    rw [List.nodup_cons] at hn
    have e : a = x := by simpa using h1
    have h2' : l[j]? = some x := by simpa using h2
    exact absurd (e ▸ List.mem_of_getElem? h2') hn.1
  | a :: l, hn, i + 1, 0, x, h1, h2 => by
    rw [List.nodup_cons] at hn
    have e : a = x := by simpa using h2
    have h1' : l[i]? = some x := by simpa using h1
    exact absurd (e ▸ List.mem_of_getElem? h1') hn.1
  | a :: l, hn, i + 1, j + 1, x, h1, h2 => by
    rw [List.nodup_cons] at hn
    rw [nodup_at hn.2 (i := i) (j := j) (by simpa using h1) (by simpa using h2)]
end
end L2
namespace Odj
open PySem L2
structure WideOk (many : Int) (t : Tie) : Prop where
  a0 : 0 ≤ t.1
  ab : t.1 < t.2.1
  bm : t.2.1 < many
  p0 : -99 ≤ t.2.2
  p1 : t.2.2 ≤ 99
def PairsIn (many : Int) (H : Hp) (ys : List V) : Prop := ∀ y ∈ ys, ∃ p a b, y = V.ref p ∧ H p = some (.tup [.int a, .int b]) ∧ 0 ≤ a ∧ a < many ∧ 0 ≤ b ∧ b < many ∧ a ≠ b
theorem PairsIn.ext {S : List Addr} {many : Int} {H H' : Hp} {ys : List V} (h : PairsIn many H ys) (x : Ext S H H') : PairsIn many H' ys := fun y hy => let ⟨p, a, b, e, hp, r⟩ := h y hy; ⟨p, a, b, e, x.tup _ _ hp, r⟩
theorem PairsIn.snoc {many : Int} {H : Hp} {ys : List V} (h : PairsIn many H ys) {p : Addr} {a b : Int} (hp : H p = some (.tup [.int a, .int b])) (a0 : 0 ≤ a) (a1 : a < many) (b0 : 0 ≤ b) (b1 : b < many) (ne : a ≠ b) : PairsIn many H (ys ++ [.ref p]) := fun y hy => by
  rcases List.mem_append.mp hy with z | z
  · exact h y z
  · exact ⟨p, a, b, by simpa using z, hp, a0, a1, b0, b1, ne⟩
structure Bt3 (mg : Str → Option Value) : Prop where
  list : mg "list" = none
  min : mg "min" = none
  max : mg "max" = none
section
variable {P : Program} {w : World} {K : PySem.W.Frag} {mg : Str → Option Value} {base : Heap} {f : Addr} {fd : FuncData}
end
end Odj

set_option Elab.async false
set_option linter.all false
set_option maxRecDepth 100000
set_option maxHeartbeats 8000000
namespace Odj
open PySem L2
/-! ### data with small leaves -/
mutual
def Gd (B : Nat) : PyData → Prop
  | .none => True
  | .bool _ => True
  | .int i => i.natAbs ≤ B
  | .str x => (∀ c ∈ x.cps.toList, c < 1114112) ∧ x.cps.size ≤ 60
  | .tuple ds => GdL B ds
  | .list ds => GdL B ds
  | .dict _ => False
def GdL (B : Nat) : List PyData → Prop
  | [] => True
  | d :: ds => Gd B d ∧ GdL B ds
end
theorem gdl_iff {B : Nat} : ∀ {ds : List PyData}, GdL B ds ↔ ∀ d ∈ ds, Gd B d
  | [] => by simp [GdL]
  | d :: ds => by simp [GdL, gdl_iff (ds := ds)]
mutual
theorem gd_mono {B C : Nat} (h : B ≤ C) : ∀ d : PyData, Gd B d → Gd C d
  | .none, _ => by simp [Gd]
  | .bool _, _ => by simp [Gd]
  | .int i, g => by simp only [Gd] at g ⊢; omega
  | .str x, g => by simp only [Gd] at g ⊢; exact g
  | .tuple ds, g => by simp only [Gd] at g ⊢; exact gdl_mono h ds g
  | .list ds, g => by simp only [Gd] at g ⊢; exact gdl_mono h ds g
  | .dict _, g => by simp only [Gd] at g
theorem gdl_mono {B C : Nat} (h : B ≤ C) : ∀ ds : List PyData, GdL B ds → GdL C ds
  | [], _ => by simp [GdL]
  | d :: ds, g => by simp only [GdL] at g ⊢; exact ⟨gd_mono h d g.1, gdl_mono h ds g.2⟩
end
theorem big50 : (10 : Nat) ^ 50 < 2 ^ 1920 := by decide +kernel
mutual
theorem gd_lay : ∀ d : PyData, Gd (10 ^ 50) d → d.canLay0 = true ∧ d.showable = true ∧ d.leavesShort 60 = true
  | .none, _ => ⟨rfl, rfl, rfl⟩
  | .bool _, _ => ⟨rfl, rfl, rfl⟩
  | .int i, g => by
    simp only [Gd] at g
    refine ⟨rfl, ?_, ?_⟩
    · simp only [PyData.showable, decide_eq_true_eq]
      by_cases h : i.natAbs = 0
      · rw [h]; decide
      · exact (Nat.log2_lt h).mpr (Nat.lt_of_le_of_lt g big50)
    · simp only [PyData.leavesShort, decide_eq_true_eq]
      have e := int_text_length_le10 (k := 51) (by decide) (Nat.lt_of_le_of_lt g (by decide +kernel : (10 : Nat) ^ 50 < 10 ^ 51))
      show (Str.ofString (toString i)).length ≤ 60
      rw [ofString_length]
      omega
  | .str x, g => by
    simp only [Gd] at g
    refine ⟨?_, rfl, ?_⟩
    · show PyData.strOk x = true
      unfold PyData.strOk
      rw [Array.all_eq_true']
      intro c hc
      exact decide_eq_true (g.1 c (by simpa using hc))
    · simp only [PyData.leavesShort, List.all_eq_true, decide_eq_true_eq]
      intro c hc
      exact Nat.lt_of_lt_of_le (g.1 c hc) (by decide)
  | .tuple ds, g => by simp only [Gd] at g; simpa only [PyData.canLay0, PyData.showable, PyData.leavesShort] using gdl_lay ds g
  | .list ds, g => by simp only [Gd] at g; simpa only [PyData.canLay0, PyData.showable, PyData.leavesShort] using gdl_lay ds g
  | .dict _, g => by simp only [Gd] at g
theorem gdl_lay : ∀ ds : List PyData, GdL (10 ^ 50) ds → PyData.canLayAll0 ds = true ∧ PyData.showableAll ds = true ∧ PyData.leavesShortAll 60 ds = true
  | [], _ => ⟨rfl, rfl, rfl⟩
  | d :: ds, g => by
    simp only [GdL] at g
    obtain ⟨a1, a2, a3⟩ := gd_lay d g.1
    obtain ⟨b1, b2, b3⟩ := gdl_lay ds g.2
    simp only [PyData.canLayAll0, PyData.showableAll, PyData.leavesShortAll, a1, a2, a3, b1, b2, b3]
    exact ⟨rfl, rfl, rfl⟩
end
theorem good_of {d : PyData} (g : Gd (10 ^ 50) d) (hd : d.depth ≤ 60) (hw : d.weight ≤ 200000) : Good d := ⟨(gd_lay d g).1, (gd_lay d g).2.1, (gd_lay d g).2.2, hd, hw⟩
theorem wA_append : ∀ xs ys : List PyData, PyData.weightAll (xs ++ ys) = PyData.weightAll xs + PyData.weightAll ys
  | [], ys => by simp [PyData.weightAll]
  | x :: xs, ys => by simp only [List.cons_append, PyData.weightAll, wA_append xs ys]; omega
theorem dA_append : ∀ xs ys : List PyData, PyData.depthAll (xs ++ ys) = max (PyData.depthAll xs) (PyData.depthAll ys)
  | [], ys => by simp [PyData.depthAll]
  | x :: xs, ys => by simp only [List.cons_append, PyData.depthAll, dA_append xs ys]; omega
theorem wA_split (xs : List PyData) (n : Nat) : PyData.weightAll xs = PyData.weightAll (xs.take n) + PyData.weightAll (xs.drop n) := by rw [← wA_append, List.take_append_drop]
theorem dA_split (xs : List PyData) (n : Nat) : PyData.depthAll xs = max (PyData.depthAll (xs.take n)) (PyData.depthAll (xs.drop n)) := by rw [← dA_append, List.take_append_drop]
theorem wA_rev : ∀ xs : List PyData, PyData.weightAll xs.reverse = PyData.weightAll xs
  | [] => rfl
  | x :: xs => by rw [List.reverse_cons, wA_append, wA_rev xs]; simp only [PyData.weightAll]; omega
theorem dA_rev : ∀ xs : List PyData, PyData.depthAll xs.reverse = PyData.depthAll xs
  | [] => rfl
  | x :: xs => by rw [List.reverse_cons, dA_append, dA_rev xs]; simp only [PyData.depthAll]; omega
theorem len_wA : ∀ xs : List PyData, xs.length ≤ PyData.weightAll xs
  | [] => Nat.le_refl _
  | x :: xs => by have := len_wA xs; simp only [List.length_cons, PyData.weightAll]; omega
theorem w_int {i : Int} {k : Nat} (h : i.natAbs < 2 ^ k) : PyData.weight (.int i) ≤ k := by
  simp only [PyData.weight]
  split
  · omega
  · rename_i hne
    have : i.natAbs ≠ 0 := fun z => hne (by simp; omega)
    have := (Nat.log2_lt this).mpr h
    omega
section
variable {P : Program} {w : World} {K : PySem.W.Frag} {mg : Str → Option Value} {base : Heap} {f : Addr} {fd : FuncData}
end
end Odj

set_option Elab.async false
set_option linter.all false
set_option maxRecDepth 100000
set_option maxHeartbeats 8000000
namespace L2
open PySem
/-! ### rules by data -/
def cutL {α : Type} (xs : List α) (lo hi : Option Int) : List α := (xs.drop (HT.sIx xs.length 0 lo)).take (HT.sIx xs.length xs.length hi - HT.sIx xs.length 0 lo)
theorem cutL_to {α : Type} (xs : List α) (k : Int) (h : 0 ≤ k) : cutL xs none (some k) = xs.take k.toNat := by
  unfold cutL
  rw [show k = ((k.toNat : Nat) : Int) by omega, HT.sIx_nat, HT.sIx_none]
  simp only [List.drop_zero, Nat.sub_zero, Int.toNat_natCast]
  by_cases hc : k.toNat ≤ xs.length
  · rw [Nat.min_eq_left hc]
  · rw [Nat.min_eq_right (by omega), List.take_of_length_le (Nat.le_refl _), List.take_of_length_le (by omega)]
theorem cutL_from {α : Type} (xs : List α) (k : Int) (h : 0 ≤ k) : cutL xs (some k) none = xs.drop k.toNat := by
  unfold cutL
  rw [show k = ((k.toNat : Nat) : Int) by omega, HT.sIx_nat, HT.sIx_none]
  simp only [Int.toNat_natCast]
  by_cases hc : k.toNat ≤ xs.length
  · rw [Nat.min_eq_left hc, List.take_of_length_le (by rw [List.length_drop]; exact Nat.le_refl _)]
  · rw [Nat.min_eq_right (by omega), List.drop_of_length_le (Nat.le_refl _), List.drop_of_length_le (by omega)]
    simp
section
variable {K : PySem.W.Frag} {S : List Addr} {H : Hp} {ds es : List PyData} {v u : V} {Q : VK}
theorem sl_rep {lo hi : Option Int} (r : Rep S H (.tuple ds) v) (q : ∀ v' H', Ext [] H H' → Rep S H' (.tuple (cutL ds lo hi)) v' → Q v' H') : rSlTA K v lo hi H Q := by
  obtain ⟨a, xs, rfl, ha, rs⟩ := r.of_tup
  have hc : Reps S H (cutL ds lo hi) (cutV xs lo hi) := by
    unfold cutL cutV
    rw [rs.length]
    exact (rs.drop _).take _
  refine ⟨a, xs, rfl, SqT.of ha, fun e => q _ _ (.refl _ _) (.tup ha (e ▸ hc)), fun p hp => q _ _ (.new hp) (.tup upd_same (hc.ext (.new hp)))⟩
theorem cat_rep (r1 : Rep S H (.tuple ds) v) (r2 : Rep S H (.tuple es) u) (hz : ds.length + es.length ≤ sizeLine) (q : ∀ v' H', Ext [] H H' → Rep S H' (.tuple (ds ++ es)) v' → Q v' H') : rCatA K v u H Q := by
  obtain ⟨a, xs, rfl, ha, rs⟩ := r1.of_tup
  obtain ⟨b, ys, rfl, hb, rt⟩ := r2.of_tup
  have hc := rs.append rt
  refine ⟨a, b, xs, ys, rfl, rfl, SqT.of ha, SqT.of hb, by rw [rs.length, rt.length]; exact hz, fun e => q _ _ (.refl _ _) (.tup hb (by subst e; exact hc)), fun e => q _ _ (.refl _ _) (.tup ha (by subst e; simpa using hc)), fun p hp => q _ _ (.new hp) (.tup upd_same (hc.ext (.new hp)))⟩
theorem ix_rep {i : Int} (r : Rep S H (.tuple ds) v) (h0 : 0 ≤ i) (h1 : i < ds.length) (q : ∀ d x, ds[i.toNat]? = some d → Rep S H d x → Q x H) : rIxT K v (.int i) H Q := by
  obtain ⟨a, xs, rfl, ha, rs⟩ := r.of_tup
  obtain ⟨x, e1, e2⟩ := atI_ex (xs := xs) h0 (by rw [rs.length]; exact h1)
  obtain ⟨d, hd, rd⟩ := rs.get e2
  exact ⟨a, xs, i, x, rfl, rfl, SqT.of ha, e1, q d x hd rd⟩
end
end L2
namespace Odj
open PySem L2
structure Bt4 (mg : Str → Option Value) : Prop where
  str : mg "str" = none
theorem ofString_ok (s : String) : ∀ c ∈ (Str.ofString s).cps.toList, c < 1114112 := by
  intro c hc
  rw [Str.ofString_eq_toList] at hc
  simp only [List.mem_map] at hc
  obtain ⟨ch, _, rfl⟩ := hc
  have := ch.valid
  rcases this with h | ⟨_, h⟩
  · exact Nat.lt_trans h (by decide)
  · exact h
theorem gdl_take {B : Nat} {ds : List PyData} (g : GdL B ds) (n : Nat) : GdL B (ds.take n) := gdl_iff.mpr fun d hd => gdl_iff.mp g d (List.mem_of_mem_take hd)
theorem gdl_drop {B : Nat} {ds : List PyData} (g : GdL B ds) (n : Nat) : GdL B (ds.drop n) := gdl_iff.mpr fun d hd => gdl_iff.mp g d (List.mem_of_mem_drop hd)
theorem gdl_append {B : Nat} {ds es : List PyData} (g : GdL B ds) (h : GdL B es) : GdL B (ds ++ es) := gdl_iff.mpr fun d hd => (List.mem_append.mp hd).elim (gdl_iff.mp g d) (gdl_iff.mp h d)
section
variable {P : Program} {w : World} {K : PySem.W.Frag} {mg : Str → Option Value} {base : Heap} {f : Addr} {fd : FuncData}
end
end Odj

set_option Elab.async false
set_option linter.all false
set_option maxRecDepth 100000
set_option maxHeartbeats 8000000
namespace Odj
open PySem L2
structure Bt5 (mg : Str → Option Value) : Prop where
  repr : mg "repr" = none
def spLaw (K : PySem.W.Frag) : Sp := fun vs H Q _ => ∃ (a : Addr) (ns : List Int), vs = [.ref a] ∧ SqL K H a (ns.map V.int) ∧ ns.length ≤ 63 ∧ ∀ H', Q (.bl true) H'
/-- webs that can be shown -/
structure WebOk (many : Int) (ts : List PyData) : Prop where
  m0 : 1 ≤ many
  m1 : many ≤ 60
  len : ts.length ≤ 200
  gd : Gd (10 ^ 50) (webD many ts)
  wt : (webD many ts).weight ≤ 10000
  dp : (webD many ts).depth ≤ 10
/-- things that can be shown -/
structure ThOk (d : PyData) : Prop where
  gd : Gd (10 ^ 50) d
  wt : d.weight ≤ 50000
  dp : d.depth ≤ 50
theorem ThOk.len {d : PyData} (t : ThOk d) : lenD d ≤ 100000 := by
  cases d with
  | tuple ds =>
    have := len_wA ds
    have h := t.wt
    simp only [PyData.weight] at h
    simp only [lenD]
    omega
  | _ => simp [lenD]
end Odj

set_option Elab.async false
set_option linter.all false
set_option maxRecDepth 100000
set_option maxHeartbeats 8000000
namespace Odj
open PySem L2
structure BtD (mg : Str → Option Value) : Prop where
  len : mg "len" = none
  list : mg "list" = none
section
variable {P : Program} {w : World} {K : PySem.W.Frag} {mg : Str → Option Value} {base : Heap} {f : Addr} {fd : FuncData}
theorem d_feed (F : Fun K "_law_feed" "_law_feed" (top 13) f fd) (hm : mg "_law_feed" = some (.ref f)) (B : BtD mg) : DefOk P w K mg base 1 "_law_feed" ["_law_script"] (spFeed K) := by
  refine ⟨f, fd, ?_, hm, F.kp, F.binds fun _ _ _ _ _ _ us hl => match us, hl with | [_], _ => rfl⟩
  have sc : FnScope ["_law_script"] ["_law_script"] (defScope (top 13)) := ⟨rfl, rfl, rfl, by decide +kernel, rfl, by decide +kernel, by decide +kernel⟩
  refine F.okQ sc (fun vs H Q E h => ?_) (fun cdv A outer s H vs Q E hr h => ?_)
  · obtain ⟨a, ns, rfl, _⟩ := h
    rfl
  · obtain ⟨a, ns, rfl, hs, q⟩ := h
    refine ⟨_, (qss_one (qs_ret (qe_disp (qps_c qe_str (qe_callTy (listK K) (by rfl) B.list (by decide +kernel) (qa_c (qe_slice (slL K) (qv 0) qo_none (qo_some qe_int)) qa_nil)) (qps_c qe_str qe_int (qps_c qe_str qe_int (qps_c qe_str qe_int qps_nil)))) rfl rfl rfl (by decide)))), ?_⟩
    intro fa hfa
    have hs1 : SqL K (upd H fa (.dK [])) a (ns.map V.int) := hs.new hfa
    refine ⟨_, rfl, 63, rfl, a, _, rfl, hs1, fun p hp => ⟨p, _, rfl, .inl (SqL.of upd_same), fun l hl => ?_⟩⟩
    have hpf : p ≠ fa := fun z => by rw [z, upd_same] at hp; cases hp
    have hlp : l ≠ p := fun z => by rw [z, upd_same] at hl; cases hl
    have hl1 : (upd H fa (.dK [])) l = none := by rw [upd_ne hlp] at hl; exact hl
    have hlf : l ≠ fa := fun z => by rw [z, upd_same] at hl1; cases hl1
    have hl0 : H l = none := by rw [upd_ne hlf] at hl1; exact hl1
    have hp0 : H p = none := by rw [upd_ne hpf] at hp; exact hp
    have efa : (upd (upd (upd H fa (.dK [])) p (.lst (cutV (ns.map V.int) none (some 63)))) l (.lst (cutV (ns.map V.int) none (some 63)))) fa = some (.dK []) := by rw [upd_ne hlf.symm, upd_ne hpf.symm, upd_same]
    refine ⟨efa, feedKV l 0 0 0, rfl, by show 4 ≤ 15; decide, ?_⟩
    show Q (.ref fa) (upd (upd (upd (upd H fa (.dK [])) p (.lst (cutV (ns.map V.int) none (some 63)))) l (.lst (cutV (ns.map V.int) none (some 63)))) fa (.dK (feedKV l 0 0 0)))
    have x : Ext [] H (upd (upd (upd (upd H fa (.dK [])) p (.lst (cutV (ns.map V.int) none (some 63)))) l (.lst (cutV (ns.map V.int) none (some 63)))) fa (.dK (feedKV l 0 0 0))) :=
      (((Ext.new hfa).trans (.new hp)).trans (.new hl)).setD' hfa efa
    refine q fa l _ ⟨⟨(ns.drop (HT.sIx (ns.map V.int).length 0 none)).take (HT.sIx (ns.map V.int).length (ns.map V.int).length (some 63) - HT.sIx (ns.map V.int).length 0 none), 0, 0, upd_same, ?_⟩, hlf, by decide⟩ x hfa hl0
    rw [upd_ne hlf, upd_same]
    unfold cutV
    rw [List.map_take, List.map_drop]
theorem d_draw (F : Fun K "_law_draw" "_law_draw" (top 14) f fd) (hm : mg "_law_draw" = some (.ref f)) (B : BtD mg) : DefOk P w K mg base 1 "_law_draw" ["_law_feed_here", "_law_many"] spDraw := by
  refine ⟨f, fd, ?_, hm, F.kp, F.binds fun _ _ _ _ _ _ us hl => match us, hl with | [_, _], _ => rfl⟩
  have sc : FnScope ["_law_feed_here", "_law_many", "_law_found", "_law_cell", "_law_mixed"] ["_law_feed_here", "_law_many"] (defScope (top 14)) := ⟨rfl, rfl, rfl, by decide +kernel, rfl, by decide +kernel, by decide +kernel⟩
  refine F.okQ sc (fun vs H Q E h => ?_) (fun cdv A outer s H vs Q E hr h => ?_)
  · obtain ⟨fa, sa, n, many, rfl, _⟩ := h
    rfl
  · obtain ⟨fa, sa, n, many, rfl, fe, m0, m1, nm, q⟩ := h
    have hu := hu_of hr
    refine ⟨_, (qss_cons (qs_dput hu (qv 0) qe_str (qe_op op_add (qe_dget hu (qv 0) qe_str (fun _ _ => rfl)) qe_int))
      (qss_cons (qs_if (qt_cmpR op_gt (qe_dget hu (qv 0) qe_str (fun _ _ => rfl)) qe_int (nomark _)) (qss_cons (qs_set (i := 2) sc.nd rfl (Or.inl rfl) (qe_op op_mod (qe_dget hu (qv 0) qe_str (fun _ _ => rfl)) (qv 1)))
      (qss_cons (qs_dput hu (qv 0) qe_str (qe_op op_fdiv (qe_dget hu (qv 0) qe_str (fun _ _ => rfl)) (qv 1)))
      (qss_one (qs_ret (qv 2))))) qss_nil)
      (qss_cons (qs_set (i := 3) sc.nd rfl (Or.inl rfl) qe_int)
      (qss_cut (qs_if (qt_cmpR (op_neD hr) (qe_dget hu (qv 0) qe_str (fun _ _ => rfl)) (qe_lst qa_nil) (nomark _)) (qss_one (qs_set (i := 3) sc.nd rfl (Or.inl rfl) (qe_ix (ixL K) (qe_dget hu (qv 0) qe_str (fun _ _ => rfl)) (qe_op op_mod (qe_dget hu (qv 0) qe_str (fun _ _ => rfl)) (qe_callB (lenK K) (by rfl) B.len (by decide +kernel) (qa_c (qe_dget hu (qv 0) qe_str (fun _ _ => rfl)) qa_nil))) (fun _ _ => rfl)))) qss_nil)
      (qss_cons (qs_dput hu (qv 0) qe_str (qe_op op_add (qe_dget hu (qv 0) qe_str (fun _ _ => rfl)) qe_int))
      (qss_cut (qs_if (QW.pt (qw_and (qt_cmpR op_ge (qv 3) (qe_op op_pow qe_int qe_int) (nomark _)) (qw_and1 (qt_cmpR op_le (qe_dget hu (qv 0) qe_str (fun _ _ => rfl)) (qe_callB (lenK K) (by rfl) B.len (by decide +kernel) (qa_c (qe_dget hu (qv 0) qe_str (fun _ _ => rfl)) qa_nil)) (nomark _))))) (qss_cons (qs_dput hu (qv 0) qe_str (qe_op op_fdiv (qv 3) (qv 1)))
      (qss_one (qs_ret (qe_op op_mod (qv 3) (qv 1))))) qss_nil)
      (qss_cons (qs_set (i := 4) sc.nd rfl (Or.inl rfl) (qe_op op_mod (qe_op op_mul (qe_op op_add (qe_op op_mod (qv 3) qe_int) (qe_op op_mul qe_int (qe_dget hu (qv 0) qe_str (fun _ _ => rfl)))) qe_int) qe_int))
      (qss_cons (qs_set (i := 4) sc.nd rfl (Or.inl rfl) (qe_op op_mod (qe_op op_mul (qe_op op_add (qe_op op_fdiv (qv 4) qe_int) (qe_op op_mul qe_int (qe_dget hu (qv 0) qe_str (fun _ _ => rfl)))) qe_int) qe_int))
      (qss_one (qs_ret (qe_op op_mod (qe_op op_fdiv (qv 4) qe_int) (qv 1)))))))))))), ?_⟩
    obtain ⟨ns, i, c, e1, e2⟩ := fe.ex
    have n0 := fe.lo
    obtain ⟨f1, x1⟩ := fe.put i c (n + 1) (by omega)
    refine ⟨_, rfl, fa, _, rfl, dg_turn e1, n, 1, rfl, rfl, _, rfl, fa, _, rfl, dp_turn e1, ?_⟩
    refine ⟨_, rfl, fa, _, rfl, dg_left upd_same, c, 0, rfl, rfl, _, rfl, ite2 (fun hc => ?_) (fun hc => ?_)⟩
    · refine ⟨_, rfl, fa, _, rfl, dg_left upd_same, _, rfl, c, many, rfl, rfl, m0, ?_⟩
      refine ⟨_, rfl, fa, _, rfl, dg_left upd_same, _, rfl, c, many, rfl, rfl, ⟨m0, m1⟩, _, rfl, fa, _, rfl, dp_left upd_same, ?_⟩
      obtain ⟨f2, x2⟩ := f1.put i (c / many) (n + 1) (by omega)
      exact ⟨_, rfl, q _ _ (Int.emod_nonneg _ (by omega)) (Int.emod_lt_of_pos _ m0) f2 (x1.trans x2)⟩
    · refine ⟨fun σ' H' => ∃ cell : Int, σ' = [some (.ref fa), some (.int many), none, some (.int cell), none] ∧ Feed H' fa sa (n + 1) ∧ Ext [fa] H H', ?_, ?_⟩
      · refine ⟨_, rfl, fa, _, rfl, dg_script upd_same, Nat.zero_le _, fun p hp => ?_⟩
        have x2 : Ext [] (upd H fa (.dK (feedKV sa i c (n + 1)))) (upd (upd H fa (.dK (feedKV sa i c (n + 1)))) p (.lst [])) := .new hp
        have f2 := f1.ext x2 (by simp) (by simp)
        have x3 := x1.trans (x2.mono (S' := [fa]) (by simp))
        have a2 : (upd (upd H fa (.dK (feedKV sa i c (n + 1)))) p (.lst [])) sa = some (.lst (ns.map V.int)) := x2.keep _ _ (by simp) (by rw [upd_ne fe.ne]; exact e2)
        have a1 : (upd (upd H fa (.dK (feedKV sa i c (n + 1)))) p (.lst [])) fa = some (.dK (feedKV sa i c (n + 1))) := x2.keep _ _ (by simp) upd_same
        refine ⟨[], .list (ns.map .int), .list [], .lst a2 (by simp) (.ints ns), .lst upd_same (by simp) .nil, canLay_ints ns, rfl, by simp [PyData.depth, depth_ints], _, rfl, ?_⟩
        cases ns with
        | nil => exact iteF ⟨0, rfl, f2, x3⟩
        | cons k ns =>
          refine iteT ?_
          have hl : (0 : Int) < (((k :: ns).map V.int).length : Nat) := by simp
          obtain ⟨v, hv, hv2⟩ := atI_ex (xs := (k :: ns).map V.int) (Int.emod_nonneg i (by omega)) (Int.emod_lt_of_pos i hl)
          obtain ⟨z, rfl⟩ : ∃ z, v = V.int z := by
            rw [List.getElem?_map] at hv2
            cases e : (k :: ns)[(i % (((k :: ns).map V.int).length : Nat)).toNat]? with
            | none => rw [e] at hv2; cases hv2
            | some z => rw [e] at hv2; exact ⟨z, (Option.some.inj hv2).symm⟩
          exact ⟨_, rfl, fa, _, rfl, dg_script a1, _, rfl, fa, _, rfl, dg_at a1, _, rfl, fa, _, rfl, dg_script a1, sa, _, rfl, .inl (SqL.of a2), i, _, rfl, rfl, hl, sa, _, _, _, rfl, rfl, SqL.of a2, hv, z, rfl, f2, x3⟩
      · rintro σ' H' ⟨cell, rfl, f2, x2⟩
        obtain ⟨ns2, i2, c2, b1, b2⟩ := f2.ex
        obtain ⟨f3, x3⟩ := f2.put (i2 + 1) c2 (n + 1) (by omega)
        have b3 : (upd H' fa (.dK (feedKV sa (i2 + 1) c2 (n + 1)))) sa = some (.lst (ns2.map V.int)) := by rw [upd_ne fe.ne]; exact b2
        refine ⟨_, rfl, fa, _, rfl, dg_at b1, i2, 1, rfl, rfl, _, rfl, fa, _, rfl, dp_at b1, ?_⟩
        refine ⟨fun σ' H2 => σ' = [some (.ref fa), some (.int many), none, some (.int cell), none] ∧ H2 = upd H' fa (.dK (feedKV sa (i2 + 1) c2 (n + 1))), ?_, ?_⟩
        · refine ⟨_, rfl, 10, 18, rfl, rfl, ⟨by decide, by decide, by decide⟩, cell, _, rfl, rfl, _, rfl, ite2 (fun hb => ?_) (fun hb => ?_)⟩
          · refine ⟨_, rfl, fa, _, rfl, dg_at upd_same, _, rfl, fa, _, rfl, dg_script upd_same, sa, _, rfl, .inl (SqL.of b3), _, _, rfl, rfl, _, rfl, ite2 (fun hd => ?_) (fun hd => ?_)⟩
            · refine ⟨_, rfl, _, rfl, cell, many, rfl, rfl, ⟨m0, m1⟩, _, rfl, fa, _, rfl, dp_left upd_same, ?_⟩
              obtain ⟨f4, x4⟩ := f3.put (i2 + 1) (cell / many) (n + 1) (by omega)
              exact ⟨_, rfl, _, rfl, cell, many, rfl, rfl, m0, q _ _ (Int.emod_nonneg _ (by omega)) (Int.emod_lt_of_pos _ m0) f4 ((x2.trans x3).trans x4)⟩
            · exact ⟨rfl, rfl⟩
          · exact iteF ⟨rfl, rfl⟩
        · rintro σ' H2 ⟨rfl, rfl⟩
          refine ⟨_, rfl, _, _, rfl, rfl, (by show (0 : Int) < 2147483629; decide), _, rfl, fa, _, rfl, dg_turn upd_same, _, _, rfl, rfl, .inl ⟨by decide, by decide⟩, _, _, rfl, rfl, _, _, rfl, rfl, .inr ⟨by decide, by decide⟩, _, _, rfl, rfl, (by show (0 : Int) < 2147483647; decide), ?_⟩
          refine ⟨_, rfl, _, _, rfl, rfl, ⟨by decide, by decide⟩, _, rfl, fa, _, rfl, dg_turn upd_same, _, _, rfl, rfl, .inl ⟨by decide, by decide⟩, _, _, rfl, rfl, _, _, rfl, rfl, .inr ⟨by decide, by decide⟩, _, _, rfl, rfl, (by show (0 : Int) < 2147483587; decide), ?_⟩
          exact ⟨_, rfl, _, _, rfl, rfl, ⟨by decide, by decide⟩, _, rfl, _, _, rfl, rfl, m0, q _ _ (Int.emod_nonneg _ (by omega)) (Int.emod_lt_of_pos _ m0) f3 (x2.trans x3)⟩
end
end Odj

set_option Elab.async false
set_option linter.all false
set_option maxRecDepth 100000
set_option maxHeartbeats 8000000
namespace Odj
open PySem L2
theorem ixN_in {n : Nat} {i : Int} (h0 : 0 ≤ i) (h1 : i < n) : ixN n i = some i.toNat := by
  unfold ixN
  rw [if_pos h0, if_pos h1]
theorem Ties.setAt {H : Hp} {ts : List Tie} {xs : List V} (h : Ties H ts xs) {t : Tie} {x : V} (k : Ties H [t] [x]) (j : Nat) : Ties H (ts.set j t) (xs.set j x) := by
  by_cases hj : j < ts.length
  · have hx : j < xs.length := by rw [h.length]; exact hj
    rw [List.set_eq_take_append_cons_drop, List.set_eq_take_append_cons_drop, if_pos hj, if_pos hx]
    have := ((h.take j).append k).append (h.drop (j + 1))
    simpa using this
  · rw [List.set_eq_of_length_le (by omega), List.set_eq_of_length_le (by rw [h.length]; omega)]
    exact h
theorem Ties.perm {H : Hp} : ∀ {xs ys : List V}, ys.Perm xs → ∀ {ts : List Tie}, Ties H ts xs → ∃ us : List Tie, us.Perm ts ∧ Ties H us ys := by
  intro xs ys p
  have q := p.symm
  clear p
  induction q with
  | nil => intro ts h; exact ⟨ts, .refl _, h⟩
  | @cons x l1 l2 p ih =>
    intro ts h
    cases ts with
    | nil => have := h.length; simp at this
    | cons t ts =>
      have h1 : Ties H [t] [x] := by have := h.take 1; simpa using this
      have h2 : Ties H ts l1 := by have := h.drop 1; simpa using this
      obtain ⟨us, pu, hu⟩ := ih h2
      refine ⟨t :: us, pu.cons t, ?_⟩
      have := h1.append hu
      simpa using this
  | @swap x y l =>
    intro ts h
    match ts, h with
    | [], h => have := h.length; simp at this
    | [_], h => have := h.length; simp at this
    | t :: u :: ts, h =>
      have h1 : Ties H [t] [y] := by have := h.take 1; simpa using this
      have h2 : Ties H [u] [x] := by have := (h.drop 1).take 1; simpa using this
      have h3 : Ties H ts l := by have := h.drop 2; simpa using this
      refine ⟨u :: t :: ts, .swap t u ts, ?_⟩
      have := (h2.append h1).append h3
      simpa using this
  | trans p q ih1 ih2 =>
    intro ts h
    obtain ⟨us, pu, hu⟩ := ih1 h
    obtain ⟨vs, pv, hv⟩ := ih2 hu
    exact ⟨vs, pv.trans pu, hv⟩
structure FoundG (ok : Tie → Prop) (H0 H : Hp) (fa sa l : Addr) (ts : List Tie) : Prop where
  ex : ∃ xs, H l = some (.lst xs) ∧ Ties H ts xs
  ok : ∀ t ∈ ts, ok t
  nf : l ≠ fa
  ns : l ≠ sa
  new : H0 l = none
  ext : Ext [fa] H0 H
section
variable {ok : Tie → Prop} {H0 H H' : Hp} {fa sa l : Addr} {n : Int} {ts : List Tie}
theorem FoundG.step (f : FoundG ok H0 H fa sa l ts) (x : Ext [fa] H H') : FoundG ok H0 H' fa sa l ts := by
  obtain ⟨xs, h1, h2⟩ := f.ex
  exact ⟨⟨xs, x.keep _ _ (by simpa using f.nf) h1, h2.ext x⟩, f.ok, f.nf, f.ns, f.new, f.ext.trans x⟩
theorem FoundG.set (f : FoundG ok H0 H fa sa l ts) {ys : List V} {us : List Tie} (h : Ties H us ys) (hk : ∀ t ∈ us, ok t) : FoundG ok H0 (upd H l (.lst ys)) fa sa l us := by
  obtain ⟨xs, h1, h2⟩ := f.ex
  exact ⟨⟨ys, upd_same, h.ext (.set (S := [l]) (by simp) h1)⟩, hk, f.nf, f.ns, f.new, f.ext.set' f.new h1⟩
theorem FoundG.feed (f : FoundG ok H0 H fa sa l ts) (fe : Feed H fa sa n) {o : HO} : Feed (upd H l o) fa sa n := by
  obtain ⟨xs, h1, _⟩ := f.ex
  exact fe.ext (.set (S := [l]) (by simp) h1) (by simpa using f.nf.symm) (by simpa using f.ns.symm)
end
theorem price7 {r r2 : Int} (h0 : 0 ≤ r) (h1 : r < 100) (g0 : 0 ≤ r2) (g1 : r2 < 7) : ∃ p, atI [V.int 0, .int 1, .int 1, .int 2, .int 3, .int 99, .int r] r2 = some (V.int p) ∧ 0 ≤ p ∧ p ≤ 99 := by
  obtain ⟨v, hv, hv2⟩ := atI_ex (xs := [V.int 0, .int 1, .int 1, .int 2, .int 3, .int 99, .int r]) g0 (by simpa using g1)
  have hm := List.mem_of_getElem? hv2
  simp only [List.mem_cons, List.not_mem_nil, or_false] at hm
  rcases hm with e | e | e | e | e | e | e <;> exact ⟨_, by rw [hv, e], by omega, by omega⟩
structure TieP (many : Int) (t : Tie) : Prop where
  a0 : 0 ≤ t.1
  ab : t.1 < t.2.1
  bm : t.2.1 < many
  p0 : 0 ≤ t.2.2
  p1 : t.2.2 ≤ 99
structure TieW (many : Int) (t : Tie) : Prop where
  a0 : 0 ≤ t.1
  a1 : t.1 < many
  b0 : 0 ≤ t.2.1
  b1 : t.2.1 < many
  ne : t.1 ≠ t.2.1
  p0 : 0 ≤ t.2.2
  p1 : t.2.2 ≤ 99
def spShuf : Sp := fun vs H Q _ => ∃ (fa sa : Addr) (n : Int) (a : Addr) (xs : List V), vs = [.ref fa, .ref a] ∧ Feed H fa sa n ∧ H a = some (.lst xs) ∧ xs.length ≤ 1000 ∧ n + 1000 ≤ most ∧
  ∀ (l : Addr) (ys : List V) (H' : Hp), H' l = some (.lst ys) → ys.Perm xs → H l = none → l ≠ fa → l ≠ sa → Feed H' fa sa (n + xs.length) → Ext [fa] H H' → Q (.ref l) H'
def spWebG (ok : Int → Tie → Prop) : Sp := fun vs H Q _ => ∃ (fa sa : Addr) (n mp ties : Int), vs = [.ref fa, .int mp, .int ties] ∧ Feed H fa sa n ∧ 0 < mp ∧ mp ≤ 60 ∧ mp ≤ ties ∧ ties ≤ 200 ∧ n + 3000 ≤ most ∧
  ∀ (many : Int) (ts : List Tie) (v : V) (n' : Int) (H' : Hp), Rep [fa] H' (webD many (ts.map tieD)) v → 1 ≤ many → many ≤ mp → ts.length ≤ ties.toNat → (∀ t ∈ ts, ok many t) → n ≤ n' → n' ≤ n + 3000 → Feed H' fa sa n' → Ext [fa] H H' → Q v H'
section
variable {P : Program} {w : World} {K : PySem.W.Frag} {mg : Str → Option Value} {base : Heap} {f : Addr} {fd : FuncData}
theorem d_shuffled (F : Fun K "_law_shuffled" "_law_shuffled" (top 15) f fd) (hm : mg "_law_shuffled" = some (.ref f)) (B : Bt mg) (B2 : Bt2 mg) (BD : BtD mg) (D_law_draw : DefOk P w K mg base 1 "_law_draw" ["_law_feed_here", "_law_many"] spDraw) : DefOk P w K mg base 2 "_law_shuffled" ["_law_feed_here", "_law_some"] spShuf := by
  refine ⟨f, fd, ?_, hm, F.kp, F.binds fun _ _ _ _ _ _ us hl => match us, hl with | [_, _], _ => rfl⟩
  have sc : FnScope ["_law_feed_here", "_law_some", "_law_left", "_law_found", "_law_k"] ["_law_feed_here", "_law_some"] (defScope (top 15)) := ⟨rfl, rfl, rfl, by decide +kernel, rfl, by decide +kernel, by decide +kernel⟩
  refine F.okQ sc (fun vs H Q E h => ?_) (fun cdv A outer s H vs Q E hr h => ?_)
  · obtain ⟨fa, sa, n, a, xs, rfl, _⟩ := h
    rfl
  · obtain ⟨fa, sa, n, a, xs, rfl, fe, ha, hx, nm, q⟩ := h
    have hsz : sizeLine = 16777216 := by decide
    have hmo : most = 1099511627776 := rfl
    refine ⟨_, (qss_cons (qs_set (i := 2) sc.nd rfl (Or.inl rfl) (qe_callTy (listK K) (by rfl) BD.list (by decide +kernel) (qa_c (qv 1) qa_nil)))
      (qss_cons (qs_set (i := 3) sc.nd rfl (Or.inl rfl) (qe_lst qa_nil))
      (qss_cons (qs_for PassesOwn.never rfl (qi_range1 (by rfl) B2.range (qa_c (qe_callB (lenK K) (by rfl) B.len (by decide +kernel) (qa_c (qv 2) qa_nil)) qa_nil)) (qg_name (i := 4) sc.nd rfl (Or.inl rfl)) (qss_one (qs_expr (qe_bmK K PySem.F.plainAttrs_list PySem.F.slot_list_append PySem.F.type_list_append mt_append (qv 3) (qa_c (qe_bmK K PySem.F.plainAttrs_list PySem.F.slot_list_pop PySem.F.type_list_pop mt_popAt (qv 2) (qa_c (qe_callD D_law_draw (hr.mono (by decide)) (qa_c (qv 0) (qa_c (qe_callB (lenK K) (by rfl) B.len (by decide +kernel) (qa_c (qv 2) qa_nil)) qa_nil))) qa_nil)) qa_nil)))))
      (qss_one (qs_ret (qv 3)))))), ?_⟩
    have n0 := fe.lo
    refine ⟨_, rfl, a, xs, rfl, .inl (SqL.of ha), fun L hL => ⟨Nat.zero_le _, fun l hl => ?_⟩⟩
    have x1 : Ext [] H (upd H L (.lst xs)) := .new hL
    have f1 := fe.ext x1 (by simp) (by simp)
    have hLf := fe.has hL
    have hlf := f1.has hl
    have hlL : l ≠ L := fun z => by rw [z, upd_same] at hl; cases hl
    have hl0 : H l = none := x1.fresh (by simp) hl
    have x2 : Ext [] (upd H L (.lst xs)) (upd (upd H L (.lst xs)) l (.lst [])) := .new hl
    have f2 := f1.ext x2 (by simp) (by simp)
    have eL : (upd (upd H L (.lst xs)) l (.lst [])) L = some (.lst xs) := x2.keep _ _ (by simp) upd_same
    have el : (upd (upd H L (.lst xs)) l (.lst [])) l = some (.lst []) := upd_same
    have x12 : Ext [fa] H (upd (upd H L (.lst xs)) l (.lst [])) := (x1.trans x2).mono (by simp)
    generalize upd (upd H L (.lst xs)) l (.lst []) = H2 at f2 eL el x12 ⊢
    refine ⟨_, rfl, L, xs, rfl, .inl (SqL.of eL), _, rfl, by omega, by omega, for_range (fun i σ' H' => ∃ ls zs y, σ' = [some (.ref fa), some (.ref a), some (.ref L), some (.ref l), y] ∧ H' L = some (.lst ls) ∧ H' l = some (.lst zs) ∧ (zs ++ ls).Perm xs ∧ zs.length = i ∧ Feed H' fa sa (n + i) ∧ Ext [fa] H H')
      ⟨xs, [], none, rfl, eL, el, .refl _, rfl, by simpa using f2, x12⟩ ?_ ?_⟩
    · rintro i σ' H3 hi ⟨ls, zs, y, rfl, hLs, hzs, hp, hlen, f3, x3⟩
      have hpl := hp.length_eq
      rw [List.length_append] at hpl
      refine ⟨_, rfl, .inl ⟨rfl, _, SqL.of hzs⟩, _, rfl, .inl ⟨rfl, _, SqL.of hLs⟩, _, rfl, _, rfl, L, ls, rfl, .inl (SqL.of hLs), fa, sa, n + i, _, rfl, f3, by omega, by omega, by omega, fun r H4 r0 r1 f4 x4 => ?_⟩
      have hL4 := x4.keep _ _ (by simpa using hLf.1) hLs
      have hz4 := x4.keep _ _ (by simpa using hlf.1) hzs
      have hk : r.toNat < ls.length := by omega
      have hx4 : ls[r.toNat]? = some ls[r.toNat] := by simp [hk]
      have x5 : Ext [L] H4 (upd H4 L (.lst (ls.eraseIdx r.toNat))) := .set (by simp) hL4
      have f5 := f4.ext x5 (by simpa using hLf.1.symm) (by simpa using hLf.2.symm)
      have hz5 : (upd H4 L (.lst (ls.eraseIdx r.toNat))) l = some (.lst zs) := by rw [upd_ne hlL]; exact hz4
      have x05 : Ext [fa] H (upd H4 L (.lst (ls.eraseIdx r.toNat))) := (x3.trans x4).set' hL hL4
      refine ⟨L, ls, r, r.toNat, ls[r.toNat], rfl, rfl, hL4, by omega, by omega, PySem.seqIndex_of r0 (by omega), hx4, l, zs, _, rfl, rfl, hz5, by omega, ls.eraseIdx r.toNat, zs ++ [ls[r.toNat]], _, rfl, ?_, upd_same, ?_, by simp [hlen], ?_, x05.set' hl0 hz5⟩
      · rw [upd_ne hlL.symm, upd_same]
      · have h2 : ((zs ++ [ls[r.toNat]]) ++ ls.eraseIdx r.toNat).Perm (zs ++ ls) := by
          rw [List.append_assoc]
          exact (erase_perm hk).append_left zs
        exact h2.trans hp
      · have e : n + (i : Int) + 1 = n + ((i + 1 : Nat) : Int) := by omega
        rw [← e]
        exact f5.ext (.set (S := [l]) (by simp) hz5) (by simpa using hlf.1.symm) (by simpa using hlf.2.symm)
    · rintro σ' H3 ⟨ls, zs, y, rfl, hLs, hzs, hp, hlen, f3, x3⟩
      have hpl := hp.length_eq
      rw [List.length_append] at hpl
      have e : ls = [] := List.length_eq_zero_iff.mp (by omega)
      subst e
      rw [List.append_nil] at hp
      exact ⟨_, rfl, q l zs H3 hzs hp hl0 hlf.1 hlf.2 f3 x3⟩
end
end Odj

set_option Elab.async false
set_option linter.all false
set_option maxRecDepth 100000
set_option maxHeartbeats 8000000
namespace Odj
open PySem L2
theorem perm_rng {many : Int} {zs : List V} (h : zs.Perm (rngV 0 many)) : ∃ ms : List Int, zs = ms.map V.int ∧ ms.Nodup ∧ ∀ m ∈ ms, 0 ≤ m ∧ m < many := by
  have hin : ∀ x ∈ zs, ∃ m : Int, x = V.int m ∧ 0 ≤ m ∧ m < many := fun x hx => by
    have hx := h.mem_iff.mp hx
    unfold rngV at hx
    obtain ⟨k, hk, rfl⟩ := List.mem_map.mp hx
    have := List.mem_range.mp hk
    exact ⟨_, rfl, by omega, by omega⟩
  have hnd : zs.Nodup := by
    refine h.nodup_iff.mpr ?_
    unfold rngV
    refine (List.nodup_range).map _ ?_
    intro a b hab z
    exact hab (by have := V.int.inj z; omega)
  clear h
  induction zs with
  | nil => exact ⟨[], rfl, List.nodup_nil, by simp⟩
  | cons x zs ih =>
    obtain ⟨m, rfl, m0, m1⟩ := hin x (by simp)
    rw [List.nodup_cons] at hnd
    obtain ⟨ms, rfl, mnd, min⟩ := ih (fun y hy => hin y (by simp [hy])) hnd.2
    refine ⟨m :: ms, rfl, List.nodup_cons.mpr ⟨fun z => hnd.1 (List.mem_map.mpr ⟨m, z, rfl⟩), mnd⟩, fun k hk => ?_⟩
    rcases List.mem_cons.mp hk with e | e
    · exact e ▸ ⟨m0, m1⟩
    · exact min k e
section
variable {P : Program} {w : World} {K : PySem.W.Frag} {mg : Str → Option Value} {base : Heap} {f : Addr} {fd : FuncData}
theorem d_onewayW (F : Fun K "_law_oneway" "_law_oneway" (top 16) f fd) (hm : mg "_law_oneway" = some (.ref f)) (B : Bt mg) (B2 : Bt2 mg) (BD : BtD mg) (D_law_draw : DefOk P w K mg base 1 "_law_draw" ["_law_feed_here", "_law_many"] spDraw)
    (D_law_shuffled : DefOk P w K mg base 2 "_law_shuffled" ["_law_feed_here", "_law_some"] spShuf) : DefOk P w K mg base 3 "_law_oneway" ["_law_feed_here", "_law_most", "_law_ties"] (spWebG TieW) := by
  refine ⟨f, fd, ?_, hm, F.kp, F.binds fun _ _ _ _ _ _ us hl => match us, hl with | [_, _, _], _ => rfl⟩
  have sc : FnScope ["_law_feed_here", "_law_most", "_law_ties", "_law_many", "_law_found", "_law_line", "_law_k", "_law_a", "_law_b"] ["_law_feed_here", "_law_most", "_law_ties"] (defScope (top 16)) := ⟨rfl, rfl, rfl, by decide +kernel, rfl, by decide +kernel, by decide +kernel⟩
  refine F.okQ sc (fun vs H Q E h => ?_) (fun cdv A outer s H vs Q E hr h => ?_)
  · obtain ⟨fa, sa, n, mp, ties, rfl, _⟩ := h
    rfl
  · obtain ⟨fa, sa, n, mp, ties, rfl, fe, m0, m1, t0, t1, nm, q⟩ := h
    have hsz : sizeLine = 16777216 := by decide
    have hmo : most = 1099511627776 := rfl
    refine ⟨_, (qss_cons (qs_set (i := 3) sc.nd rfl (Or.inr rfl) (qe_op op_add qe_int (qe_callD D_law_draw (hr.mono (by decide)) (qa_c (qv 0) (qa_c (qv 1) qa_nil)))))
      (qss_cons (qs_set (i := 4) sc.nd rfl (Or.inl rfl) (qe_lst qa_nil))
      (qss_cut (qs_if (QW.pt (qw_and (qt_cmpR op_gt (qv 3) qe_int (nomark _)) (qw_and1 (qt_cmpR op_eq (qe_callD D_law_draw (hr.mono (by decide)) (qa_c (qv 0) (qa_c qe_int qa_nil))) qe_int (nomark _))))) (qss_cons (qs_set (i := 5) sc.nd rfl (Or.inr rfl) (qe_callD D_law_shuffled (hr.mono (by decide)) (qa_c (qv 0) (qa_c (qe_callTy (call_list_rng rfl) (by rfl) BD.list (by decide +kernel) (qa_c (qe_callTy call_rng (by rfl) B2.range (by decide +kernel) (qa_c (qv 3) qa_nil)) qa_nil)) qa_nil))))
      (qss_one (qs_comp (i := 4) sc.nd rfl rfl (N := ["_law_k", "_law_line", "_law_feed_here", "_law_many"]) (mp := [none, some 5, some 0, some 3]) rfl (qi_range1 (by rfl) B2.range (qa_c (qv 3) qa_nil)) rfl (by show compOk ["_law_feed_here", "_law_most", "_law_ties", "_law_many", "_law_found", "_law_line", "_law_k", "_law_a", "_law_b"] (defScope (top 16)) _ _ _ = true; decide +kernel) fun _ _ _ _ _ => ⟨(qg_name (i := 0) (by show List.Nodup [("_law_k" : Str), ("_law_line" : Str), ("_law_feed_here" : Str), ("_law_many" : Str)]; decide +kernel) rfl (Or.inl rfl)), qk_nil, (qe_tup (qa_c (qe_ix (ixL K) (qv 1) (qv 0) (fun _ _ => rfl)) (qa_c (qe_ix (ixL K) (qv 1) (qe_op op_mod (qe_op op_add (qv 0) qe_int) (qv 3)) (fun _ _ => rfl)) (qa_c (qe_callD D_law_draw (hr.mono (by decide)) (qa_c (qv 2) (qa_c qe_int qa_nil))) qa_nil))))⟩))) qss_nil)
      (qss_cons (qs_for PassesOwn.never rfl (qi_range1 (by rfl) B2.range (qa_c (qe_op op_mul (qe_callD D_law_draw (hr.mono (by decide)) (qa_c (qv 0) (qa_c (qe_op op_sub (qe_op op_add qe_int (qv 2)) (qe_callB (lenK K) (by rfl) B.len (by decide +kernel) (qa_c (qv 4) qa_nil))) qa_nil))) (qe_callTy call_int1 (by rfl) B.int (by decide +kernel) (qa_c (qe_cmpR op_gt (qv 3) qe_int (nomark _)) qa_nil))) qa_nil)) (qg_name (i := 6) sc.nd rfl (Or.inl rfl)) (qss_cons (qs_set (i := 7) sc.nd rfl (Or.inl rfl) (qe_callD D_law_draw (hr.mono (by decide)) (qa_c (qv 0) (qa_c (qv 3) qa_nil))))
      (qss_cons (qs_set (i := 8) sc.nd rfl (Or.inl rfl) (qe_op op_mod (qe_op op_add (qe_op op_add (qv 7) qe_int) (qe_callD D_law_draw (hr.mono (by decide)) (qa_c (qv 0) (qa_c (qe_op op_sub (qv 3) qe_int) qa_nil)))) (qv 3)))
      (qss_cons (qs_expr (qe_bmK K PySem.F.plainAttrs_list PySem.F.slot_list_append PySem.F.type_list_append mt_append (qv 4) (qa_c (qe_tup (qa_c (qv 7) (qa_c (qv 8) (qa_c (qe_ix (ixL K) (qe_lst (qa_c qe_int (qa_c qe_int (qa_c qe_int (qa_c qe_int (qa_c qe_int (qa_c qe_int (qa_c (qe_callD D_law_draw (hr.mono (by decide)) (qa_c (qv 0) (qa_c qe_int qa_nil))) qa_nil)))))))) (qe_callD D_law_draw (hr.mono (by decide)) (qa_c (qv 0) (qa_c qe_int qa_nil))) (fun _ _ => rfl)) qa_nil)))) qa_nil)))
      (qss_one (qs_if (qt_cmpR op_eq (qe_callD D_law_draw (hr.mono (by decide)) (qa_c (qv 0) (qa_c qe_int qa_nil))) qe_int (nomark _)) (qss_one (qs_asg (qe_ix (ixL K) (qv 4) (qe_callD D_law_draw (hr.mono (by decide)) (qa_c (qv 0) (qa_c (qe_callB (lenK K) (by rfl) B.len (by decide +kernel) (qa_c (qv 4) qa_nil)) qa_nil))) (fun _ _ => rfl)) (qg_sub (qv 4) (qe_op op_sub (qe_callB (lenK K) (by rfl) B.len (by decide +kernel) (qa_c (qv 4) qa_nil)) qe_int) set_list))) qss_nil))))))
      (qss_one (qs_ret (qe_tup (qa_c (qv 3) (qa_c (qe_callTy (tupleK K) (by rfl) B.tuple (by decide +kernel) (qa_c (qe_callD D_law_shuffled (hr.mono (by decide)) (qa_c (qv 0) (qa_c (qv 4) qa_nil))) qa_nil)) qa_nil))))))))), ?_⟩
    have n0 := fe.lo
    refine ⟨_, rfl, _, rfl, fa, sa, n, mp, rfl, fe, by omega, by omega, by omega, fun r H1 r0 r1 f1 x1 => ⟨_, _, rfl, rfl, Nat.zero_le _, fun l hl => ?_⟩⟩
    have hmany : 1 ≤ 1 + r ∧ 1 + r ≤ mp := by omega
    dsimp only
    generalize (1 + r) = many at hmany ⊢
    have hlf := f1.has hl
    have g0 : FoundG (TieW many) H (upd H1 l (.lst [])) fa sa l [] := ⟨⟨[], upd_same, .nil⟩, by simp, hlf.1, hlf.2, x1.fresh (by simpa using hlf.1) hl, x1.trans (.new hl)⟩
    have f2 : Feed (upd H1 l (.lst [])) fa sa (n + 1) := f1.ext (Ext.new (S := []) hl) (by simp) (by simp)
    refine ⟨fun σ' H' => ∃ l ts n' yl, σ' = [some (.ref fa), some (.int mp), some (.int ties), some (.int many), some (.ref l), yl, none, none, none] ∧ FoundG (TieW many) H H' fa sa l ts ∧ (ts.length : Int) ≤ many ∧ Feed H' fa sa n' ∧ n ≤ n' ∧ n' ≤ n + 182, ?_, ?_⟩
    · refine ⟨_, rfl, _, _, rfl, rfl, _, rfl, ite2 (fun hw => ?_) (fun hw => iteF ⟨l, [], _, _, rfl, g0, by simp; omega, f2, by omega, by omega⟩)⟩
      have hgt : 1 < many := of_decide_eq_true hw
      refine ⟨_, rfl, fa, sa, n + 1, 2, rfl, f2, by decide, by decide, by omega, fun r2 H2 c0 c1 f3 x3 => ⟨rfl, _, rfl, ite2 (fun hw2 => ?_) (fun hw2 => ⟨l, [], _, _, rfl, g0.step x3, by simp; omega, f3, by omega, by omega⟩)⟩⟩
      refine ⟨_, rfl, _, rfl, many, rfl, fun p hp => ⟨p, 0, many, rfl, upd_same, ⟨by omega, by omega, by omega, by omega⟩, by omega, fun q1 hq1 => ?_⟩⟩
      have y1 : Ext [] H2 (upd (upd H2 p (.rng 0 many)) q1 (.lst (rngV 0 many))) := (Ext.new hp).trans (.new hq1)
      have f4 := f3.ext y1 (by simp) (by simp)
      have hat : (upd (upd H2 p (.rng 0 many)) q1 (.lst (rngV 0 many))) q1 = some (.lst (rngV 0 many)) := upd_same
      have x4 := (g0.ext.trans x3).trans (y1.mono (S' := [fa]) (by simp))
      generalize upd (upd H2 p (.rng 0 many)) q1 (.lst (rngV 0 many)) = H4 at f4 hat x4 ⊢
      have hlen : (rngV 0 many).length = many.toNat := by
        unfold rngV
        rw [List.length_map, List.length_range]
        omega
      refine ⟨fa, sa, _, q1, _, rfl, f4, hat, by omega, by omega, fun ln zs H5 hln hpm hln0 lnf lns f5 x5 => ?_⟩
      have zlen := hpm.length_eq
      rw [hlen] at zlen
      obtain ⟨ms, rfl, mnd, min⟩ := perm_rng hpm
      rw [List.length_map] at zlen
      have lnf' : ln ∉ [fa] := by simpa using lnf
      rw [hlen] at f5
      refine ⟨_, rfl, many, rfl, by omega, by omega, comp_range (fun i ys σ' H' => (∃ y, σ' = [y, some (.ref ln), some (.ref fa), some (.int many)]) ∧ ∃ ts n', Ties H' ts ys ∧ (∀ t ∈ ts, TieW many t) ∧ ts.length = i ∧ i ≤ many.toNat ∧ H' ln = some (.lst (ms.map V.int)) ∧ Feed H' fa sa n' ∧ n ≤ n' ∧ n' ≤ n + 62 + i ∧ Ext [fa] H H')
        ⟨⟨none, rfl⟩, [], _, .nil, by simp, rfl, Nat.zero_le _, hln, f5, by omega, by omega, x4.trans x5⟩ ?_ ?_⟩
      · rintro i ys σ' H' hi ⟨⟨y, rfl⟩, ts, n', hts, hok, hlen, hi2, hL, f4, n1, n2, x4⟩
        have i1 : 0 ≤ (0 + (i : Int) + 1) % many := Int.emod_nonneg _ (by omega)
        have i2 : (0 + (i : Int) + 1) % many < many := Int.emod_lt_of_pos _ (by omega)
        have hk : i < ms.length := by omega
        have hk2 : ((0 + (i : Int) + 1) % many).toNat < ms.length := by omega
        have e1 : atI (ms.map V.int) (0 + (i : Int)) = some (V.int ms[i]) := by
          obtain ⟨v, h1, h2⟩ := atI_ex (xs := ms.map V.int) (i := 0 + (i : Int)) (by omega) (by rw [List.length_map]; omega)
          rw [h1]
          rw [show (0 + (i : Int)).toNat = i by omega, List.getElem?_map, List.getElem?_eq_getElem hk] at h2
          exact h2.symm
        have e2 : atI (ms.map V.int) ((0 + (i : Int) + 1) % many) = some (V.int ms[((0 + (i : Int) + 1) % many).toNat]) := by
          obtain ⟨v, h1, h2⟩ := atI_ex (xs := ms.map V.int) (i := (0 + (i : Int) + 1) % many) (by omega) (by rw [List.length_map]; omega)
          rw [h1]
          rw [List.getElem?_map, List.getElem?_eq_getElem hk2] at h2
          exact h2.symm
        refine ⟨by rw [hts.length]; omega, truN ⟨_, rfl, _, rfl, ln, _, _, _, rfl, rfl, SqL.of hL, e1, _, rfl, _, rfl, _, _, rfl, rfl, _, rfl, _, _, rfl, rfl, by omega, ln, _, _, _, rfl, rfl, SqL.of hL, e2, _, rfl, fa, sa, n', 6, rfl, f4, by decide, by decide, by omega, fun p H6 p0 p1 f6 x6 => ⟨by show 3 ≤ sizeLine; decide, fun t ht => ?_⟩⟩⟩
        have x7 : Ext [] H6 (upd H6 t (.tup [.int ms[i], .int ms[((0 + (i : Int) + 1) % many).toNat], .int p])) := .new ht
        refine ⟨⟨_, rfl⟩, ts ++ [(ms[i], ms[((0 + (i : Int) + 1) % many).toNat], p)], n' + 1, ((hts.ext x6).ext x7).append (.one upd_same), ?_, by simp [hlen], by omega, x7.keep _ _ (by simp) (x6.keep _ _ lnf' hL), f6.ext x7 (by simp) (by simp), by omega, by omega, (x4.trans x6).trans (x7.mono (by simp))⟩
        intro t' ht'
        rcases List.mem_append.mp ht' with h | h
        · exact hok t' h
        · have : t' = (ms[i], ms[((0 + (i : Int) + 1) % many).toNat], p) := by simpa using h
          subst this
          have w1 := min _ (List.getElem_mem hk)
          have w2 := min _ (List.getElem_mem hk2)
          refine ⟨w1.1, w1.2, w2.1, w2.2, fun z => ?_, p0, by show p ≤ 99; omega⟩
          have z' : ms[i] = ms[((0 + (i : Int) + 1) % many).toNat] := z
          have e : i = ((0 + (i : Int) + 1) % many).toNat := nodup_at mnd (List.getElem?_eq_getElem hk) (by rw [List.getElem?_eq_getElem hk2, ← z'])
          by_cases c : (i : Int) + 1 < many
          · rw [Int.emod_eq_of_lt (by omega) (by omega)] at e
            omega
          · have c' : 0 + (i : Int) + 1 = many := by omega
            rw [c', Int.emod_self] at e
            omega
      · rintro ys σ' H' ⟨_, ts, n', hts, hok, hlen, hi2, hL, f4, n1, n2, x4⟩
        refine ⟨by rw [hts.length]; omega, fun D hD => ?_⟩
        have hDf := f4.has hD
        exact ⟨D, ts, n', _, rfl, ⟨⟨ys, upd_same, hts.ext (Ext.new (S := []) hD)⟩, hok, hDf.1, hDf.2, x4.fresh (by simpa using hDf.1) hD, x4.trans (.new hD)⟩, by omega, f4.ext (Ext.new (S := []) hD) (by simp) (by simp), n1, by omega⟩
    rintro σ1 H3 ⟨l, ts, n1, yl, rfl, g1, hlen1, f4, a1, a2⟩
    obtain ⟨xs, e1, e2⟩ := g1.ex
    refine ⟨_, rfl, _, rfl, _, _, rfl, rfl, _, rfl, l, xs, rfl, .inl (SqL.of e1), _, _, rfl, rfl, fa, sa, n1, _, rfl, f4, by rw [e2.length]; omega, by rw [e2.length]; omega, by omega, fun r5 H5 c0 c1 f6 x6 => ⟨_, rfl, _, _, rfl, rfl, .inr ⟨_, rfl, _, _, rfl, rfl, .inl ⟨by omega, by omega⟩, _, rfl, ?_⟩⟩⟩
    rw [e2.length] at c1
    have hj : ∃ j : Int, r5 * (if decide (1 < many) = true then 1 else 0) = j ∧ 0 ≤ j ∧ j + ts.length ≤ ties ∧ (0 < j → 1 < many) := by
      by_cases h : 1 < many
      · exact ⟨r5, by simp [h], by omega, by omega, fun _ => h⟩
      · exact ⟨0, by simp [h], by omega, by omega, fun z => absurd z (by decide)⟩
    obtain ⟨j, ej, j0, j1, j2⟩ := hj
    rw [ej]
    refine ⟨by omega, by omega, for_range (fun i σ' H' => ∃ us n' x7 x8 x9, σ' = [some (.ref fa), some (.int mp), some (.int ties), some (.int many), some (.ref l), yl, x7, x8, x9] ∧ FoundG (TieW many) H H' fa sa l us ∧ i ≤ j.toNat ∧ us.length = ts.length + i ∧ Feed H' fa sa n' ∧ n ≤ n' ∧ n' ≤ n + 186 + 8 * i)
      ⟨ts, _, none, none, none, rfl, g1.step x6, by omega, by omega, f6, by omega, by omega⟩ ?_ ?_⟩
    · rintro i σ' H' hi ⟨us, n', x7, x8, x9, rfl, g3, hi2, hlen3, f7, d1, d2⟩
      have h1m : 1 < many := j2 (by omega)
      refine ⟨_, rfl, _, rfl, fa, sa, n', many, rfl, f7, by omega, by omega, by omega, fun a H6 u0 u1 f8 y1 => ?_⟩
      refine ⟨_, rfl, _, _, rfl, rfl, _, rfl, _, rfl, _, _, rfl, rfl, fa, sa, n' + 1, many - 1, rfl, f8, by omega, by omega, by omega, fun c H7 v0 v1 f9 y2 => ⟨_, _, rfl, rfl, _, rfl, _, _, rfl, rfl, by omega, ?_⟩⟩
      have b0' : 0 ≤ (a + 1 + c) % many := Int.emod_nonneg _ (by omega)
      have b1' : (a + 1 + c) % many < many := Int.emod_lt_of_pos _ (by omega)
      have abne : a ≠ (a + 1 + c) % many := by
        intro z
        by_cases k : a + 1 + c < many
        · rw [Int.emod_eq_of_lt (by omega) k] at z
          omega
        · have e : (a + 1 + c) % many = a + 1 + c - many := by
            rw [← Int.sub_emod_right, Int.emod_eq_of_lt (by omega) (by omega)]
          omega
      have g4 := (g3.step y1).step y2
      obtain ⟨ys, w1, w2⟩ := g4.ex
      refine ⟨_, rfl, .inl ⟨rfl, _, SqL.of w1⟩, _, rfl, _, rfl, _, rfl, fa, sa, n' + 1 + 1, 100, rfl, f9, by decide, by decide, by omega, fun p1 H8 q0 q1 f10 y3 => ⟨by show 7 ≤ sizeLine; decide, fun pl hpl => ?_⟩⟩
      have y4 : Ext [] H8 (upd H8 pl (.lst [.int 0, .int 1, .int 1, .int 2, .int 3, .int 99, .int p1])) := .new hpl
      have f11 := f10.ext y4 (by simp) (by simp)
      have plf := (f10.has hpl).1
      refine ⟨_, rfl, fa, sa, n' + 1 + 1 + 1, 7, rfl, f11, by decide, by decide, by omega, fun p2 H9 q2 q3 f12 y5 => ?_⟩
      obtain ⟨p, hp, p0, p99⟩ := price7 q0 q1 q2 q3
      have epl : H9 pl = some (.lst [.int 0, .int 1, .int 1, .int 2, .int 3, .int 99, .int p1]) := y5.keep _ _ (by simpa using plf) upd_same
      refine ⟨pl, _, p2, _, rfl, rfl, SqL.of epl, hp, by show 3 ≤ sizeLine; decide, fun t ht => ?_⟩
      have y6 : Ext [] H9 (upd H9 t (.tup [.int a, .int ((a + 1 + c) % many), .int p])) := .new ht
      have t4 : Ties (upd H9 t (.tup [.int a, .int ((a + 1 + c) % many), .int p])) [(a, (a + 1 + c) % many, p)] [.ref t] := .one upd_same
      have g5 := (((g4.step y3).step (y4.mono (S' := [fa]) (by simp))).step y5).step (y6.mono (S' := [fa]) (by simp))
      have f13 := f12.ext y6 (by simp) (by simp)
      generalize upd H9 t (.tup [.int a, .int ((a + 1 + c) % many), .int p]) = H10 at g5 f13 t4 ⊢
      obtain ⟨zs, w3, w4⟩ := g5.ex
      refine ⟨l, zs, .ref t, rfl, rfl, w3, by rw [w4.length]; omega, ?_⟩
      have okn : ∀ t' ∈ us ++ [(a, (a + 1 + c) % many, p)], TieW many t' := by
        intro t' ht'
        rcases List.mem_append.mp ht' with h | h
        · exact g5.ok t' h
        · have : t' = (a, (a + 1 + c) % many, p) := by simpa using h
          subst this
          exact ⟨u0, u1, b0', b1', abne, p0, p99⟩
      have g6 := g5.set (w4.append t4) okn
      have f14 := g5.feed f13 (o := .lst (zs ++ [.ref t]))
      generalize upd H10 l (.lst (zs ++ [.ref t])) = H11 at g6 f14 ⊢
      refine ⟨_, rfl, fa, sa, _, 6, rfl, f14, by decide, by decide, by omega, fun r6 H12 b0 b1 f15 y7 => ⟨rfl, _, rfl, ite2 (fun hz => ?_) (fun hz => ⟨_, _, _, _, _, rfl, g6.step y7, by omega, by simp; omega, f15, by omega, by omega⟩)⟩⟩
      have g7 := g6.step y7
      obtain ⟨as, w5, w6⟩ := g7.ex
      have hal := w6.length
      rw [List.length_append, List.length_singleton] at hal
      refine ⟨_, rfl, _, rfl, _, rfl, l, as, rfl, .inl (SqL.of w5), fa, sa, _, _, rfl, f15, by omega, by omega, by omega, fun r7 H13 b2 b3 f16 y8 => ?_⟩
      have g8 := g7.step y8
      have w7 : H13 l = some (.lst as) := y8.keep _ _ (by simpa using g8.nf) w5
      have w8 := w6.ext y8
      obtain ⟨v, hv, hv2⟩ := atI_ex b2 b3
      obtain ⟨tt, ht1, ht2⟩ := w8.at hv2
      refine ⟨l, as, _, v, rfl, rfl, SqL.of w7, hv, _, rfl, _, rfl, l, as, rfl, .inl (SqL.of w7), _, _, rfl, rfl, l, as, _, as.length - 1, rfl, rfl, w7, ?_, ?_⟩
      · rw [ixN_in (by omega) (by omega)]
        congr 1
        omega
      refine ⟨_, _, _, _, _, rfl, g8.set (w8.setAt ht2 (as.length - 1)) ?_, by omega, by simp; omega, g8.feed f16, by omega, by omega⟩
      intro t' ht'
      rcases List.mem_or_eq_of_mem_set ht' with h | h
      · exact g8.ok t' h
      · rw [h]; exact g8.ok tt (List.mem_of_getElem? ht1)
    · rintro σ' H' ⟨us, n', x7, x8, x9, rfl, g3, hi2, hlen3, f7, d1, d2⟩
      obtain ⟨ys, w1, w2⟩ := g3.ex
      refine ⟨_, rfl, _, rfl, _, rfl, fa, sa, n', l, ys, rfl, f7, w1, by rw [w2.length]; omega, by omega, fun s zs H'' hs hp hs0 sf ss f8 y1 => ?_⟩
      refine ⟨s, zs, rfl, .inl ⟨SqL.of hs, fun t ht => ⟨by show 2 ≤ sizeLine; decide, fun v hv => ?_⟩⟩⟩
      obtain ⟨vs, pv, hvs⟩ := (w2.ext y1).perm hp
      have y2 : Ext [] H'' (upd H'' t (.tup zs)) := .new ht
      have htv : t ≠ v := fun z => by rw [← z, upd_same] at hv; cases hv
      have y3 : Ext [] (upd H'' t (.tup zs)) (upd (upd H'' t (.tup zs)) v (.tup [.int many, .ref t])) := .new hv
      have pl := pv.length_eq
      have hwl := w2.length
      refine q many vs _ _ _ (.tup upd_same (.cons (.int _) (.cons (.tup (by rw [upd_ne htv]; exact upd_same) (((hvs.ext y2).ext y3) _)) .nil))) (by omega) (by omega) (by omega) (fun t' ht' => g3.ok t' (pv.mem_iff.mp ht')) (by omega) (by omega) ((f8.ext y2 (by simp) (by simp)).ext y3 (by simp) (by simp)) (((g3.ext.trans y1).trans (y2.mono (by simp))).trans (y3.mono (by simp)))
end
end Odj

set_option Elab.async false
set_option linter.all false
set_option maxRecDepth 100000
set_option maxHeartbeats 8000000
namespace L2
open PySem
section
variable {S : List Addr} {H : Hp}
theorem Reps.three {x y z : PyData} {vs : List V} (r : Reps S H [x, y, z] vs) : ∃ u v w, vs = [u, v, w] ∧ Rep S H x u ∧ Rep S H y v ∧ Rep S H z w := by
  obtain ⟨u, r1, e1, h1, h2⟩ := r.of_cons
  obtain ⟨v, r2, e2, h3, h4⟩ := h2.of_cons
  obtain ⟨w, r3, e3, h5, h6⟩ := h4.of_cons
  have e4 := h6.of_nil
  subst e1 e2 e3 e4
  exact ⟨u, v, w, rfl, h1, h3, h5⟩
theorem Reps.two {x y : PyData} {vs : List V} (r : Reps S H [x, y] vs) : ∃ u v, vs = [u, v] ∧ Rep S H x u ∧ Rep S H y v := by
  obtain ⟨u, r1, e1, h1, h2⟩ := r.of_cons
  obtain ⟨v, r2, e2, h3, h4⟩ := h2.of_cons
  have e4 := h4.of_nil
  subst e1 e2 e4
  exact ⟨u, v, rfl, h1, h3⟩
end
end L2
namespace Odj
open PySem L2
theorem dec_vint (a b : Int) : decide (V.int a = V.int b) = decide (a = b) := by
  by_cases h : a = b
  · subst h; simp
  · have : ¬ V.int a = V.int b := fun z => h (V.int.inj z)
    simp [h, this]
theorem kit3' {K : PySem.W.Frag} (d : PyData) : PySem.W.kitOne K (.type (tyD d)) (.type "tuple") = some (isTupD d) := by
  cases d <;> rfl
def tieKindD : PyData → Bool
  | .tuple [.int _, .int _, .int _] => true
  | _ => false
def webKindD (mp mt : Int) : PyData → Bool
  | .tuple [.int m, .tuple ts] => decide (1 ≤ m) && (decide (m ≤ mp) && decide ((ts.length : Int) ≤ mt))
  | _ => false
theorem kind_len {ds : List PyData} (h : ds.length ≠ 3) : tieKindD (.tuple ds) = false := by
  match ds, h with
  | [], _ => rfl
  | [_], _ => simp [tieKindD]
  | [_, _], _ => simp [tieKindD]
  | [_, _, _], h => exact absurd rfl h
  | _ :: _ :: _ :: _ :: _, _ => simp [tieKindD]
theorem kind_all (x y z : PyData) : tieKindD (.tuple [x, y, z]) = ([x, y, z].map isIntD).all id := by
  cases x <;> cases y <;> cases z <;> simp [tieKindD, isIntD]
theorem kind_parts {d : PyData} (h : tieKindD d = true) : ∃ a b c, d = .tuple [.int a, .int b, .int c] := by
  unfold tieKindD at h
  split at h
  · exact ⟨_, _, _, rfl⟩
  · cases h
theorem wkind_len {mp mt : Int} {ds : List PyData} (h : ds.length ≠ 2) : webKindD mp mt (.tuple ds) = false := by
  match ds, h with
  | [], _ => rfl
  | [_], _ => simp [webKindD]
  | [_, _], h => exact absurd rfl h
  | _ :: _ :: _ :: _, _ => simp [webKindD]
theorem wkind_1 {mp mt : Int} {x y : PyData} (h : isIntD x = false) : webKindD mp mt (.tuple [x, y]) = false := by
  cases x <;> first | rfl | cases h
theorem wkind_2 {mp mt : Int} {x y : PyData} (h : isTupD y = false) : webKindD mp mt (.tuple [x, y]) = false := by
  cases x <;> cases y <;> first | rfl | cases h
def spTieKind : Sp := fun vs H Q _ => ∃ S d v, vs = [v] ∧ Rep S H d v ∧ ∀ H', Ext [] H H' → Q (.bl (tieKindD d)) H'
def spWebKind : Sp := fun vs H Q _ => ∃ S d v mp mt, vs = [v, .int mp, .int mt] ∧ Rep S H d v ∧ Q (.bl (webKindD mp mt d)) H
def spTupOf : Sp := fun vs H Q _ => ∃ S d v n, vs = [v, .int n] ∧ Rep S H d v ∧ Q (.bl (tupOf n d)) H
structure Bt6 (mg : Str → Option Value) : Prop where
  all : mg "all" = none
theorem rep_ints' {S : List Addr} {H : Hp} {ns : List Int} {u : V} (h : Rep S H (.tuple (ns.map .int)) u) : ∃ a, u = .ref a ∧ H a = some (.tup (ns.map V.int)) := by
  obtain ⟨a, xs, rfl, ha, r⟩ := h.of_tup
  have : xs = ns.map V.int := by
    clear ha h
    induction ns generalizing xs with
    | nil => exact r.of_nil
    | cons n ns ih =>
      obtain ⟨x, t, rfl, h1, h2⟩ := r.of_cons
      cases h1.of_int
      rw [ih _ h2]
      rfl
  subst this
  exact ⟨a, rfl, ha⟩
structure GiO (mg : Str → Option Value) : Prop where
  MOST_ONEWAY_PLACES : ∃ t, mg "MOST_ONEWAY_PLACES" = some (.int 9 t)
  MOST_ONEWAY_TIES : ∃ t, mg "MOST_ONEWAY_TIES" = some (.int 16 t)
  MOST_ONEWAY_PRICE : ∃ t, mg "MOST_ONEWAY_PRICE" = some (.int 99 t)
def isWtieD (many : Int) : PyData → Bool
  | .tuple [.int a, .int b, .int c] => decide (0 ≤ a ∧ 0 ≤ b ∧ 0 ≤ c ∧ a < many ∧ b < many ∧ a ≠ b ∧ c ≤ 99)
  | _ => false
def isOnewayD : PyData → Bool
  | .tuple [.int m, .tuple ts] => decide (1 ≤ m) && (decide (m ≤ 9) && (decide ((ts.length : Int) ≤ 16) && ts.all (isWtieD m)))
  | _ => false
theorem wtie_no {m : Int} {d : PyData} (h : tieKindD d = false) : isWtieD m d = false := by
  unfold isWtieD
  split
  · cases h
  · rfl
theorem one_no {d : PyData} (h : webKindD 9 16 d = false) : isOnewayD d = false := by
  unfold isOnewayD
  split
  · rename_i m ts
    have h' : (decide (1 ≤ m) && (decide (m ≤ 9) && decide ((ts.length : Int) ≤ 16))) = false := h
    cases e1 : decide (1 ≤ m) <;> cases e2 : decide (m ≤ 9) <;> cases e3 : decide ((ts.length : Int) ≤ 16) <;> simp [e1, e2, e3] at h' ⊢
  · rfl
theorem one_parts {d : PyData} (h : webKindD 9 16 d = true) : ∃ m ts, d = .tuple [.int m, .tuple ts] ∧ 1 ≤ m ∧ m ≤ 9 ∧ ts.length ≤ 16 ∧ isOnewayD d = ts.all (isWtieD m) := by
  unfold webKindD at h
  split at h
  · rename_i m ts
    simp only [Bool.and_eq_true, decide_eq_true_eq] at h
    refine ⟨m, ts, rfl, h.1, h.2.1, by omega, ?_⟩
    show (decide (1 ≤ m) && (decide (m ≤ 9) && (decide ((ts.length : Int) ≤ 16) && ts.all (isWtieD m)))) = _
    rw [decide_eq_true h.1, decide_eq_true h.2.1, decide_eq_true h.2.2]
    rfl
  · cases h
def spWtie : Sp := fun vs H Q _ => ∃ S d v m, vs = [.int m, v] ∧ Rep S H d v ∧ ∀ H', Ext [] H H' → Q (.bl (isWtieD m d)) H'
def spOneway : Sp := fun vs H Q _ => ∃ S d v, vs = [v] ∧ Rep S H d v ∧ ∀ H', Ext [] H H' → Q (.bl (isOnewayD d)) H'
section
variable {P : Program} {w : World} {K : PySem.W.Frag} {mg : Str → Option Value} {base : Heap} {f : Addr} {fd : FuncData}
theorem d_is_tuple_of (F : Fun K "is_tuple_of" "is_tuple_of" (top 2) f fd) (hm : mg "is_tuple_of" = some (.ref f)) (B : Bt mg) : DefOk P w K mg base 1 "is_tuple_of" ["thing", "count"] spTupOf := by
  refine ⟨f, fd, ?_, hm, F.kp, F.binds fun _ _ _ _ _ _ us hl => match us, hl with | [_, _], _ => rfl⟩
  have sc : FnScope ["thing", "count"] ["thing", "count"] (defScope (top 2)) := ⟨rfl, rfl, rfl, by decide +kernel, rfl, by decide +kernel, by decide +kernel⟩
  refine F.okQ sc (fun vs H Q E h => ?_) (fun cdv A outer s H vs Q E hr h => ?_)
  · obtain ⟨S, d, v, n, rfl, _⟩ := h
    rfl
  · obtain ⟨S, d, v, n, rfl, rp, q⟩ := h
    refine ⟨_, (qss_one (qs_ret (qe_and (qe_callB (isiK K) (by rfl) B.isinstance (by decide +kernel) (qa_c (qv 0) (qa_c (qe_ty "tuple" (by rfl) B.tuple (by decide +kernel)) qa_nil))) (qe_one (qe_cmpR op_eq (qe_callB (lenK K) (by rfl) B.len (by decide +kernel) (qa_c (qv 0) qa_nil)) (qv 1) (nomark _)))))), ?_⟩
    refine ⟨v, rfl, v, _, _, _, rfl, rp.ty, kit3 d, _, rfl, ?_⟩
    cases d with
    | tuple ds =>
      obtain ⟨a, xs, rfl, ha, r⟩ := rp.of_tup
      refine iteT ⟨_, rfl, a, xs, rfl, .inr (SqT.of ha), _, rfl, rfl, ?_⟩
      rw [dec_vint, r.length]
      exact q
    | _ => exact iteF q
theorem d_is_tie_kind (F : Fun K "is_tie_kind" "is_tie_kind" (top 4) f fd) (hm : mg "is_tie_kind" = some (.ref f)) (B6 : Bt6 mg) (D_is_whole : DefOk P w K mg base 1 "is_whole" ["thing"] spIsWhole) (D_is_tuple_of : DefOk P w K mg base 1 "is_tuple_of" ["thing", "count"] spTupOf) : DefOk P w K mg base 2 "is_tie_kind" ["thing"] spTieKind := by
  refine ⟨f, fd, ?_, hm, F.kp, F.binds fun _ _ _ _ _ _ us hl => match us, hl with | [_], _ => rfl⟩
  have sc : FnScope ["thing"] ["thing"] (defScope (top 4)) := ⟨rfl, rfl, rfl, by decide +kernel, rfl, by decide +kernel, by decide +kernel⟩
  refine F.okQ sc (fun vs H Q E h => ?_) (fun cdv A outer s H vs Q E hr h => ?_)
  · obtain ⟨S, d, v, rfl, _⟩ := h
    rfl
  · obtain ⟨S, d, v, rfl, rp, q⟩ := h
    have hsz : sizeLine = 16777216 := by decide
    refine ⟨_, (qss_one (qs_ret (qe_and (qe_callD D_is_tuple_of (hr.mono (by decide)) (qa_c (qv 0) (qa_c qe_int qa_nil))) (qe_one (qe_callB (call_allL K rfl) (by rfl) B6.all (by decide +kernel) (qa_c (qe_comp (N := ["part"]) (mp := [none]) rfl (qi_tupK K (qv 0)) rfl (by show compOk ["thing"] (defScope (top 4)) _ _ _ = true; decide +kernel) fun _ _ _ _ _ => ⟨(qg_name (i := 0) (by show List.Nodup [("part" : Str)]; decide +kernel) rfl (Or.inl rfl)), qk_nil, (qe_callD D_is_whole (hr.mono (by decide)) (qa_c (qv 0) qa_nil))⟩) qa_nil)))))), ?_⟩
    refine ⟨v, rfl, S, d, v, 3, rfl, rp, _, rfl, ?_⟩
    cases d with
    | tuple ds =>
      obtain ⟨a, xs, rfl, ha, r⟩ := rp.of_tup
      by_cases hl : ds.length = 3
      · have e0 : tupOf 3 (.tuple ds) = true := by simp [tupOf, hl]
        rw [e0]
        match ds, hl, r, rp, q with
        | [x, y, z], _, r, rp, q =>
          obtain ⟨x', y', z', rfl, rx, ry, rz⟩ := r.three
          refine iteT ⟨_, rfl, a, rfl, ⟨_, SqT.of ha⟩, comp_tup (K := K) (a := a) (xs := [x', y', z']) (fun i ys σ' H' => (∃ y, σ' = [y]) ∧ H' = H ∧ ys = ([x, y, z].take i).map fun d => V.bl (isIntD d)) ⟨⟨none, rfl⟩, rfl, rfl⟩
            (fun i ys σ' H' e => by rw [e.2.1]; exact SqT.of ha) ?_ ?_⟩
          · rintro i u ys σ' H' hu ⟨⟨y0, rfl⟩, rfl, rfl⟩
            obtain ⟨dx, hd, rd⟩ := r.get hu
            have hi : i < 3 := (List.getElem?_eq_some_iff.mp hu).1
            refine ⟨by rw [List.length_map, List.length_take]; omega, truN ⟨_, rfl, S, dx, u, rfl, rd, ⟨_, rfl⟩, rfl, ?_⟩⟩
            rw [List.take_add_one, hd, List.map_append]
            rfl
          · rintro ys σ' H' ⟨⟨y0, rfl⟩, rfl, rfl⟩
            refine ⟨by show 3 ≤ sizeLine; decide, fun D hD => ⟨D, [x, y, z].map isIntD, rfl, SqL.of upd_same, ?_⟩⟩
            rw [kind_all] at q
            exact q _ (.new hD)
      · have e0 : tupOf 3 (.tuple ds) = false := by simp [tupOf]; omega
        have q2 := q H (.refl _ _)
        rw [kind_len hl] at q2
        rw [e0]
        exact iteF q2
    | _ => exact iteF (q H (.refl _ _))
theorem d_is_web_kind (F : Fun K "is_web_kind" "is_web_kind" (top 5) f fd) (hm : mg "is_web_kind" = some (.ref f)) (B : Bt mg) (D_is_whole : DefOk P w K mg base 1 "is_whole" ["thing"] spIsWhole) (D_is_tuple_of : DefOk P w K mg base 1 "is_tuple_of" ["thing", "count"] spTupOf) : DefOk P w K mg base 2 "is_web_kind" ["thing", "most_places", "most_ties"] spWebKind := by
  refine ⟨f, fd, ?_, hm, F.kp, F.binds fun _ _ _ _ _ _ us hl => match us, hl with | [_, _, _], _ => rfl⟩
  have sc : FnScope ["thing", "most_places", "most_ties"] ["thing", "most_places", "most_ties"] (defScope (top 5)) := ⟨rfl, rfl, rfl, by decide +kernel, rfl, by decide +kernel, by decide +kernel⟩
  refine F.okQ sc (fun vs H Q E h => ?_) (fun cdv A outer s H vs Q E hr h => ?_)
  · obtain ⟨S, d, v, mp, mt, rfl, _⟩ := h
    rfl
  · obtain ⟨S, d, v, mp, mt, rfl, rp, q0⟩ := h
    refine ⟨_, (qss_cons (qs_if (QW.pt (qw_or (qt_not (qt_val (qe_callD D_is_tuple_of (hr.mono (by decide)) (qa_c (qv 0) (qa_c qe_int qa_nil))))) (qw_or (qt_not (qt_val (qe_callD D_is_whole (hr.mono (by decide)) (qa_c (qe_ix (ixT K) (qv 0) qe_int (fun _ _ => rfl)) qa_nil)))) (qw_or1 (qt_not (qt_val (qe_callB (isiK K) (by rfl) B.isinstance (by decide +kernel) (qa_c (qe_ix (ixT K) (qv 0) qe_int (fun _ _ => rfl)) (qa_c (qe_ty "tuple" (by rfl) B.tuple (by decide +kernel)) qa_nil))))))))) (qss_one (qs_ret qe_bl)) qss_nil)
      (qss_one (qs_ret (qe_and (qe_cmpR op_ge (qe_ix (ixT K) (qv 0) qe_int (fun _ _ => rfl)) qe_int (nomark _)) (qe_and (qe_cmpR op_le (qe_ix (ixT K) (qv 0) qe_int (fun _ _ => rfl)) (qv 1) (nomark _)) (qe_one (qe_cmpR op_le (qe_callB (lenK K) (by rfl) B.len (by decide +kernel) (qa_c (qe_ix (ixT K) (qv 0) qe_int (fun _ _ => rfl)) qa_nil)) (qv 2) (nomark _)))))))), ?_⟩
    refine ⟨v, rfl, S, d, v, 2, rfl, rp, _, rfl, ?_⟩
    cases d with
    | tuple ds =>
      obtain ⟨a, xs, rfl, ha, r⟩ := rp.of_tup
      by_cases hl : ds.length = 2
      · have e0 : tupOf 2 (.tuple ds) = true := by simp [tupOf, hl]
        rw [e0]
        match ds, hl, r, rp, q0 with
        | [x, y], _, r, rp, q0 =>
          obtain ⟨x', y', rfl, rx, ry⟩ := r.two
          refine iteF ⟨_, rfl, a, _, 0, _, rfl, rfl, SqT.of ha, rfl, S, x, x', rfl, rx, _, rfl, ?_⟩
          cases hx : isIntD x with
          | false =>
            rw [wkind_1 hx] at q0
            exact iteT q0
          | true =>
            refine iteF ⟨_, rfl, a, _, 1, _, rfl, rfl, SqT.of ha, rfl, y', _, _, _, rfl, ry.ty, kit3' y, _, rfl, ?_⟩
            cases hy : isTupD y with
            | false =>
              rw [wkind_2 hy] at q0
              exact iteT q0
            | true =>
              refine iteF ?_
              cases x with
              | int m =>
                cases y with
                | tuple ts =>
                  cases rx.of_int
                  obtain ⟨t, txs, rfl, ht, rt⟩ := ry.of_tup
                  have tl := rt.length
                  have q2 : Q (.bl (decide (1 ≤ m) && (decide (m ≤ mp) && decide ((ts.length : Int) ≤ mt)))) H := q0
                  rw [← tl] at q2
                  refine ⟨_, rfl, a, _, 0, _, rfl, rfl, SqT.of ha, rfl, _, _, rfl, rfl, _, rfl, ite2 (fun h1 => ?_) (fun h1 => ?_)⟩
                  · have h1' : decide (1 ≤ m) = true := h1
                    rw [h1', Bool.true_and] at q2
                    refine ⟨_, rfl, a, _, 0, _, rfl, rfl, SqT.of ha, rfl, _, rfl, _, _, rfl, rfl, _, rfl, ite2 (fun h2 => ?_) (fun h2 => ?_)⟩
                    · have h2' : decide (m ≤ mp) = true := h2
                      rw [h2', Bool.true_and] at q2
                      exact ⟨_, rfl, a, _, 1, _, rfl, rfl, SqT.of ha, rfl, t, txs, rfl, .inr (SqT.of ht), _, rfl, _, _, rfl, rfl, q2⟩
                    · have h2' : decide (m ≤ mp) = false := Bool.not_eq_true _ |>.mp h2
                      rw [h2', Bool.false_and] at q2
                      exact q2
                  · have h1' : decide (1 ≤ m) = false := Bool.not_eq_true _ |>.mp h1
                    rw [h1', Bool.false_and] at q2
                    exact q2
                | _ => cases hy
              | _ => cases hx
      · have e0 : tupOf 2 (.tuple ds) = false := by simp [tupOf]; omega
        rw [wkind_len hl] at q0
        rw [e0]
        exact iteT q0
    | _ => exact iteT q0
theorem d_is_oneway_tie (F : Fun K "is_oneway_tie" "is_oneway_tie" (top 11) f fd) (hm : mg "is_oneway_tie" = some (.ref f)) (B3 : Bt3 mg) (M : GiO mg) (D_is_tie_kind : DefOk P w K mg base 2 "is_tie_kind" ["thing"] spTieKind) : DefOk P w K mg base 3 "is_oneway_tie" ["many", "thing"] spWtie := by
  refine ⟨f, fd, ?_, hm, F.kp, F.binds fun _ _ _ _ _ _ us hl => match us, hl with | [_, _], _ => rfl⟩
  have sc : FnScope ["many", "thing"] ["many", "thing"] (defScope (top 11)) := ⟨rfl, rfl, rfl, by decide +kernel, rfl, by decide +kernel, by decide +kernel⟩
  refine F.okQ sc (fun vs H Q E h => ?_) (fun cdv A outer s H vs Q E hr h => ?_)
  · obtain ⟨S, d, v, m, rfl, _⟩ := h
    rfl
  · obtain ⟨S, d, v, m, rfl, rp, q⟩ := h
    refine ⟨_, (qss_cons (qs_if (QW.pt (qw_or (qt_not (qt_val (qe_callD D_is_tie_kind (hr.mono (by decide)) (qa_c (qv 1) qa_nil)))) (qw_or1 (qt_cmpR op_lt (qe_callB (call_minTn K rfl) (by rfl) B3.min (by decide +kernel) (qa_c (qv 1) qa_nil)) qe_int (nomark _))))) (qss_one (qs_ret qe_bl)) qss_nil)
      (qss_one (qs_ret (qe_and (qe_cmpR op_lt (qe_callB (call_maxT K rfl) (by rfl) B3.max (by decide +kernel) (qa_c (qe_slice (slT K) (qv 1) qo_none (qo_some qe_int)) qa_nil)) (qv 0) (nomark _)) (qe_and (qe_cmpR op_ne (qe_ix (ixT K) (qv 1) qe_int (fun _ _ => rfl)) (qe_ix (ixT K) (qv 1) qe_int (fun _ _ => rfl)) (nomark _)) (qe_one (qe_cmpR op_le (qe_ix (ixT K) (qv 1) qe_int (fun _ _ => rfl)) (qe_globI (by rfl) M.MOST_ONEWAY_PRICE) (nomark _)))))))), ?_⟩
    refine ⟨_, rfl, S, d, v, rfl, rp, fun H2 x1 => ⟨_, rfl, ?_⟩⟩
    have q2 := q H2 x1
    cases hk : tieKindD d with
    | false =>
      rw [wtie_no hk] at q2
      exact iteT q2
    | true =>
      obtain ⟨p, b, c, rfl⟩ := kind_parts hk
      have rp2 := rp.ext (x1.mono (S' := S) (by simp))
      obtain ⟨a, xs, rfl, ha2, r⟩ := rp2.of_tup
      obtain ⟨x', y', z', rfl, rx, ry, rz⟩ := r.three
      cases rx.of_int
      cases ry.of_int
      cases rz.of_int
      refine iteF ⟨_, rfl, a, [p, b, c], rfl, SqT.of ha2, by simp, fun M hM hle => ⟨_, _, rfl, rfl, _, rfl, ite2 (fun h0 => ?_) (fun h0 => ?_)⟩⟩
      · have h0' : M < 0 := of_decide_eq_true h0
        simp only [List.mem_cons, List.not_mem_nil, or_false] at hM
        rw [show isWtieD m (.tuple [.int p, .int b, .int c]) = false from decide_eq_false (by omega)] at q2
        exact q2
      have h0' : ¬ M < 0 := fun z => h0 (decide_eq_true z)
      have l1 := hle p (by simp)
      have l2 := hle b (by simp)
      have l3 := hle c (by simp)
      refine ⟨_, rfl, 2, rfl, sl_rep rp2 fun v2 H3 x2 r2 => ?_⟩
      rw [cutL_to _ 2 (by decide)] at r2
      obtain ⟨t, hbv, hbb⟩ := rep_ints' (ns := [p, b]) r2
      subst hbv
      have ha3 := x2.tup _ _ ha2
      have q3 := q H3 (x1.trans x2)
      refine ⟨t, p, b, rfl, SqT.of hbb, _, rfl, _, _, rfl, rfl, _, rfl, ite2 (fun h1 => ?_) (fun h1 => ?_)⟩
      · have h1' : (if p < b then b else p) < m := of_decide_eq_true h1
        refine ⟨_, rfl, a, _, 0, _, rfl, rfl, SqT.of ha3, rfl, _, rfl, a, _, 1, _, rfl, rfl, SqT.of ha3, rfl, rfl, _, rfl, ite2 (fun h2 => ?_) (fun h2 => ?_)⟩
        · have h2' : p ≠ b := by
            intro z
            rw [z] at h2
            simp at h2
          refine ⟨_, rfl, a, _, 2, _, rfl, rfl, SqT.of ha3, rfl, _, _, rfl, rfl, ?_⟩
          have e : isWtieD m (.tuple [.int p, .int b, .int c]) = decide (c ≤ 99) := by
            show decide _ = decide _
            by_cases hc : c ≤ 99
            · rw [decide_eq_true hc, decide_eq_true (by split at h1' <;> exact ⟨by omega, by omega, by omega, by omega, by omega, h2', hc⟩)]
            · rw [decide_eq_false hc, decide_eq_false (fun z => hc z.2.2.2.2.2.2)]
          rw [e] at q3
          exact q3
        · have h2' : p = b := by
            by_cases z : p = b
            · exact z
            · exact absurd (by simp [z]) h2
          rw [show isWtieD m (.tuple [.int p, .int b, .int c]) = false from decide_eq_false (fun z => z.2.2.2.2.2.1 h2')] at q3
          exact q3
      · have h1' : ¬ (if p < b then b else p) < m := fun z => h1 (decide_eq_true z)
        rw [show isWtieD m (.tuple [.int p, .int b, .int c]) = false from decide_eq_false (by split at h1' <;> omega)] at q3
        exact q3
theorem d_is_oneway (F : Fun K "is_oneway" "is_oneway" (top 10) f fd) (hm : mg "is_oneway" = some (.ref f)) (B6 : Bt6 mg) (M : GiO mg) (D_is_web_kind : DefOk P w K mg base 2 "is_web_kind" ["thing", "most_places", "most_ties"] spWebKind)
    (D_is_oneway_tie : DefOk P w K mg base 3 "is_oneway_tie" ["many", "thing"] spWtie) : DefOk P w K mg base 4 "is_oneway" ["thing"] spOneway := by
  refine ⟨f, fd, ?_, hm, F.kp, F.binds fun _ _ _ _ _ _ us hl => match us, hl with | [_], _ => rfl⟩
  have sc : FnScope ["thing"] ["thing"] (defScope (top 10)) := ⟨rfl, rfl, rfl, by decide +kernel, rfl, by decide +kernel, by decide +kernel⟩
  refine F.okQ sc (fun vs H Q E h => ?_) (fun cdv A outer s H vs Q E hr h => ?_)
  · obtain ⟨S, d, v, rfl, _⟩ := h
    rfl
  · obtain ⟨S, d, v, rfl, rp, q⟩ := h
    have hsz : sizeLine = 16777216 := by decide
    refine ⟨_, (qss_cons (qs_if (qt_not (qt_val (qe_callD D_is_web_kind (hr.mono (by decide)) (qa_c (qv 0) (qa_c (qe_globI (by rfl) M.MOST_ONEWAY_PLACES) (qa_c (qe_globI (by rfl) M.MOST_ONEWAY_TIES) qa_nil)))))) (qss_one (qs_ret qe_bl)) qss_nil)
      (qss_one (qs_ret (qe_callB (call_allL K rfl) (by rfl) B6.all (by decide +kernel) (qa_c (qe_comp (N := ["tie", "thing"]) (mp := [none, some 0]) rfl (qi_tupK K (qe_ix (ixT K) (qv 0) qe_int (fun _ _ => rfl))) rfl (by show compOk ["thing"] (defScope (top 10)) _ _ _ = true; decide +kernel) fun _ _ _ _ _ => ⟨(qg_name (i := 0) (by show List.Nodup [("tie" : Str), ("thing" : Str)]; decide +kernel) rfl (Or.inl rfl)), qk_nil, (qe_callD D_is_oneway_tie (hr.mono (by decide)) (qa_c (qe_ix (ixT K) (qv 1) qe_int (fun _ _ => rfl)) (qa_c (qv 0) qa_nil)))⟩) qa_nil))))), ?_⟩
    refine ⟨_, rfl, S, d, v, 9, 16, rfl, rp, _, rfl, ?_⟩
    have q0 := q H (.refl _ _)
    cases hk : webKindD 9 16 d with
    | false =>
      rw [one_no hk] at q0
      exact iteT q0
    | true =>
      obtain ⟨m, ts, rfl, h1', h2', h3', eo⟩ := one_parts hk
      rw [eo] at q
      obtain ⟨a, t, txs, rfl, ha, ht, rt⟩ := web_of rp
      have tl := rt.length
      refine iteF ⟨_, rfl, a, _, 1, _, rfl, rfl, SqT.of ha, rfl, t, rfl, ⟨_, SqT.of ht⟩, comp_tup (K := K) (a := t) (xs := txs) (fun i ys σ' H' => (∃ y, σ' = [y, some (.ref a)]) ∧ Ext [] H H' ∧ ys = (ts.take i).map fun d => V.bl (isWtieD m d)) ⟨⟨none, rfl⟩, .refl _ _, rfl⟩
        (fun i ys σ' H' e => SqT.of (e.2.1.tup _ _ ht)) ?_ ?_⟩
      · rintro i u ys σ' H' hu ⟨⟨y0, rfl⟩, x1, rfl⟩
        obtain ⟨dx, hd, rd⟩ := rt.get hu
        refine ⟨by rw [List.length_map, List.length_take]; omega, truN ⟨_, rfl, a, _, 0, _, rfl, rfl, SqT.of (x1.tup _ _ ha), rfl, _, rfl, S, dx, u, m, rfl, rd.ext (x1.mono (by simp)), fun H2 x2 => ⟨⟨_, rfl⟩, x1.trans x2, ?_⟩⟩⟩
        rw [List.take_add_one, hd, List.map_append]
        rfl
      · rintro ys σ' H' ⟨⟨y0, rfl⟩, x1, rfl⟩
        rw [List.take_of_length_le (by rw [tl]; exact Nat.le_refl _)]
        refine ⟨by rw [List.length_map]; omega, fun D hD => ⟨D, ts.map (isWtieD m), rfl, SqL.of (by rw [List.map_map]; exact upd_same), ?_⟩⟩
        have q3 := fun o => q _ (x1.trans (.new (o := o) hD))
        rw [List.all_map]
        exact q3 _
end
end Odj

set_option Elab.async false
set_option linter.all false
set_option maxRecDepth 100000
set_option maxHeartbeats 8000000
namespace Odj
open PySem L2
theorem wt_len {m : Int} {ds : List PyData} (h : ds.length ≠ 3) : isWtieD m (.tuple ds) = false := by
  match ds, h with
  | [], _ => rfl
  | [_], _ => simp [isWtieD]
  | [_, _], _ => simp [isWtieD]
  | [_, _, _], h => exact absurd rfl h
  | _ :: _ :: _ :: _ :: _, _ => simp [isWtieD]
theorem wh_int {lo hi : Int} {d : PyData} (h : wholeD lo hi d = true) : ∃ i, d = .int i ∧ lo ≤ i ∧ i ≤ hi := by
  cases d with
  | int i =>
    have h' : (decide (lo ≤ i) && decide (i ≤ hi)) = true := h
    rw [Bool.and_eq_true] at h'
    exact ⟨i, rfl, of_decide_eq_true h'.1, of_decide_eq_true h'.2⟩
  | _ => cases h
theorem wh_no {lo hi i : Int} (h : wholeD lo hi (.int i) = false) : ¬ (lo ≤ i ∧ i ≤ hi) := fun z => by
  have h' : (decide (lo ≤ i) && decide (i ≤ hi)) = false := h
  rw [decide_eq_true z.1, decide_eq_true z.2] at h'
  cases h'
theorem wt_z {m : Int} {x y z : PyData} (h : wholeD 0 99 z = false) : isWtieD m (.tuple [x, y, z]) = false := by
  unfold isWtieD
  split
  · rename_i a b c e
    cases e
    exact decide_eq_false fun k => wh_no h ⟨k.2.2.1, k.2.2.2.2.2.2⟩
  · rfl
theorem wt_x {m : Int} {x y z : PyData} (h : wholeD 0 (m - 1) x = false) : isWtieD m (.tuple [x, y, z]) = false := by
  unfold isWtieD
  split
  · rename_i a b c e
    cases e
    exact decide_eq_false fun k => wh_no h ⟨k.1, by omega⟩
  · rfl
theorem wt_y {m : Int} {x y z : PyData} (h : wholeD 0 (m - 1) y = false) : isWtieD m (.tuple [x, y, z]) = false := by
  unfold isWtieD
  split
  · rename_i a b c e
    cases e
    exact decide_eq_false fun k => wh_no h ⟨k.2.1, by omega⟩
  · rfl
theorem one_len {ds : List PyData} (h : ds.length ≠ 2) : isOnewayD (.tuple ds) = false := one_no (wkind_len h)
theorem good_in {ds : List PyData} {d : PyData} (h : (PyData.tuple ds).canLay0 = true ∧ (PyData.tuple ds).depth ≤ 50) (hd : d ∈ ds) : d.canLay0 = true ∧ d.depth ≤ 50 := by
  have h1 : PyData.canLayAll0 ds = true := by simpa [PyData.canLay0] using h.1
  have h2 : PyData.depthAll ds + 1 ≤ 50 := by simpa [PyData.depth] using h.2
  clear h
  induction ds with
  | nil => cases hd
  | cons c cs ih =>
    simp only [PyData.canLayAll0, Bool.and_eq_true] at h1
    simp only [PyData.depthAll] at h2
    rcases List.mem_cons.mp hd with e | e
    · subst e
      exact ⟨h1.1, by omega⟩
    · exact ih e h1.2 (by omega)
def spOneL : Sp := fun vs H Q _ => ∃ S d v, vs = [v] ∧ Rep S H d v ∧ (d.canLay0 = true ∧ d.depth ≤ 50) ∧ ∀ H', Ext [] H H' → Q (.bl (isOnewayD d)) H'
section
variable {P : Program} {w : World} {K : PySem.W.Frag} {mg : Str → Option Value} {base : Heap} {f : Addr} {fd : FuncData}
theorem d_law_is_whole (F : Fun K "_law_is_whole" "_law_is_whole" (top 18) f fd) (hm : mg "_law_is_whole" = some (.ref f)) (B : Bt mg) : DefOk P w K mg base 1 "_law_is_whole" ["_law_thing", "_law_least", "_law_most"] spWhole := by
  refine ⟨f, fd, ?_, hm, F.kp, F.binds fun _ _ _ _ _ _ us hl => match us, hl with | [_, _, _], _ => rfl⟩
  have sc : FnScope ["_law_thing", "_law_least", "_law_most"] ["_law_thing", "_law_least", "_law_most"] (defScope (top 18)) := ⟨rfl, rfl, rfl, by decide +kernel, rfl, by decide +kernel, by decide +kernel⟩
  refine F.okQ sc (fun vs H Q E h => ?_) (fun cdv A outer s H vs Q E hr h => ?_)
  · obtain ⟨S, d, v, lo, hi, rfl, _⟩ := h
    rfl
  · obtain ⟨S, d, v, lo, hi, rfl, rp, q⟩ := h
    refine ⟨_, (qss_one (qs_ret (qe_and (qe_callB (isiK K) (by rfl) B.isinstance (by decide +kernel) (qa_c (qv 0) (qa_c (qe_ty "int" (by rfl) B.int (by decide +kernel)) qa_nil))) (qe_and (qe_not (qe_callB (isiK K) (by rfl) B.isinstance (by decide +kernel) (qa_c (qv 0) (qa_c (qe_ty "bool" (by rfl) B.bool (by decide +kernel)) qa_nil)))) (qe_one (qe_chain op_le op_le (qv 1) (qv 0) (qv 2))))))), ?_⟩
    refine ⟨v, rfl, v, _, _, _, rfl, rp.ty, kit1 d, _, rfl, ?_⟩
    cases d with
    | int i =>
      have ev := rp.of_int
      refine iteT ⟨v, rfl, v, _, _, _, rfl, rp.ty, kit2 _, _, rfl, _, rfl, iteT ⟨_, rfl, _, rfl, lo, i, rfl, ev, _, rfl, ite2 (fun h => ?_) (fun h => ?_)⟩⟩
      · refine ⟨_, rfl, i, hi, ev, rfl, ?_⟩
        have e : wholeD lo hi (.int i) = decide (i ≤ hi) := by show (decide (lo ≤ i) && decide (i ≤ hi)) = _; rw [h]; rfl
        rw [e] at q
        exact q
      · have e : wholeD lo hi (.int i) = false := by show (decide (lo ≤ i) && decide (i ≤ hi)) = _; rw [Bool.not_eq_true _ |>.mp h]; rfl
        rw [e] at q
        exact q
    | bool b => exact iteT ⟨v, rfl, v, _, _, _, rfl, rp.ty, kit2 _, _, rfl, _, rfl, iteF q⟩
    | _ => exact iteF q
theorem d_law_is_oneway (F : Fun K "_law_is_oneway" "_law_is_oneway" (top 19) f fd) (hm : mg "_law_is_oneway" = some (.ref f)) (B : Bt mg) (D_law_is_whole : DefOk P w K mg base 1 "_law_is_whole" ["_law_thing", "_law_least", "_law_most"] spWhole) : DefOk P w K mg base 2 "_law_is_oneway" ["_law_thing"] spOneL := by
  refine ⟨f, fd, ?_, hm, F.kp, F.binds fun _ _ _ _ _ _ us hl => match us, hl with | [_], _ => rfl⟩
  have sc : FnScope ["_law_thing", "_law_tie"] ["_law_thing"] (defScope (top 19)) := ⟨rfl, rfl, rfl, by decide +kernel, rfl, by decide +kernel, by decide +kernel⟩
  refine F.okQ sc (fun vs H Q E h => ?_) (fun cdv A outer s H vs Q E hr h => ?_)
  · obtain ⟨S, d, v, rfl, _⟩ := h
    rfl
  · obtain ⟨S, d, v, rfl, rp, gd, q⟩ := h
    have hsz : sizeLine = 16777216 := by decide
    refine ⟨_, (qss_cons (qs_if (QW.pt (qw_or (qt_not (qt_val (qe_callB (isiK K) (by rfl) B.isinstance (by decide +kernel) (qa_c (qv 0) (qa_c (qe_ty "tuple" (by rfl) B.tuple (by decide +kernel)) qa_nil))))) (qw_or (qt_cmpR op_ne (qe_callB (lenK K) (by rfl) B.len (by decide +kernel) (qa_c (qv 0) qa_nil)) qe_int (nomark _)) (qw_or1 (qt_not (qt_val (qe_callD D_law_is_whole (hr.mono (by decide)) (qa_c (qe_ix (ixT K) (qv 0) qe_int (fun _ _ => rfl)) (qa_c qe_int (qa_c qe_int qa_nil)))))))))) (qss_one (qs_ret qe_bl)) qss_nil)
      (qss_cons (qs_if (QW.pt (qw_or (qt_not (qt_val (qe_callB (isiK K) (by rfl) B.isinstance (by decide +kernel) (qa_c (qe_ix (ixT K) (qv 0) qe_int (fun _ _ => rfl)) (qa_c (qe_ty "tuple" (by rfl) B.tuple (by decide +kernel)) qa_nil))))) (qw_or1 (qt_cmpR op_gt (qe_callB (lenK K) (by rfl) B.len (by decide +kernel) (qa_c (qe_ix (ixT K) (qv 0) qe_int (fun _ _ => rfl)) qa_nil)) qe_int (nomark _))))) (qss_one (qs_ret qe_bl)) qss_nil)
      (qss_cons (qs_for PassesOwn.never rfl (qi_tupK K (qe_ix (ixT K) (qv 0) qe_int (fun _ _ => rfl))) (qg_name (i := 1) sc.nd rfl (Or.inl rfl)) (qss_cons (qs_if (QW.pt (qw_or (qt_not (qt_val (qe_callB (isiK K) (by rfl) B.isinstance (by decide +kernel) (qa_c (qv 1) (qa_c (qe_ty "tuple" (by rfl) B.tuple (by decide +kernel)) qa_nil))))) (qw_or (qt_cmpR op_ne (qe_callB (lenK K) (by rfl) B.len (by decide +kernel) (qa_c (qv 1) qa_nil)) qe_int (nomark _)) (qw_or1 (qt_not (qt_val (qe_callD D_law_is_whole (hr.mono (by decide)) (qa_c (qe_ix (ixT K) (qv 1) qe_int (fun _ _ => rfl)) (qa_c qe_int (qa_c qe_int qa_nil)))))))))) (qss_one (qs_ret qe_bl)) qss_nil)
      (qss_one (qs_if (QW.pt (qw_or (qt_cmpR (op_neD hr) (qe_comp (N := ["_law_one", "_law_thing"]) (mp := [none, some 0]) rfl (qi_tupK K (qe_slice (slT K) (qv 1) qo_none (qo_some qe_int))) rfl (by show compOk ["_law_thing", "_law_tie"] (defScope (top 19)) _ _ _ = true; decide +kernel) fun _ _ _ _ _ => ⟨(qg_name (i := 0) (by show List.Nodup [("_law_one" : Str), ("_law_thing" : Str)]; decide +kernel) rfl (Or.inl rfl)), (qk_one (qt_not (qt_val (qe_callD D_law_is_whole (hr.mono (by decide)) (qa_c (qv 0) (qa_c qe_int (qa_c (qe_op op_sub (qe_ix (ixT K) (qv 1) qe_int (fun _ _ => rfl)) qe_int) qa_nil))))))), (qv 0)⟩) (qe_lst qa_nil) (nomark _)) (qw_or1 (qt_cmpR op_eq (qe_ix (ixT K) (qv 1) qe_int (fun _ _ => rfl)) (qe_ix (ixT K) (qv 1) qe_int (fun _ _ => rfl)) (nomark _))))) (qss_one (qs_ret qe_bl)) qss_nil))))
      (qss_one (qs_ret qe_bl))))), ?_⟩
    have q0 := q H (.refl _ _)
    refine ⟨v, rfl, v, _, _, _, rfl, rp.ty, kit3' d, _, rfl, ?_⟩
    cases d with
    | tuple ds =>
      obtain ⟨a, xs, rfl, ha, r⟩ := rp.of_tup
      refine iteF ⟨_, rfl, a, xs, rfl, .inr (SqT.of ha), rfl, _, rfl, ite2 (fun hl => ?_) (fun hl => ?_)⟩
      · have hl' : ds.length ≠ 2 := fun z => by
          rw [r.length, z] at hl
          simp at hl
        rw [one_len hl'] at q0
        exact iteT q0
      have hl' : ds.length = 2 := by
        have : V.int (xs.length : Nat) = V.int 2 := by
          by_cases z : V.int (xs.length : Nat) = V.int 2
          · exact z
          · exact absurd (by simp [z]) hl
        have := V.int.inj this
        rw [r.length] at this
        omega
      match ds, hl', r, rp, q, q0, gd with
      | [x, y], _, r, rp, q, q0, gd =>
        obtain ⟨x', y', rfl, rx, ry⟩ := r.two
        refine ⟨_, rfl, a, _, 0, _, rfl, rfl, SqT.of ha, rfl, S, x, x', 1, 9, rfl, rx, _, rfl, ?_⟩
        cases hx : wholeD 1 9 x with
        | false =>
          have e : isOnewayD (.tuple [x, y]) = false := by
            refine one_no ?_
            cases x with
            | int m =>
              cases y with
              | tuple ts =>
                have := wh_no hx
                show (decide (1 ≤ m) && (decide (m ≤ 9) && decide ((ts.length : Int) ≤ 16))) = false
                by_cases c1 : 1 ≤ m
                · rw [decide_eq_false (show ¬ m ≤ 9 from fun z => this ⟨c1, z⟩), Bool.false_and, Bool.and_false]
                · rw [decide_eq_false c1, Bool.false_and]
              | _ => rfl
            | _ => rfl
          rw [e] at q0
          exact iteT q0
        | true =>
          obtain ⟨m, rfl, h1', h2'⟩ := wh_int hx
          refine iteF ⟨_, rfl, a, _, 1, _, rfl, rfl, SqT.of ha, rfl, y', _, _, _, rfl, ry.ty, kit3' y, _, rfl, ?_⟩
          cases hy : isTupD y with
          | false =>
            rw [one_no (wkind_2 hy)] at q0
            exact iteT q0
          | true =>
            cases y with
            | tuple ts =>
              cases rx.of_int
              obtain ⟨t, txs, rfl, ht, rt⟩ := ry.of_tup
              have tl := rt.length
              refine iteF ⟨_, rfl, a, _, 1, _, rfl, rfl, SqT.of ha, rfl, t, txs, rfl, .inr (SqT.of ht), _, _, rfl, rfl, _, rfl, ite2 (fun h3 => ?_) (fun h3 => ?_)⟩
              · have h3' : (16 : Int) < (txs.length : Nat) := of_decide_eq_true h3
                have e : isOnewayD (.tuple [.int m, .tuple ts]) = false := by
                  show (decide (1 ≤ m) && (decide (m ≤ 9) && (decide ((ts.length : Int) ≤ 16) && ts.all (isWtieD m)))) = false
                  rw [decide_eq_false (show ¬ (ts.length : Int) ≤ 16 by omega), Bool.false_and, Bool.and_false, Bool.and_false]
                rw [e] at q0
                exact q0
              have h3' : ts.length ≤ 16 := by
                have : ¬ (16 : Int) < (txs.length : Nat) := fun z => h3 (decide_eq_true z)
                omega
              have eo : isOnewayD (.tuple [.int m, .tuple ts]) = ts.all (isWtieD m) := by
                show (decide (1 ≤ m) && (decide (m ≤ 9) && (decide ((ts.length : Int) ≤ 16) && ts.all (isWtieD m)))) = _
                rw [decide_eq_true h1', decide_eq_true h2', decide_eq_true (show (ts.length : Int) ≤ 16 by omega)]
                rfl
              rw [eo] at q
              have gts : ∀ c ∈ ts, c.canLay0 = true ∧ c.depth ≤ 50 := fun c hc => good_in (good_in gd (by simp : PyData.tuple ts ∈ [PyData.int m, .tuple ts])) hc
              refine ⟨_, rfl, a, _, 1, _, rfl, rfl, SqT.of ha, rfl, t, rfl, ⟨_, SqT.of ht⟩, for_tup (K := K) (a := t) (xs := txs) (fun i σ H' => Ext [] H H' ∧ (∃ y, σ = [some (.ref a), y]) ∧ ts.all (isWtieD m) = (ts.drop i).all (isWtieD m)) ⟨.refl _ _, ⟨_, rfl⟩, rfl⟩ (fun i σ H' _ e => SqT.of (e.1.tup _ _ ht)) ?_ ?_⟩
              · rintro i u σ H' hu ⟨x1, ⟨y0, rfl⟩, hz⟩
                obtain ⟨d, hd, rd0⟩ := rt.get hu
                have rd := rd0.ext (x1.mono (S' := S) (by simp))
                have gdd := gts d (List.mem_of_getElem? hd)
                have hlt : i < ts.length := (List.getElem?_eq_some_iff.mp hd).1
                have hdr : ts.drop i = d :: ts.drop (i + 1) := by
                  rw [List.drop_eq_getElem_cons hlt]
                  congr
                  exact (List.getElem?_eq_some_iff.mp hd).2
                rw [hdr, List.all_cons] at hz
                have no : ∀ H2, Ext [] H H2 → isWtieD m d = false → Q (.bl false) H2 := fun H2 x2 z => by
                  have := q H2 x2
                  rw [hz, z, Bool.false_and] at this
                  exact this
                refine ⟨u, rfl, u, _, _, _, rfl, rd.ty, kit3' d, _, rfl, ?_⟩
                cases d with
                | tuple es =>
                  obtain ⟨b, ys, rfl, hb, re⟩ := rd.of_tup
                  refine iteF ⟨_, rfl, b, ys, rfl, .inr (SqT.of hb), rfl, _, rfl, ite2 (fun hl => ?_) (fun hl => ?_)⟩
                  · have hl' : es.length ≠ 3 := fun z => by
                      rw [re.length, z] at hl
                      simp at hl
                    exact iteT (no H' x1 (wt_len hl'))
                  have hl' : es.length = 3 := by
                    have : V.int (ys.length : Nat) = V.int 3 := by
                      by_cases z : V.int (ys.length : Nat) = V.int 3
                      · exact z
                      · exact absurd (by simp [z]) hl
                    have := V.int.inj this
                    rw [re.length] at this
                    omega
                  match es, hl', re, rd, no, hz, gdd with
                  | [c1, c2, c3], _, re, rd, no, hz, gdd =>
                    obtain ⟨u1, u2, u3, rfl, r1, r2, r3⟩ := re.three
                    refine ⟨_, rfl, b, _, 2, _, rfl, rfl, SqT.of hb, rfl, S, c3, u3, 0, 99, rfl, r3, _, rfl, ?_⟩
                    cases w3 : wholeD 0 99 c3 with
                    | false => exact iteT (no H' x1 (wt_z w3))
                    | true =>
                      refine iteF ⟨_, rfl, 2, rfl, sl_rep rd fun v2 H2 x2 s2 => ?_⟩
                      rw [cutL_to _ 2 (by decide)] at s2
                      obtain ⟨b2, zs, rfl, hb2, rz⟩ := s2.of_tup
                      have x12 := x1.trans x2
                      refine ⟨b2, rfl, ⟨_, SqT.of hb2⟩, comp_tup (K := K) (a := b2) (xs := zs) (fun j ys σ' H' => (∃ y, σ' = [y, some (.ref a)]) ∧ H' = H2 ∧ Reps S H2 (([c1, c2].take j).filter fun c => !wholeD 0 (m - 1) c) ys ∧ ys.length ≤ j) ⟨⟨none, rfl⟩, rfl, .nil, Nat.le_refl _⟩
                        (fun j ys σ' H' e => by rw [e.2.1]; exact SqT.of hb2) ?_ ?_⟩
                      · rintro j u ys σ' H3 hu ⟨⟨y1, rfl⟩, rfl, rys, yl⟩
                        obtain ⟨c, hc, rc⟩ := rz.get hu
                        have hj : j < 2 := (List.getElem?_eq_some_iff.mp hc).1
                        have htk : [c1, c2].take (j + 1) = [c1, c2].take j ++ [c] := by
                          have hc' : [c1, c2][j]? = some c := hc
                          rw [List.take_add_one, hc']
                          rfl
                        refine ⟨by omega, _, rfl, _, rfl, a, _, 0, _, rfl, rfl, SqT.of (x12.tup _ _ ha), rfl, _, _, rfl, rfl, S, c, u, 0, m - 1, rfl, rc, _, rfl, ?_⟩
                        rw [htk, List.filter_append]
                        cases wc : wholeD 0 (m - 1) c with
                        | false =>
                          refine iteT ⟨_, rfl, ⟨_, rfl⟩, rfl, ?_, by simp; omega⟩
                          rw [List.filter_cons_of_pos (by rw [wc]; rfl)]
                          exact rys.append (.cons rc .nil)
                        | true =>
                          refine iteF ⟨⟨_, rfl⟩, rfl, ?_, by omega⟩
                          rw [List.filter_cons_of_neg (by rw [wc]; decide), List.filter_nil, List.append_nil]
                          exact rys
                      · rintro ys σ' H3 ⟨⟨y1, rfl⟩, rfl, rys, yl⟩
                        have zl := rz.length
                        rw [List.take_of_length_le (by rw [zl]; exact Nat.le_refl _)] at rys
                        refine ⟨by rw [zl] at yl; have : ([c1, c2, c3].take (2 : Int).toNat).length = 2 := rfl; omega, fun D hD => ?_⟩
                        have z1 : Ext [] H3 (upd H3 D (.lst ys)) := .new hD
                        have e1 : (upd H3 D (.lst ys)) D = some (.lst ys) := upd_same
                        have rys1 := rys.ext (z1.mono (S' := S) (by simp))
                        generalize upd H3 D (.lst ys) = H4 at z1 e1 rys1 ⊢
                        refine ⟨Nat.zero_le _, fun p hp => ?_⟩
                        have z2 : Ext [] H4 (upd H4 p (.lst [])) := .new hp
                        have e2 : (upd H4 p (.lst [])) p = some (.lst []) := upd_same
                        have e1' := z2.keep _ _ (by simp) e1
                        have rys2 := (rys1.ext (z2.mono (S' := S) (by simp))).less (S' := []) (by simp)
                        have x4 := (x12.trans z1).trans z2
                        generalize upd H4 p (.lst []) = H5 at z2 e2 e1' rys2 x4 ⊢
                        have gl : PyData.canLayAll0 ([c1, c2].filter fun c => !wholeD 0 (m - 1) c) = true ∧ PyData.depthAll ([c1, c2].filter fun c => !wholeD 0 (m - 1) c) ≤ 50 := by
                          have g1 := good_in gdd (by simp : c1 ∈ [c1, c2, c3])
                          have g2 := good_in gdd (by simp : c2 ∈ [c1, c2, c3])
                          cases k1 : wholeD 0 (m - 1) c1 <;> cases k2 : wholeD 0 (m - 1) c2 <;> simp [k1, k2, PyData.canLayAll0, PyData.depthAll, g1.1, g2.1, g1.2, g2.2]
                          omega
                        refine ⟨[], .list ([c1, c2].filter fun c => !wholeD 0 (m - 1) c), .list [], .lst e1' (by simp) rys2, .lst e2 (by simp) .nil, gl.1, rfl, ?_, _, rfl, ?_⟩
                        · show PyData.depthAll _ + 1 ≤ 60
                          omega
                        cases k1 : wholeD 0 (m - 1) c1 with
                        | false =>
                          rw [List.filter_cons_of_pos (by rw [k1]; rfl)]
                          exact iteT (no H5 x4 (wt_x k1))
                        | true =>
                          cases k2 : wholeD 0 (m - 1) c2 with
                          | false =>
                            rw [List.filter_cons_of_neg (by rw [k1]; decide), List.filter_cons_of_pos (by rw [k2]; rfl)]
                            exact iteT (no H5 x4 (wt_y k2))
                          | true =>
                            rw [List.filter_cons_of_neg (by rw [k1]; decide), List.filter_cons_of_neg (by rw [k2]; decide), List.filter_nil]
                            obtain ⟨i1, rfl, p1, p2⟩ := wh_int k1
                            obtain ⟨i2, rfl, p3, p4⟩ := wh_int k2
                            obtain ⟨i3, rfl, p5, p6⟩ := wh_int w3
                            cases r1.of_int
                            cases r2.of_int
                            have hb5 := ((x2.trans z1).trans z2).tup _ _ hb
                            refine iteF ⟨_, rfl, b, _, 0, _, rfl, rfl, SqT.of hb5, rfl, _, rfl, b, _, 1, _, rfl, rfl, SqT.of hb5, rfl, rfl, _, rfl, ite2 (fun he => ?_) (fun he => ?_)⟩
                            · have he' : i1 = i2 := V.int.inj (of_decide_eq_true he)
                              exact no H5 x4 (decide_eq_false fun z => z.2.2.2.2.2.1 he')
                            · have he' : i1 ≠ i2 := fun z => he (decide_eq_true (by rw [z]))
                              refine ⟨x4, ⟨_, rfl⟩, ?_⟩
                              have et : isWtieD m (.tuple [.int i1, .int i2, .int i3]) = true := decide_eq_true ⟨p1, p3, p5, by omega, by omega, he', p6⟩
                              rw [hz, et, Bool.true_and]
                | _ => exact iteT (no H' x1 rfl)
              · rintro σ H' ⟨x1, ⟨y0, rfl⟩, hz⟩
                have := q H' x1
                rw [hz, List.drop_of_length_le (by rw [tl]; exact Nat.le_refl _)] at this
                exact this
            | _ => cases hy
    | _ => exact iteT q0
end
end Odj

set_option Elab.async false
set_option linter.all false
set_option maxRecDepth 100000
set_option maxHeartbeats 8000000
namespace Odj
open PySem L2
def Plain (T : PyData → Prop) : Prop := ∀ d, T d → (∃ i, d = .int i) ∨ ∃ ds, d = .tuple ds ∧ ∀ c ∈ ds, T c
def spOtherw (k : Nat) : Sp := fun vs H Q _ => ∃ (fa sa : Addr) (n : Int) (d : PyData) (v : V) (dp : Int) (B : Nat) (T : PyData → Prop), vs = [.ref fa, v, .int dp] ∧ Feed H fa sa n ∧ Rep [fa] H d v ∧ Plain T ∧ T d ∧ Gd B d ∧ 10 ^ 39 ≤ B ∧ B + 1 ≤ 10 ^ 49 ∧ d.depth < k ∧ d.weight ≤ 50000 ∧ d.depth ≤ 50 ∧ n + 4 * ((d.depth : Int) + 1) ≤ most ∧
  ∀ (d' : PyData) (v' : V) (n' : Int) (H' : Hp), Rep [fa] H' d' v' → Gd (B + 1) d' → d'.weight ≤ 2 * d.weight + 400 → d'.depth ≤ d.depth + 1 → n ≤ n' → n' ≤ n + 4 * ((d.depth : Int) + 1) → Feed H' fa sa n' → Ext [fa] H H' → Q v' H'
theorem cut_w (ds : List PyData) (lo hi : Option Int) : PyData.weightAll (cutL ds lo hi) ≤ PyData.weightAll ds ∧ PyData.depthAll (cutL ds lo hi) ≤ PyData.depthAll ds ∧ (cutL ds lo hi).length ≤ ds.length := by
  unfold cutL
  generalize HT.sIx ds.length 0 lo = p
  generalize HT.sIx ds.length ds.length hi - p = r
  have w1 := wA_split ds p
  have w2 := wA_split (ds.drop p) r
  have d1 := dA_split ds p
  have d2 := dA_split (ds.drop p) r
  refine ⟨by omega, by omega, ?_⟩
  rw [List.length_take, List.length_drop]
  omega
theorem cut_gd {B : Nat} {ds : List PyData} (h : GdL B ds) (lo hi : Option Int) : GdL B (cutL ds lo hi) := gdl_take (gdl_drop h _) _
section
variable {P : Program} {w : World} {K : PySem.W.Frag} {mg : Str → Option Value} {base : Heap} {f : Addr} {fd : FuncData}
theorem d_otherwiseW (F : Fun K "_law_otherwise" "_law_otherwise" (top 17) f fd) (hm : mg "_law_otherwise" = some (.ref f)) (B : Bt mg) (B3 : Bt3 mg) (B4 : Bt4 mg) (D_law_draw : DefOk P w K mg base 1 "_law_draw" ["_law_feed_here", "_law_many"] spDraw) :
    ∀ k, DefOk P w K mg base (k + 3) "_law_otherwise" ["_law_feed_here", "_law_thing", "_law_deep"] (spOtherw k) := by
  intro k
  induction k with
  | zero =>
    refine ⟨f, fd, ⟨fun vs H Q E h => ?_, fun A outer s H args us vs Q E _ _ _ _ h => ?_⟩, hm, F.kp, F.binds fun _ _ _ _ _ _ us hl => match us, hl with | [_, _, _], _ => rfl⟩
    · obtain ⟨_, _, _, _, _, _, _, _, rfl, _⟩ := h
      rfl
    · obtain ⟨_, _, _, _, _, _, _, _, _, _, _, _, _, _, _, _, h, _⟩ := h
      exact absurd h (Nat.not_lt_zero _)
  | succ k ih =>
    have D_law_otherwise := ih
    refine ⟨f, fd, ?_, hm, F.kp, F.binds fun _ _ _ _ _ _ us hl => match us, hl with | [_, _, _], _ => rfl⟩
    have sc : FnScope ["_law_feed_here", "_law_thing", "_law_deep", "_law_way", "_law_at", "_law_some"] ["_law_feed_here", "_law_thing", "_law_deep"] (defScope (top 17)) := ⟨rfl, rfl, rfl, by decide +kernel, rfl, by decide +kernel, by decide +kernel⟩
    refine F.okQ (k := k + 3) sc (fun vs H Q E h => ?_) (fun cdv A outer s H vs Q E hr h => ?_)
    · obtain ⟨_, _, _, _, _, _, _, _, rfl, _⟩ := h
      rfl
    obtain ⟨fa, sa, n, d, v, dp, Bo, T, rfl, fe, rp, pT, tT, gd, b0, b1, hdk, hw, hd50, nm, q⟩ := h
    have hsz : sizeLine = 16777216 := by decide
    have hmo : most = 1099511627776 := rfl
    refine ⟨_, (qss_cons (qs_set (i := 3) sc.nd rfl (Or.inl rfl) (qe_callD D_law_draw (hr.mono (by omega)) (qa_c (qv 0) (qa_c qe_int qa_nil))))
      (qss_cons (qs_if (qt_val (qe_callB (isiK K) (by rfl) B.isinstance (by decide +kernel) (qa_c (qv 1) (qa_c (qe_ty "tuple" (by rfl) B.tuple (by decide +kernel)) qa_nil)))) (qss_cons (qs_set (i := 4) sc.nd rfl (Or.inl rfl) (qe_callD D_law_draw (hr.mono (by omega)) (qa_c (qv 0) (qa_c (qe_op op_add (qe_callB (lenK K) (by rfl) B.len (by decide +kernel) (qa_c (qv 1) qa_nil)) qe_int) qa_nil))))
      (qss_cut (qs_if (QW.pt (qw_and (qt_cmpR op_gt (qv 3) qe_int (nomark _)) (qw_and (qt_cmpR op_lt (qv 4) (qe_callB (lenK K) (by rfl) B.len (by decide +kernel) (qa_c (qv 1) qa_nil)) (nomark _)) (qw_and1 (qt_cmpR op_gt (qv 2) qe_int (nomark _)))))) (qss_one (qs_ret (qe_op (catT K) (qe_op (catT K) (qe_slice (slT K) (qv 1) qo_none (qo_some (qv 4))) (qe_tup (qa_c (qe_callD D_law_otherwise hr (qa_c (qv 0) (qa_c (qe_ix (ixT K) (qv 1) (qv 4) (fun _ _ => rfl)) (qa_c (qe_op op_sub (qv 2) qe_int) qa_nil)))) qa_nil))) (qe_slice (slT K) (qv 1) (qo_some (qe_op op_add (qv 4) qe_int)) qo_none)))) qss_nil)
      (qss_cons (qs_set (i := 5) sc.nd rfl (Or.inl rfl) (qe_lst (qa_c (qe_callTy (listK K) (by rfl) B3.list (by decide +kernel) (qa_c (qv 1) qa_nil)) (qa_c (qe_op (catT K) (qe_slice (slT K) (qv 1) qo_none (qo_some (qv 4))) (qe_slice (slT K) (qv 1) (qo_some (qe_op op_add (qv 4) qe_int)) qo_none)) (qa_c (qe_op (catT K) (qe_op (catT K) (qe_slice (slT K) (qv 1) qo_none (qo_some (qv 4))) (qe_slice (slT K) (qv 1) (qo_some (qv 4)) (qo_some (qe_op op_add (qv 4) qe_int)))) (qe_slice (slT K) (qv 1) (qo_some (qv 4)) qo_none)) (qa_c (qe_rev K (qv 1)) qa_nil))))))
      (qss_one (qs_ret (qe_ix (ixL K) (qe_op op_cat (qv 5) (qe_lst (qa_c (qe_op (catT K) (qv 1) (qe_tup (qa_c qe_int qa_nil))) (qa_c qe_non (qa_c (qe_tup qa_nil) qa_nil))))) (qe_callD D_law_draw (hr.mono (by omega)) (qa_c (qv 0) (qa_c qe_int qa_nil))) (fun _ _ => rfl))))))) qss_nil)
      (qss_cons (qs_if (qt_val (qe_callB (isiK K) (by rfl) B.isinstance (by decide +kernel) (qa_c (qv 1) (qa_c (qe_ty "int" (by rfl) B.int (by decide +kernel)) qa_nil)))) (qss_one (qs_ret (qe_ix (ixL K) (qe_lst (qa_c (qe_op op_add (qv 1) qe_int) (qa_c (qe_op op_sub (qv 1) qe_int) (qa_c (qe_cmpR op_eq (qv 1) qe_int (nomark _)) (qa_c (qe_un un_neg qe_int) (qa_c qe_non (qa_c (qe_op op_pow qe_int qe_int) (qa_c (qe_callTy call_str_int (by rfl) B4.str (by decide +kernel) (qa_c (qv 1) qa_nil)) (qa_c (qe_lst (qa_c (qv 1) qa_nil)) (qa_c qe_int qa_nil)))))))))) (qe_callD D_law_draw (hr.mono (by omega)) (qa_c (qv 0) (qa_c qe_int qa_nil))) (fun _ _ => rfl)))) qss_nil)
      (qss_one (qs_ret (qe_ix (ixL K) (qe_lst (qa_c qe_str (qa_c qe_str (qa_c qe_str (qa_c qe_str (qa_c qe_str (qa_c qe_str (qa_c qe_non (qa_c (qe_lst (qa_c qe_str qa_nil)) (qa_c qe_int qa_nil)))))))))) (qe_callD D_law_draw (hr.mono (by omega)) (qa_c (qv 0) (qa_c qe_int qa_nil))) (fun _ _ => rfl))))))), ?_⟩
    have n0 := fe.lo
    have hn4 : (0 : Int) ≤ d.depth := Int.natCast_nonneg _
    refine ⟨_, rfl, fa, sa, n, 8, rfl, fe, by decide, by decide, by omega, fun way H1 w0 w1 f1 x1 => ?_⟩
    have rp1 := rp.ext x1
    refine ⟨v, rfl, v, _, _, _, rfl, rp1.ty, kit3 d, _, rfl, ?_⟩
    rcases pT d tT with ⟨i, rfl⟩ | ⟨ds, rfl, hds⟩
    · obtain rfl := rp1.of_int
      refine iteF ⟨_, rfl, _, _, _, _, rfl, rp1.ty, kit1 _, _, rfl, iteT ?_⟩
      have hi : i.natAbs ≤ Bo := by simpa only [Gd] using gd
      have hlt : i.natAbs < 2 ^ 180 := Nat.lt_of_le_of_lt (by omega : i.natAbs ≤ 10 ^ 49) (by decide +kernel)
      have hlog : i.natAbs.log2 < 1920 := by
        by_cases h : i.natAbs = 0
        · rw [h]; decide
        · exact Nat.lt_trans ((Nat.log2_lt h).mpr hlt) (by decide)
      have hst : (Str.ofString (toString i)).length ≤ 60 := by
        have e := int_text_length_le10 (k := 51) (by decide) (Nat.lt_of_le_of_lt (by omega : i.natAbs ≤ 10 ^ 49) (by decide +kernel : (10 : Nat) ^ 49 < 10 ^ 51))
        rw [ofString_length]
        omega
      refine ⟨_, rfl, _, _, rfl, rfl, _, rfl, _, _, rfl, rfl, _, rfl, rfl, 1, rfl, 10, 39, rfl, rfl, ⟨by decide, by decide, by decide⟩, _, rfl, _, rfl, hlog, _, rfl, by show 1 ≤ sizeLine; decide, fun l0 hl0 => ⟨by show 9 ≤ sizeLine; decide, fun l hl => ?_⟩⟩
      have y3 : Ext [] H1 (upd H1 l0 (.lst [.int i])) := .new hl0
      have e3 : (upd H1 l0 (.lst [.int i])) l0 = some (.lst [.int i]) := upd_same
      have f3 := f1.ext y3 (by simp) (by simp)
      have l0f : l0 ∉ [fa] := by simpa using (f1.has hl0).1
      generalize upd H1 l0 (.lst [.int i]) = H2 at y3 e3 f3 hl ⊢
      have y4 := Ext.new (S := []) (o := .lst [.int (i + 1), .int (i - 1), .bl (decide (V.int i = V.int 1)), .int (-1), .non, .int (10 ^ Int.toNat 39), .str (Str.ofString (toString i)), .ref l0, .int 0]) hl
      have rl : Reps [fa] (upd H2 l (.lst [.int (i + 1), .int (i - 1), .bl (decide (V.int i = V.int 1)), .int (-1), .non, .int (10 ^ Int.toNat 39), .str (Str.ofString (toString i)), .ref l0, .int 0]))
          [.int (i + 1), .int (i - 1), .bool (decide (V.int i = V.int 1)), .int (-1), .none, .int (10 ^ Int.toNat 39), .str (Str.ofString (toString i)), .list [.int i], .int 0]
          [.int (i + 1), .int (i - 1), .bl (decide (V.int i = V.int 1)), .int (-1), .non, .int (10 ^ Int.toNat 39), .str (Str.ofString (toString i)), .ref l0, .int 0] :=
        .cons (.int _) (.cons (.int _) (.cons (.bl _) (.cons (.int _) (.cons .non (.cons (.int _) (.cons (.str _) (.cons (.lst (y4.keep _ _ (by simp) e3) l0f (.cons (.int _) .nil)) (.cons (.int _) .nil))))))))
      have f4 := f3.ext y4 (by simp) (by simp)
      have lf : l ∉ [fa] := by simpa using (f3.has hl).1
      refine ⟨_, rfl, fa, sa, n + 1, 9, rfl, f4, by decide, by decide, by omega, fun r2 H3 c0 c1 f5 x5 => ?_⟩
      obtain ⟨x, k1, k2⟩ := atI_ex (xs := [V.int (i + 1), .int (i - 1), .bl (decide (V.int i = V.int 1)), .int (-1), .non, .int (10 ^ Int.toNat 39), .str (Str.ofString (toString i)), .ref l0, .int 0]) c0 (by show r2 < 9; exact c1)
      obtain ⟨dd, hdd2, rdd⟩ := (rl.ext x5).get k2
      have hok : Gd (Bo + 1) dd ∧ dd.weight ≤ 400 ∧ dd.depth ≤ 1 := by
        have hm := List.mem_of_getElem? hdd2
        have h200 : (2 : Nat) ^ 180 + 1 ≤ 2 ^ 181 := by decide +kernel
        have h39 : ((10 : Int) ^ Int.toNat 39).natAbs = 10 ^ 39 := by decide +kernel
        have h39' : (10 : Nat) ^ 39 < 2 ^ 181 := by decide +kernel
        simp only [List.mem_cons, List.not_mem_nil, or_false] at hm
        rcases hm with rfl | rfl | rfl | rfl | rfl | rfl | rfl | rfl | rfl
        · exact ⟨by simp only [Gd]; omega, Nat.le_trans (w_int (k := 181) (by omega)) (by decide), by simp [PyData.depth]⟩
        · exact ⟨by simp only [Gd]; omega, Nat.le_trans (w_int (k := 181) (by omega)) (by decide), by simp [PyData.depth]⟩
        · exact ⟨by simp only [Gd], by simp [PyData.weight], by simp [PyData.depth]⟩
        · exact ⟨by simp only [Gd]; omega, Nat.le_trans (w_int (k := 181) (by omega)) (by decide), by simp [PyData.depth]⟩
        · exact ⟨by simp only [Gd], by simp [PyData.weight], by simp [PyData.depth]⟩
        · exact ⟨by simp only [Gd]; omega, Nat.le_trans (w_int (k := 181) (by omega)) (by decide), by simp [PyData.depth]⟩
        · exact ⟨by simp only [Gd]; exact ⟨ofString_ok _, hst⟩, by simp only [PyData.weight]; exact Nat.le_trans hst (by decide), by simp [PyData.depth]⟩
        · have w1 := w_int (i := i) (k := 181) (by omega)
          exact ⟨by simp only [Gd, GdL]; exact ⟨by omega, trivial⟩, by rw [PyData.weight, PyData.weightAll, PyData.weightAll]; omega, by simp [PyData.depth, PyData.depthAll]⟩
        · exact ⟨by simp only [Gd]; omega, Nat.le_trans (w_int (k := 181) (by omega)) (by decide), by simp [PyData.depth]⟩
      exact ⟨l, _, r2, x, rfl, rfl, SqL.of (x5.keep _ _ lf upd_same), k1, q dd x (n + 1 + 1) _ rdd hok.1 (by omega) (by omega) (by omega) (by omega) f5 (((x1.trans (y3.mono (by simp))).trans (y4.mono (by simp))).trans x5)⟩
    · have hwl : PyData.weightAll ds ≤ 50000 := hw
      have hlen := len_wA ds
      have hgl : GdL Bo ds := by simpa only [Gd] using gd
      have hdd : (PyData.tuple ds).depth = PyData.depthAll ds + 1 := by simp only [PyData.depth]
      have hww : (PyData.tuple ds).weight = PyData.weightAll ds := by simp only [PyData.weight]
      rw [hdd] at hdk nm q hd50
      rw [hww] at q
      obtain ⟨a, xs, rfl, ha, rs⟩ := rp1.of_tup
      refine iteT ⟨_, rfl, _, rfl, a, xs, rfl, .inr (SqT.of ha), _, _, rfl, rfl, fa, sa, n + 1, _, rfl, f1, by rw [rs.length]; omega, by rw [rs.length]; omega, by omega, fun at' H2 c0 c1 f2 x2 => ?_⟩
      rw [rs.length] at c1
      have rp2 := rp1.ext x2
      have ha2 := x2.tup _ _ ha
      have rs2 := rs.ext x2
      have x02 := x1.trans x2
      have e1 : (at' + 1).toNat = at'.toNat + 1 := by omega
      refine ⟨fun σ' H' => σ' = [some (.ref fa), some (.ref a), some (.int dp), some (.int way), some (.int at'), none] ∧ H' = H2, ?_, ?_⟩
      · refine ⟨_, rfl, _, _, rfl, rfl, _, rfl, ite2 (fun hw2 => ?_) (fun hw2 => iteF ⟨rfl, rfl⟩)⟩
        refine ⟨_, rfl, _, rfl, a, xs, rfl, .inr (SqT.of ha2), _, _, rfl, rfl, _, rfl, ite2 (fun hat0 => ?_) (fun hat0 => iteF ⟨rfl, rfl⟩)⟩
        have hat1 : at' < ((xs.length : Nat) : Int) := of_decide_eq_true hat0
        rw [rs.length] at hat1
        refine ⟨_, rfl, _, _, rfl, rfl, _, rfl, ite2 (fun hdp => ?_) (fun hdp => ⟨rfl, rfl⟩)⟩
        refine ⟨_, rfl, _, rfl, at', rfl, sl_rep rp2 fun v1 H4 y4 r4 => ?_⟩
        have rp4 := rp2.ext (y4.mono (S' := [fa]) (by simp))
        have f4 := f2.ext y4 (by simp) (by simp)
        refine ⟨_, rfl, _, rfl, _, rfl, ix_rep rp4 c0 hat1 fun dx x hdx rx => ?_⟩
        have hmem := List.mem_of_getElem? hdx
        have hat : at'.toNat < ds.length := by omega
        have hsplit : ds = ds.take at'.toNat ++ dx :: ds.drop (at'.toNat + 1) := by
          have e1 : ds.drop at'.toNat = dx :: ds.drop (at'.toNat + 1) := by
            rw [List.drop_eq_getElem_cons hat]
            congr
            exact (List.getElem?_eq_some_iff.mp hdx).2
          rw [← e1, List.take_append_drop]
        have hwx : PyData.weightAll ds = PyData.weightAll (ds.take at'.toNat) + (dx.weight + 1 + PyData.weightAll (ds.drop (at'.toNat + 1))) := by
          conv => lhs; rw [hsplit]
          rw [wA_append]
          simp only [PyData.weightAll]
        have hdx2 : PyData.depthAll ds = max (PyData.depthAll (ds.take at'.toNat)) (max dx.depth (PyData.depthAll (ds.drop (at'.toNat + 1)))) := by
          conv => lhs; rw [hsplit]
          rw [dA_append]
          simp only [PyData.depthAll]
        refine ⟨_, rfl, _, _, rfl, rfl, fa, sa, n + 1 + 1, dx, x, dp - 1, Bo, T, rfl, f4, rx, pT, hds dx hmem, gdl_iff.mp hgl dx hmem, b0, b1, by omega, by omega, by omega, by omega, fun d' v' n' H5 r5 g5 w5 dp5 k0 k1 f5 x5 => ⟨by show 1 ≤ sizeLine; decide, fun t ht => ?_⟩⟩
        have y6 : Ext [] H5 (upd H5 t (.tup [v'])) := .new ht
        have r4' := (r4.ext x5).ext (y6.mono (S' := [fa]) (by simp))
        have rt : Rep [fa] (upd H5 t (.tup [v'])) (.tuple [d']) (.ref t) := .tup upd_same (.cons (r5.ext (y6.mono (S' := [fa]) (by simp))) .nil)
        have rp6 := (rp4.ext x5).ext (y6.mono (S' := [fa]) (by simp))
        have f6 := f5.ext y6 (by simp) (by simp)
        rw [cutL_to ds at' c0] at r4'
        have hl1 : (ds.take at'.toNat).length ≤ ds.length := by rw [List.length_take]; omega
        have hl2 : (ds.drop (at'.toNat + 1)).length ≤ ds.length := by rw [List.length_drop]; omega
        refine cat_rep r4' rt (by simp only [List.length_cons, List.length_nil]; omega) fun v2 H7 y7 r7 => ?_
        have rp7 := rp6.ext (y7.mono (S' := [fa]) (by simp))
        refine ⟨_, rfl, _, rfl, _, _, rfl, rfl, at' + 1, rfl, ?_⟩
        dsimp only [tNoPart]
        refine sl_rep rp7 fun v3 H8 y8 r8 => ?_
        rw [cutL_from ds (at' + 1) (by omega), e1] at r8
        refine cat_rep (r7.ext (y8.mono (S' := [fa]) (by simp))) r8 (by simp only [List.length_append, List.length_cons, List.length_nil]; omega) fun v4 H9 y9 r9 => ?_
        refine q _ v4 n' H9 r9 ?_ ?_ ?_ (by omega) (by omega) (((f6.ext y7 (by simp) (by simp)).ext y8 (by simp) (by simp)).ext y9 (by simp) (by simp)) ?_
        · simp only [Gd]
          exact gdl_append (gdl_append (gdl_mono (by omega) _ (gdl_take hgl _)) (by simp only [GdL]; exact ⟨g5, trivial⟩)) (gdl_mono (by omega) _ (gdl_drop hgl _))
        · have e2 : (PyData.tuple (ds.take at'.toNat ++ [d'] ++ ds.drop (at'.toNat + 1))).weight = PyData.weightAll (ds.take at'.toNat) + (d'.weight + 1) + PyData.weightAll (ds.drop (at'.toNat + 1)) := by simp only [PyData.weight, wA_append, PyData.weightAll, Nat.add_zero]
          rw [e2]
          omega
        · have e2 : (PyData.tuple (ds.take at'.toNat ++ [d'] ++ ds.drop (at'.toNat + 1))).depth = max (max (PyData.depthAll (ds.take at'.toNat)) (max d'.depth 0)) (PyData.depthAll (ds.drop (at'.toNat + 1))) + 1 := by simp only [PyData.depth, dA_append, PyData.depthAll]
          rw [e2]
          omega
        · exact ((((x02.trans (y4.mono (by simp))).trans x5).trans (y6.mono (by simp))).trans (y7.mono (by simp))).trans ((y8.trans y9).mono (by simp))
      rintro σ3 H3 ⟨rfl, rfl⟩
      refine ⟨_, rfl, a, xs, rfl, .inr (SqT.of ha2), fun l hl => ?_⟩
      have y4 : Ext [] H3 (upd H3 l (.lst xs)) := .new hl
      have r0 : Rep [fa] (upd H3 l (.lst xs)) (.list ds) (.ref l) := .lst upd_same (by simpa using (f2.has hl).1) (rs2.ext (y4.mono (by simp)))
      have f4 := f2.ext y4 (by simp) (by simp)
      have rp4 := rp2.ext (y4.mono (S' := [fa]) (by simp))
      generalize upd H3 l (.lst xs) = H4 at y4 r0 f4 rp4 ⊢
      refine ⟨_, rfl, _, rfl, at', rfl, sl_rep rp4 fun v1 H5 y5 r5 => ?_⟩
      have rp5 := rp4.ext (y5.mono (S' := [fa]) (by simp))
      refine ⟨_, rfl, _, rfl, _, _, rfl, rfl, at' + 1, rfl, ?_⟩
      dsimp only [tNoPart]
      refine sl_rep rp5 fun v2 H6 y6 r6 => ?_
      have rp6 := rp5.ext (y6.mono (S' := [fa]) (by simp))
      have q1 := cut_w ds none (some at')
      have q2 := cut_w ds (some (at' + 1)) none
      have q3 := cut_w ds (some at') (some (at' + 1))
      have q4 := cut_w ds (some at') none
      have gB := gdl_mono (show Bo ≤ Bo + 1 by omega) _ hgl
      refine cat_rep (r5.ext (y6.mono (S' := [fa]) (by simp))) r6 (by omega) fun v3 H7 y7 r7 => ?_
      have rp7 := rp6.ext (y7.mono (S' := [fa]) (by simp))
      refine ⟨_, rfl, _, rfl, at', rfl, sl_rep rp7 fun v4 H8 y8 r8 => ?_⟩
      have rp8 := rp7.ext (y8.mono (S' := [fa]) (by simp))
      refine ⟨_, rfl, _, rfl, at', rfl, _, rfl, _, _, rfl, rfl, at' + 1, rfl, sl_rep rp8 fun v5 H9 y9 r9 => ?_⟩
      have rp9 := rp8.ext (y9.mono (S' := [fa]) (by simp))
      refine cat_rep (r8.ext (y9.mono (S' := [fa]) (by simp))) r9 (by omega) fun v6 H10 y10 r10 => ?_
      have rp10 := rp9.ext (y10.mono (S' := [fa]) (by simp))
      refine ⟨_, rfl, _, rfl, at', rfl, ?_⟩
      dsimp only [tNoPart]
      refine sl_rep rp10 fun v7 H11 y11 r11 => ?_
      have rp11 := rp10.ext (y11.mono (S' := [fa]) (by simp))
      refine cat_rep (r10.ext (y11.mono (S' := [fa]) (by simp))) r11 (by rw [List.length_append]; omega) fun v8 H12 y12 r12 => ?_
      have rp12 := rp11.ext (y12.mono (S' := [fa]) (by simp))
      have y712 : Ext [] H7 H12 := (((y8.trans y9).trans y10).trans y11).trans y12
      have y412 : Ext [] H4 H12 := ((y5.trans y6).trans y7).trans y712
      refine ⟨_, rfl, a, xs, rfl, SqT.of ((y4.trans y412).tup _ _ ha2), fun p hp => ⟨by show 4 ≤ sizeLine; decide, fun s' hs' => ?_⟩⟩
      have y13 : Ext [] H12 (upd H12 p (.tup xs.reverse)) := .new hp
      have r13 : Rep [fa] (upd H12 p (.tup xs.reverse)) (.tuple ds.reverse) (.ref p) := .tup upd_same ((rs2.ext ((y4.trans y412).mono (by simp))).ext (y13.mono (by simp))).reverse
      generalize upd H12 p (.tup xs.reverse) = H13 at y13 r13 hs' ⊢
      have y14 : Ext [] H13 (upd H13 s' (.lst [.ref l, v3, v8, .ref p])) := .new hs'
      have e14 : (upd H13 s' (.lst [.ref l, v3, v8, .ref p])) s' = some (.lst [.ref l, v3, v8, .ref p]) := upd_same
      have y1214 := y13.trans y14
      have rl : Reps [fa] (upd H13 s' (.lst [.ref l, v3, v8, .ref p])) [.list ds, .tuple (cutL ds none (some at') ++ cutL ds (some (at' + 1)) none), .tuple (cutL ds none (some at') ++ cutL ds (some at') (some (at' + 1)) ++ cutL ds (some at') none), .tuple ds.reverse] [.ref l, v3, v8, .ref p] :=
        .cons (r0.ext ((y412.trans y1214).mono (by simp))) (.cons (r7.ext ((y712.trans y1214).mono (by simp))) (.cons (r12.ext (y1214.mono (by simp))) (.cons (r13.ext (y14.mono (by simp))) .nil)))
      have rp14 := rp12.ext (y1214.mono (S' := [fa]) (by simp))
      have y414 := y412.trans y1214
      generalize upd H13 s' (.lst [.ref l, v3, v8, .ref p]) = H14 at y14 e14 y1214 rl rp14 y414 ⊢
      refine ⟨_, rfl, _, rfl, by show 1 ≤ sizeLine; decide, fun t ht => ?_⟩
      have y15 : Ext [] H14 (upd H14 t (.tup [.int 0])) := .new ht
      have rt : Rep [fa] (upd H14 t (.tup [.int 0])) (.tuple [.int 0]) (.ref t) := .tup upd_same (.cons (.int _) .nil)
      generalize upd H14 t (.tup [.int 0]) = H15 at y15 rt ⊢
      refine cat_rep (rp14.ext (y15.mono (S' := [fa]) (by simp))) rt (by simp only [List.length_cons, List.length_nil]; omega) fun v9 H16 y16 r16 => ⟨Nat.zero_le _, fun t2 ht2 => ?_⟩
      have y17 : Ext [] H16 (upd H16 t2 (.tup [])) := .new ht2
      have e17 : (upd H16 t2 (.tup [])) t2 = some (.tup []) := upd_same
      generalize upd H16 t2 (.tup []) = H17 at y17 e17 ⊢
      refine ⟨by show 3 ≤ sizeLine; decide, fun l3 hl3 => ?_⟩
      have y18 : Ext [] H17 (upd H17 l3 (.lst [v9, .non, .ref t2])) := .new hl3
      have e18 : (upd H17 l3 (.lst [v9, .non, .ref t2])) l3 = some (.lst [v9, .non, .ref t2]) := upd_same
      have r3 : Reps [fa] (upd H17 l3 (.lst [v9, .non, .ref t2])) [.tuple (ds ++ [.int 0]), .none, .tuple []] [v9, .non, .ref t2] := .cons (r16.ext ((y17.trans y18).mono (by simp))) (.cons .non (.cons (.tup (y18.tup _ _ e17) .nil) .nil))
      generalize upd H17 l3 (.lst [v9, .non, .ref t2]) = H18 at y18 e18 r3 ⊢
      have y1418 := ((y15.trans y16).trans y17).trans y18
      refine ⟨s', l3, _, _, rfl, rfl, y1418.keep _ _ (by simp) e14, e18, by show 7 ≤ sizeLine; decide, fun p2 hp2 => ?_⟩
      have y19 : Ext [] H18 (upd H18 p2 (.lst ([.ref l, v3, v8, .ref p] ++ [v9, .non, .ref t2]))) := .new hp2
      have e19 : (upd H18 p2 (.lst ([.ref l, v3, v8, .ref p] ++ [v9, .non, .ref t2]))) p2 = some (.lst ([.ref l, v3, v8, .ref p] ++ [v9, .non, .ref t2])) := upd_same
      have rall := ((rl.ext (y1418.mono (S' := [fa]) (by simp))).append r3).ext (y19.mono (S' := [fa]) (by simp))
      have y419 := (y414.trans y1418).trans y19
      have f19 := f4.ext y419 (by simp) (by simp)
      have p2f : p2 ∉ [fa] := by simpa using ((f4.ext (y414.trans y1418) (by simp) (by simp)).has hp2).1
      generalize upd H18 p2 (.lst ([.ref l, v3, v8, .ref p] ++ [v9, .non, .ref t2])) = H19 at y19 e19 rall y419 f19 ⊢
      refine ⟨_, rfl, fa, sa, _, 7, rfl, f19, by decide, by decide, by omega, fun r20 H20 g0 g1 f20 x20 => ?_⟩
      obtain ⟨x, k1, k2⟩ := atI_ex (xs := [.ref l, v3, v8, .ref p] ++ [v9, .non, .ref t2]) g0 (by show r20 < 7; exact g1)
      obtain ⟨dd, hdd2, rdd⟩ := (rall.ext x20).get k2
      refine ⟨p2, _, r20, x, rfl, rfl, SqL.of (x20.keep _ _ p2f e19), k1, ?_⟩
      have hok : Gd (Bo + 1) dd ∧ dd.weight ≤ 2 * PyData.weightAll ds + 400 ∧ dd.depth ≤ PyData.depthAll ds + 1 + 1 := by
        have hm := List.mem_of_getElem? hdd2
        simp only [List.cons_append, List.nil_append, List.mem_cons, List.not_mem_nil, or_false] at hm
        have wz := w_int (i := 0) (k := 1) (by decide)
        rcases hm with rfl | rfl | rfl | rfl | rfl | rfl | rfl
        · exact ⟨by simp only [Gd]; exact gB, by simp only [PyData.weight]; omega, by simp only [PyData.depth]; omega⟩
        · exact ⟨by simp only [Gd]; exact gdl_append (cut_gd gB _ _) (cut_gd gB _ _), by simp only [PyData.weight, wA_append]; omega, by simp only [PyData.depth, dA_append]; omega⟩
        · have t1 := wA_split ds at'.toNat
          have c1' := cutL_to ds at' c0
          have c2' := cutL_from ds at' c0
          exact ⟨by simp only [Gd]; exact gdl_append (gdl_append (cut_gd gB _ _) (cut_gd gB _ _)) (cut_gd gB _ _), by simp only [PyData.weight, wA_append]; rw [c1', c2']; omega, by simp only [PyData.depth, dA_append]; omega⟩
        · exact ⟨by simp only [Gd]; exact gdl_iff.mpr fun d hd => gdl_iff.mp gB d (List.mem_reverse.mp hd), by simp only [PyData.weight, wA_rev]; omega, by simp only [PyData.depth, dA_rev]; omega⟩
        · exact ⟨by simp only [Gd]; exact gdl_append gB (by simp only [GdL, Gd]; exact ⟨by omega, trivial⟩), by rw [PyData.weight, wA_append, PyData.weightAll, PyData.weightAll]; omega, by simp only [PyData.depth, dA_append, PyData.depthAll]; omega⟩
        · exact ⟨by simp only [Gd], by simp [PyData.weight], by simp [PyData.depth]⟩
        · exact ⟨by simp only [Gd, GdL], by simp [PyData.weight, PyData.weightAll], by simp [PyData.depth, PyData.depthAll]⟩
      exact q dd x _ H20 rdd hok.1 hok.2.1 hok.2.2 (by omega) (by omega) f20 (((x02.trans (y4.mono (by simp))).trans (y419.mono (by simp))).trans x20)
end
end Odj

set_option Elab.async false
set_option linter.all false
set_option maxRecDepth 100000
set_option maxHeartbeats 8000000
namespace Odj
open PySem L2
structure GW (b w k : Nat) (d : PyData) : Prop where
  gd : Gd b d
  wt : d.weight ≤ w
  dp : d.depth ≤ k
structure GWL (b w k : Nat) (ds : List PyData) : Prop where
  gd : GdL b ds
  wt : PyData.weightAll ds ≤ w
  dp : PyData.depthAll ds ≤ k
section
variable {b w1 w2 k1 k2 w k : Nat}
theorem gw_nil : GWL b 0 0 [] := ⟨by simp only [GdL], by simp [PyData.weightAll], by simp [PyData.depthAll]⟩
theorem gw_cons {d : PyData} {ds : List PyData} (h : GW b w1 k1 d) (t : GWL b w2 k2 ds) : GWL b (w1 + 1 + w2) (max k1 k2) (d :: ds) := ⟨by simp only [GdL]; exact ⟨h.gd, t.gd⟩, by have := h.wt; have := t.wt; simp only [PyData.weightAll]; omega, by have := h.dp; have := t.dp; simp only [PyData.depthAll]; omega⟩
theorem gw_tup {ds : List PyData} (t : GWL b w k ds) : GW b w (k + 1) (.tuple ds) := ⟨by simp only [Gd]; exact t.gd, by have := t.wt; simp only [PyData.weight]; omega, by have := t.dp; simp only [PyData.depth]; omega⟩
theorem gw_lst {ds : List PyData} (t : GWL b w k ds) : GW b w (k + 1) (.list ds) := ⟨by simp only [Gd]; exact t.gd, by have := t.wt; simp only [PyData.weight]; omega, by have := t.dp; simp only [PyData.depth]; omega⟩
theorem gw_int {i : Int} (h : i.natAbs ≤ 1000) (hb : 1000 ≤ b) : GW b 10 0 (.int i) := ⟨by simp only [Gd]; omega, w_int (by omega), by simp [PyData.depth]⟩
theorem gw_bool {c : Bool} : GW b 10 0 (.bool c) := ⟨by simp only [Gd], by simp [PyData.weight], by simp [PyData.depth]⟩
theorem gw_none : GW b 10 0 .none := ⟨by simp only [Gd], by simp [PyData.weight], by simp [PyData.depth]⟩
theorem gw_rep {ds : List PyData} (t : GWL b w k ds) : ∀ n : Nat, GWL b (n * w) k (List.replicate n ds).flatten
  | 0 => ⟨by simp only [List.replicate, List.flatten, GdL], by simp [PyData.weightAll], by simp [PyData.depthAll]⟩
  | n + 1 => by
    have ih := gw_rep t n
    have h1 := t.wt
    have h2 := ih.wt
    have h3 := t.dp
    have h4 := ih.dp
    rw [List.replicate_succ, List.flatten_cons]
    refine ⟨gdl_append t.gd ih.gd, ?_, ?_⟩
    · rw [wA_append, Nat.succ_mul]
      omega
    · rw [dA_append]
      omega
end
theorem gw_tie {b : Nat} {t : Tie} (hb : 1000 ≤ b) (h : t.1.natAbs ≤ 100 ∧ t.2.1.natAbs ≤ 100 ∧ t.2.2.natAbs ≤ 200) : GW b 33 1 (tieD t) := gw_tup (gw_cons (gw_int (by omega) hb) (gw_cons (gw_int (by omega) hb) (gw_cons (gw_int (by omega) hb) gw_nil)))
theorem gw_ties {b : Nat} (hb : 1000 ≤ b) : ∀ {ts : List Tie}, (∀ t ∈ ts, t.1.natAbs ≤ 100 ∧ t.2.1.natAbs ≤ 100 ∧ t.2.2.natAbs ≤ 200) → GWL b (34 * ts.length) 1 (ts.map tieD)
  | [], _ => ⟨by simp only [List.map_nil, GdL], by simp [PyData.weightAll], by simp [PyData.depthAll]⟩
  | t :: ts, h => by
    have a := gw_cons (gw_tie hb (h t (by simp))) (gw_ties hb (ts := ts) fun u hu => h u (by simp [hu]))
    rw [List.map_cons]
    refine ⟨a.gd, ?_, ?_⟩
    · have := a.wt
      rw [List.length_cons]
      omega
    · have := a.dp
      omega
theorem gw_web {b : Nat} (hb : 1000 ≤ b) {many : Int} {ts : List Tie} (m0 : 1 ≤ many) (m1 : many ≤ 100) (tl : ts.length ≤ 16) (h : ∀ t ∈ ts, t.1.natAbs ≤ 100 ∧ t.2.1.natAbs ≤ 100 ∧ t.2.2.natAbs ≤ 200) : GW b 600 3 (webD many (ts.map tieD)) := by
  have a := gw_tup (gw_cons (gw_int (i := many) (by omega) hb) (gw_cons (gw_tup (gw_ties hb h)) gw_nil))
  refine ⟨a.gd, ?_, ?_⟩
  · have := a.wt
    show (PyData.tuple [.int many, .tuple (ts.map tieD)]).weight ≤ 600
    omega
  · have := a.dp
    show (PyData.tuple [.int many, .tuple (ts.map tieD)]).depth ≤ 3
    omega
theorem Feed.hS {H : Hp} {fa sa : Addr} {n : Int} (f : Feed H fa sa n) : ∀ b ∈ [fa], H b ≠ none := by
  intro b hb
  have : b = fa := by simpa using hb
  subst this
  obtain ⟨ns, i, c, e, _⟩ := f.ex
  rw [e]
  simp
def Gg (d : PyData) : Prop := Good d ∧ d.depth ≤ 50
theorem gw_gg {w k : Nat} {d : PyData} (h : GW (10 ^ 50) w k d) (hw : w ≤ 200000) (hk : k ≤ 50) : Gg d := ⟨good_of h.gd (by have := h.dp; omega) (by have := h.wt; omega), by have := h.dp; omega⟩
def Wd (d : PyData) : Prop := (∃ i, d = .int i) ∨ (∃ t : Tie, d = tieD t) ∨ (∃ ts : List Tie, d = .tuple (ts.map tieD)) ∨ ∃ (m : Int) (ts : List Tie), d = webD m (ts.map tieD)
theorem wd_plain : Plain Wd := by
  intro d h
  rcases h with ⟨i, rfl⟩ | ⟨t, rfl⟩ | ⟨ts, rfl⟩ | ⟨m, ts, rfl⟩
  · exact .inl ⟨i, rfl⟩
  · refine .inr ⟨_, rfl, fun c hc => .inl ?_⟩
    simp only [List.mem_cons, List.not_mem_nil, or_false] at hc
    rcases hc with rfl | rfl | rfl <;> exact ⟨_, rfl⟩
  · refine .inr ⟨_, rfl, fun c hc => .inr (.inl ?_)⟩
    obtain ⟨t, _, rfl⟩ := List.mem_map.mp hc
    exact ⟨t, rfl⟩
  · refine .inr ⟨_, rfl, fun c hc => ?_⟩
    simp only [List.mem_cons, List.not_mem_nil, or_false] at hc
    rcases hc with rfl | rfl
    · exact .inl ⟨m, rfl⟩
    · exact .inr (.inr (.inl ⟨ts, rfl⟩))
def AllG (fa : Addr) (H : Hp) (xs : List V) : Prop := ∀ x ∈ xs, ∃ d, Rep [fa] H d x ∧ Gg d
theorem AllG.ext {fa : Addr} {H H' : Hp} {xs : List V} (h : AllG fa H xs) (x : Ext [fa] H H') : AllG fa H' xs := fun v hv => let ⟨d, r, l⟩ := h v hv; ⟨d, r.ext x, l⟩
theorem AllG.append {fa : Addr} {H : Hp} {xs ys : List V} (h : AllG fa H xs) (k : AllG fa H ys) : AllG fa H (xs ++ ys) := fun v hv => (List.mem_append.mp hv).elim (h v) (k v)
theorem AllG.nil {fa : Addr} {H : Hp} : AllG fa H [] := fun v hv => by cases hv
theorem AllG.cons {fa : Addr} {H : Hp} {x : V} {xs : List V} {d : PyData} (r : Rep [fa] H d x) (g : Gg d) (h : AllG fa H xs) : AllG fa H (x :: xs) := fun v hv => by
  rcases List.mem_cons.mp hv with e | e
  · rw [e]; exact ⟨d, r, g⟩
  · exact h v e
theorem AllG.of {fa : Addr} {H : Hp} {D : List PyData} {xs : List V} (r : Reps [fa] H D xs) (g : ∀ d ∈ D, Gg d) : AllG fa H xs := fun v hv => by
  obtain ⟨i, hi, e⟩ := List.getElem_of_mem hv
  obtain ⟨d, hd, rd⟩ := r.get (i := i) (x := v) (by rw [List.getElem?_eq_getElem hi, e])
  exact ⟨d, rd, g d (List.mem_of_getElem? hd)⟩
theorem two_of {a b : Int} {r : Int} (h0 : 0 ≤ r) (h1 : r < 2) : ∃ m, atI [V.int a, .int b] r = some (V.int m) ∧ (m = a ∨ m = b) := by
  obtain ⟨v, hv, hv2⟩ := atI_ex (xs := [V.int a, .int b]) h0 (by simpa using h1)
  have hm := List.mem_of_getElem? hv2
  simp only [List.mem_cons, List.not_mem_nil, or_false] at hm
  rcases hm with e | e
  · exact ⟨a, by rw [hv, e], .inl rfl⟩
  · exact ⟨b, by rw [hv, e], .inr rfl⟩
theorem gg_bool (c : Bool) : Good (.bool c) := good_of (by simp only [Gd]) (by simp [PyData.depth]) (by simp [PyData.weight])
section
variable {P : Program} {w : World} {K : PySem.W.Frag} {mg : Str → Option Value} {base : Heap} {f : Addr} {fd : FuncData}
theorem d_law (F : Fun K "law" "law" (top 20) f fd) (B : Bt mg) (B2 : Bt2 mg) (B3 : Bt3 mg) (B5 : Bt5 mg) (D_law_feed : DefOk P w K mg base 1 "_law_feed" ["_law_script"] (spFeed K)) (D_law_draw : DefOk P w K mg base 1 "_law_draw" ["_law_feed_here", "_law_many"] spDraw)
    (D_law_oneway : DefOk P w K mg base 3 "_law_oneway" ["_law_feed_here", "_law_most", "_law_ties"] (spWebG TieW)) (D_law_otherwise : DefOk P w K mg base 14 "_law_otherwise" ["_law_feed_here", "_law_thing", "_law_deep"] (spOtherw 11))
    (D_is_oneway : DefOk P w K mg base 4 "is_oneway" ["thing"] spOneway) (D_law_is_oneway : DefOk P w K mg base 2 "_law_is_oneway" ["_law_thing"] spOneL) : FnOk P w K mg base CX0 20 f fd ["_law_script"] (spLaw K) := by
  have sc : FnScope ["_law_script", "_law_feed_here", "_law_web", "_law_tie", "_law_things", "_law_thing", "_law_ahead"] ["_law_script"] (defScope (top 20)) := ⟨rfl, rfl, rfl, by decide +kernel, rfl, by decide +kernel, by decide +kernel⟩
  refine F.okQ (k := 19) sc (fun vs H Q E h => ?_) (fun cdv A outer s H vs Q E hr h => ?_)
  · obtain ⟨_, _, rfl, _⟩ := h
    rfl
  obtain ⟨a, ns, rfl, hsq, hlen, q⟩ := h
  have hsz : sizeLine = 16777216 := by decide
  have hmo : most = 1099511627776 := rfl
  have hdq : ∀ z : Str, (!decide (V.str z = V.str z)) = false := fun z => by simp
  have hB : 1000 ≤ 10 ^ 50 := by decide +kernel
  refine ⟨_, (qss_cons (qs_set (i := 1) sc.nd rfl (Or.inr rfl) (qe_callD D_law_feed (hr.mono (by decide)) (qa_c (qv 0) qa_nil)))
      (qss_cons (qs_set (i := 2) sc.nd rfl (Or.inr rfl) (qe_callD D_law_oneway (hr.mono (by decide)) (qa_c (qv 1) (qa_c (qe_ix (ixL K) (show QE _ _ (tDat [] [] _) from (qd_lst (qds_c qd_int (qds_c qd_int qds_nil)))) (qe_callD D_law_draw (hr.mono (by decide)) (qa_c (qv 1) (qa_c qe_int qa_nil))) (fun _ _ => rfl)) (qa_c (qe_ix (ixL K) (show QE _ _ (tDat [] [] _) from (qd_lst (qds_c qd_int (qds_c qd_int qds_nil)))) (qe_callD D_law_draw (hr.mono (by decide)) (qa_c (qv 1) (qa_c qe_int qa_nil))) (fun _ _ => rfl)) qa_nil)))))
      (qss_cons (qs_set (i := 3) sc.nd rfl (Or.inl rfl) (qe_tup (qa_c qe_int (qa_c qe_int (qa_c (qe_op op_sub (qe_callD D_law_draw (hr.mono (by decide)) (qa_c (qv 1) (qa_c qe_int qa_nil))) qe_int) qa_nil)))))
      (qss_cons (qs_set (i := 4) sc.nd rfl (Or.inl rfl) (show QE _ _ (tDat [2, 3] [] _) from (qd_lst (qds_c (qd_var 2 (qv 2)) (qds_c (qd_tup (qds_c qd_int (qds_c (qd_tup qds_nil) qds_nil))) (qds_c (qd_tup (qds_c qd_int (qds_c (qd_tup qds_nil) qds_nil))) (qds_c (qd_tup (qds_c qd_int (qds_c (qd_tup qds_nil) qds_nil))) (qds_c (qd_tup (qds_c qd_bl (qds_c (qd_tup qds_nil) qds_nil))) (qds_c (qd_tup (qds_c qd_int (qds_c (qd_tup (qds_c (qd_var 3 (qv 3)) qds_nil)) qds_nil))) (qds_c (qd_tup (qds_c qd_int (qds_c (qd_repT K (qd_tup (qds_c (qd_tup (qds_c qd_int (qds_c qd_int (qds_c qd_int qds_nil)))) qds_nil))) qds_nil))) (qds_c (qd_tup (qds_c qd_int (qds_c (qd_tup (qds_c (qd_var 3 (qv 3)) qds_nil)) qds_nil))) qds_nil)))))))))))
      (qss_cons (qs_set (i := 4) sc.nd rfl (Or.inl rfl) (qe_op op_cat (qv 4) (qe_lst (qa_c (show QE _ _ (tDat [] [] _) from (qd_tup (qds_c qd_int (qds_c (qd_repT K (qd_tup (qds_c (qd_tup (qds_c qd_int (qds_c qd_int (qds_c qd_int qds_nil)))) qds_nil))) qds_nil)))) (qa_c (show QE _ _ (tDat [] [] _) from (qd_tup (qds_c qd_int (qds_c (qd_tup (qds_c (qd_tup (qds_c qd_int (qds_c qd_int (qds_c qd_int qds_nil)))) qds_nil)) qds_nil)))) (qa_c (show QE _ _ (tDat [2] [] _) from (qd_lst (qds_c (qd_var 2 (qv 2)) qds_nil))) (qa_c qe_non (qa_c qe_int (qa_c (show QE _ _ (tDat [] [] _) from (qd_tup qds_nil)) (qa_c (show QE _ _ (tDat [2] [] _) from (qd_tup (qds_c (qd_var 2 (qv 2)) qds_nil))) (qa_c (qe_callTy (listK K) (by rfl) B3.list (by decide +kernel) (qa_c (qv 2) qa_nil)) qa_nil)))))))))))
      (qss_cons (qs_set (i := 4) sc.nd rfl (Or.inl rfl) (qe_op op_cat (qv 4) (show QE _ _ (tDat [3] [] _) from (qd_lst (qds_c (qd_tup (qds_c qd_int (qds_c (qd_tup (qds_c (qd_tup (qds_c qd_int (qds_c qd_int qds_nil))) qds_nil)) qds_nil))) (qds_c (qd_tup (qds_c qd_int (qds_c (qd_lst (qds_c (qd_var 3 (qv 3)) qds_nil)) qds_nil))) qds_nil))))))
      (qss_cons (qs_for PassesOwn.never rfl (qi_listK K (qe_op op_cat (qv 4) (qe_comp (N := ["_law_k", "_law_feed_here", "_law_web"]) (mp := [none, some 1, some 2]) rfl (qi_range1 (by rfl) B2.range (qa_c qe_int qa_nil)) rfl (by show compOk ["_law_script", "_law_feed_here", "_law_web", "_law_tie", "_law_things", "_law_thing", "_law_ahead"] (defScope (top 20)) _ _ _ = true; decide +kernel) fun _ _ _ _ _ => ⟨(qg_name (i := 0) (by show List.Nodup [("_law_k" : Str), ("_law_feed_here" : Str), ("_law_web" : Str)]; decide +kernel) rfl (Or.inl rfl)), qk_nil, (qe_callD D_law_otherwise (hr.mono (by decide)) (qa_c (qv 1) (qa_c (qv 2) (qa_c qe_int qa_nil))))⟩))) (qg_name (i := 5) sc.nd rfl (Or.inl rfl)) (qss_cons (qs_set (i := 6) sc.nd rfl (Or.inl rfl) (qe_callB (call_reprD hr) (by rfl) B5.repr (by decide +kernel) (qa_c (qv 5) qa_nil)))
      (qss_one (qs_if (QW.pt (qw_or (qt_cmpR op_ne (qe_callB (call_reprD hr) (by rfl) B5.repr (by decide +kernel) (qa_c (qe_callD D_is_oneway (hr.mono (by decide)) (qa_c (qv 5) qa_nil)) qa_nil)) (qe_callB (call_reprD hr) (by rfl) B5.repr (by decide +kernel) (qa_c (qe_callD D_law_is_oneway (hr.mono (by decide)) (qa_c (qv 5) qa_nil)) qa_nil)) (nomark _)) (qw_or1 (qt_cmpR op_ne (qe_callB (call_reprD hr) (by rfl) B5.repr (by decide +kernel) (qa_c (qv 5) qa_nil)) (qv 6) (nomark _))))) (qss_one (qs_ret qe_bl)) qss_nil))))
      (qss_one (qs_ret qe_bl))))))))), ?_⟩
  refine ⟨_, rfl, a, ns, rfl, hsq, fun fa sa H1 f1 x1 e1 e2 => ?_⟩
  -- the web
  refine ⟨_, rfl, [fa], fun _ => .none, fun _ => 0, ⟨f1.hS, by simp, by simp⟩, fun w1 H2 y1 r1 => ?_⟩
  obtain ⟨l1, xs1, rfl, hl1, _, rr1⟩ := r1.of_lst
  have f2 := f1.ext y1 (by simp) (by simp)
  have l1f : l1 ∉ [fa] := by
    intro z
    obtain ⟨_, _, _, z1, _⟩ := f2.ex
    have : l1 = fa := by simpa using z
    rw [this, z1] at hl1
    cases hl1
  obtain ⟨u1, u2, eu, ru1, ru2⟩ := rr1.two
  subst eu
  cases ru1.of_int
  cases ru2.of_int
  refine ⟨_, rfl, fa, sa, 0, 2, rfl, f2, by decide, by decide, by decide, fun r2 H3 c0 c1 f3 x3 => ?_⟩
  obtain ⟨mp, emp, hmp⟩ := two_of (a := 6) (b := 9) c0 c1
  refine ⟨l1, _, _, _, rfl, rfl, SqL.of (x3.keep _ _ l1f hl1), emp, ?_⟩
  refine ⟨[fa], fun _ => .none, fun _ => 0, ⟨f3.hS, by simp, by simp⟩, fun w2 H4 y4 r4 => ?_⟩
  obtain ⟨l2, xs2, rfl, hl2, _, rr2⟩ := r4.of_lst
  have f4 := f3.ext y4 (by simp) (by simp)
  have l2f : l2 ∉ [fa] := by
    intro z
    obtain ⟨_, _, _, z1, _⟩ := f4.ex
    have : l2 = fa := by simpa using z
    rw [this, z1] at hl2
    cases hl2
  obtain ⟨u3, u4, eu2, ru3, ru4⟩ := rr2.two
  subst eu2
  cases ru3.of_int
  cases ru4.of_int
  refine ⟨_, rfl, fa, sa, _, 2, rfl, f4, by decide, by decide, by decide, fun r5 H5 c2 c3 f5 x5 => ?_⟩
  obtain ⟨mt, emt, hmt⟩ := two_of (a := 9) (b := 16) c2 c3
  refine ⟨l2, _, _, _, rfl, rfl, SqL.of (x5.keep _ _ l2f hl2), emt, fa, sa, _, mp, mt, rfl, f5, by omega, by omega, by omega, by omega, by omega, fun many ts v n6 H6 rv m0 m1 tl tok k0 k1 f6 x6 => ?_⟩
  have tl : ts.length ≤ 16 := by omega
  have hsm : ∀ t ∈ ts, t.1.natAbs ≤ 100 ∧ t.2.1.natAbs ≤ 100 ∧ t.2.2.natAbs ≤ 200 := fun t ht => by
    have o := tok t ht
    have o1 := o.a0
    have o2 := o.a1
    have o3 := o.b0
    have o4 := o.b1
    have o5 := o.p0
    have o6 := o.p1
    omega
  have n60 := f6.lo
  -- the tie
  refine ⟨_, rfl, fa, sa, n6, 102, rfl, f6, by decide, by decide, by omega, fun r7 H7 p0 p1 f7 x7 => ⟨_, _, rfl, rfl, by show 3 ≤ sizeLine; decide, fun ti hti => ?_⟩⟩
  have y8 : Ext [] H7 (upd H7 ti (.tup [.int 0, .int 1, .int (r7 - 1)])) := .new hti
  have rt8 : Rep [fa] (upd H7 ti (.tup [.int 0, .int 1, .int (r7 - 1)])) (tieD (0, 1, r7 - 1)) (.ref ti) := .tup upd_same (.cons (.int _) (.cons (.int _) (.cons (.int _) .nil)))
  have f8 := f7.ext y8 (by simp) (by simp)
  have rv8 := (rv.ext x7).ext (y8.mono (S' := [fa]) (by simp))
  generalize upd H7 ti (.tup [.int 0, .int 1, .int (r7 - 1)]) = H8 at y8 rt8 f8 rv8 ⊢
  have gweb : GW (10 ^ 50) 600 3 (webD many (ts.map tieD)) := gw_web hB m0 (by omega) tl hsm
  have gtie : GW (10 ^ 50) 33 1 (tieD (0, 1, r7 - 1)) := gw_tie hB ⟨by show (0 : Int).natAbs ≤ 100; decide, by show (1 : Int).natAbs ≤ 100; decide, by show (r7 - 1).natAbs ≤ 200; omega⟩
  have gi : ∀ i : Int, i.natAbs ≤ 1000 → GW (10 ^ 50) 10 0 (.int i) := fun i hi => gw_int hi hB
  have gt : ∀ x y z : Int, x.natAbs ≤ 1000 → y.natAbs ≤ 1000 → z.natAbs ≤ 1000 → GW (10 ^ 50) 33 1 (.tuple [.int x, .int y, .int z]) := fun x y z hx hy hz => gw_tup (gw_cons (gi x hx) (gw_cons (gi y hy) (gw_cons (gi z hz) gw_nil)))
  -- things
  refine ⟨[fa], fun i => if i = 2 then webD many (ts.map tieD) else tieD (0, 1, r7 - 1), fun _ => 0, ⟨f8.hS, ?_, by simp⟩, fun w9 H9 y9 r9 => ?_⟩
  · intro i hi
    simp only [List.mem_cons, List.not_mem_nil, or_false] at hi
    rcases hi with rfl | rfl
    · exact ⟨v, rfl, rv8⟩
    · exact ⟨.ref ti, rfl, rt8⟩
  obtain ⟨l3, xs3, rfl, hl3, l3f, rr3⟩ := r9.of_lst
  have al3 : AllG fa H9 xs3 := by
    refine .of rr3 ?_
    intro d hd
    simp only [List.mem_cons, List.not_mem_nil, or_false] at hd
    rcases hd with rfl | rfl | rfl | rfl | rfl | rfl | rfl | rfl
    · exact gw_gg gweb (by decide) (by decide)
    · exact gw_gg (gw_tup (gw_cons (gi 0 (by decide)) (gw_cons (gw_tup gw_nil) gw_nil))) (by decide) (by decide)
    · exact gw_gg (gw_tup (gw_cons (gi 9 (by decide)) (gw_cons (gw_tup gw_nil) gw_nil))) (by decide) (by decide)
    · exact gw_gg (gw_tup (gw_cons (gi 10 (by decide)) (gw_cons (gw_tup gw_nil) gw_nil))) (by decide) (by decide)
    · exact gw_gg (gw_tup (gw_cons gw_bool (gw_cons (gw_tup gw_nil) gw_nil))) (by decide) (by decide)
    · exact gw_gg (gw_tup (gw_cons (gi 2 (by decide)) (gw_cons (gw_tup (gw_cons gtie gw_nil)) gw_nil))) (by decide) (by decide)
    · exact gw_gg (gw_tup (gw_cons (gi 2 (by decide)) (gw_cons (gw_tup (gw_rep (gw_cons (gt 1 0 99 (by decide) (by decide) (by decide)) gw_nil) 16)) gw_nil))) (by decide) (by decide)
    · exact gw_gg (gw_tup (gw_cons (gi 1 (by decide)) (gw_cons (gw_tup (gw_cons gtie gw_nil)) gw_nil))) (by decide) (by decide)
  have hx3 : xs3.length = 8 := rr3.length
  have f9 := f8.ext y9 (by simp) (by simp)
  have rv9 := rv8.ext (y9.mono (S' := [fa]) (by simp))
  have rt9 := rt8.ext (y9.mono (S' := [fa]) (by simp))
  -- more things
  refine ⟨_, rfl, [fa], fun _ => .none, fun _ => 0, ⟨f9.hS, by simp, by simp⟩, fun v10 H10 y10 r10 => ?_⟩
  have f10 := f9.ext y10 (by simp) (by simp)
  refine ⟨[fa], fun _ => .none, fun _ => 0, ⟨f10.hS, by simp, by simp⟩, fun v11 H11 y11 r11 => ?_⟩
  have f11 := f10.ext y11 (by simp) (by simp)
  have rv11 := rv9.ext ((y10.trans y11).mono (S' := [fa]) (by simp))
  refine ⟨[fa], fun _ => webD many (ts.map tieD), fun _ => 0, ⟨f11.hS, by intro i hi; simp only [List.mem_cons, List.not_mem_nil, or_false] at hi; subst hi; exact ⟨v, rfl, rv11⟩, by simp⟩, fun v12 H12 y12 r12 => ?_⟩
  have f12 := f11.ext y12 (by simp) (by simp)
  refine ⟨[fa], fun _ => .none, fun _ => 0, ⟨f12.hS, by simp, by simp⟩, fun v13 H13 y13 r13 => ?_⟩
  have f13 := f12.ext y13 (by simp) (by simp)
  have rv13 := rv11.ext ((y12.trans y13).mono (S' := [fa]) (by simp))
  refine ⟨[fa], fun _ => webD many (ts.map tieD), fun _ => 0, ⟨f13.hS, by intro i hi; simp only [List.mem_cons, List.not_mem_nil, or_false] at hi; subst hi; exact ⟨v, rfl, rv13⟩, by simp⟩, fun v14 H14 y14 r14 => ?_⟩
  have f14 := f13.ext y14 (by simp) (by simp)
  have rv14 := rv13.ext (y14.mono (S' := [fa]) (by simp))
  obtain ⟨wa, wxs, ewa, hwa, rwx⟩ := rv14.of_tup
  refine ⟨_, rfl, wa, wxs, by rw [ewa], .inr (SqT.of hwa), fun l15 hl15 => ?_⟩
  have y15 : Ext [] H14 (upd H14 l15 (.lst wxs)) := .new hl15
  have r15 : Rep [fa] (upd H14 l15 (.lst wxs)) (.list [.int many, .tuple (ts.map tieD)]) (.ref l15) := .lst upd_same (by simpa using (f14.has hl15).1) (rwx.ext (y15.mono (by simp)))
  generalize upd H14 l15 (.lst wxs) = H15 at y15 r15 ⊢
  refine ⟨by show 8 ≤ sizeLine; decide, fun l16 hl16 => ?_⟩
  have y16 : Ext [] H15 (upd H15 l16 (.lst [v10, v11, v12, .non, .int 3, v13, v14, .ref l15])) := .new hl16
  have e16 : (upd H15 l16 (.lst [v10, v11, v12, .non, .int 3, v13, v14, .ref l15])) l16 = some (.lst [v10, v11, v12, .non, .int 3, v13, v14, .ref l15]) := upd_same
  generalize upd H15 l16 (.lst [v10, v11, v12, .non, .int 3, v13, v14, .ref l15]) = H16 at y16 e16 ⊢
  have z14 := (y15.trans y16).mono (S' := [fa]) (by simp)
  have z13 := ((y14.trans y15).trans y16).mono (S' := [fa]) (by simp)
  have z12 := (((y13.trans y14).trans y15).trans y16).mono (S' := [fa]) (by simp)
  have z11 := ((((y12.trans y13).trans y14).trans y15).trans y16).mono (S' := [fa]) (by simp)
  have z10 := (((((y11.trans y12).trans y13).trans y14).trans y15).trans y16).mono (S' := [fa]) (by simp)
  have z9 : Ext [] H9 H16 := y10.trans (((((y11.trans y12).trans y13).trans y14).trans y15).trans y16)
  have al16 : AllG fa H16 [v10, v11, v12, .non, .int 3, v13, v14, .ref l15] :=
    .cons (r10.ext z10) (gw_gg (gw_tup (gw_cons (gi 2 (by decide)) (gw_cons (gw_tup (gw_rep (gw_cons (gt 1 0 0 (by decide) (by decide) (by decide)) gw_nil) 17)) gw_nil))) (by decide) (by decide))
    (.cons (r11.ext z11) (gw_gg (gw_tup (gw_cons (gi 2 (by decide)) (gw_cons (gw_tup (gw_cons (gt 1 1 0 (by decide) (by decide) (by decide)) gw_nil)) gw_nil))) (by decide) (by decide))
    (.cons (r12.ext z12) (gw_gg (gw_lst (gw_cons gweb gw_nil)) (by decide) (by decide))
    (.cons .non (gw_gg gw_none (by decide) (by decide))
    (.cons (.int 3) (gw_gg (gi 3 (by decide)) (by decide) (by decide))
    (.cons (r13.ext z13) (gw_gg (gw_tup gw_nil) (by decide) (by decide))
    (.cons (r14.ext z14) (gw_gg (gw_tup (gw_cons gweb gw_nil)) (by decide) (by decide))
    (.cons (r15.ext (y16.mono (by simp))) (by
      have g := gw_lst (gw_cons (gi many (by omega)) (gw_cons (gw_tup (gw_ties hB hsm)) gw_nil))
      exact gw_gg g (by omega) (by decide)) .nil)))))))
  have f16 := f9.ext z9 (by simp) (by simp)
  have rt16 := rt9.ext (z9.mono (S' := [fa]) (by simp))
  have rv16 := rv9.ext (z9.mono (S' := [fa]) (by simp))
  have al3' := al3.ext (z9.mono (S' := [fa]) (by simp))
  refine ⟨l3, l16, xs3, _, rfl, rfl, z9.keep _ _ (by simp) hl3, e16, by show xs3.length + 8 ≤ sizeLine; omega, fun l17 hl17 => ?_⟩
  have y17 : Ext [] H16 (upd H16 l17 (.lst (xs3 ++ [v10, v11, v12, .non, .int 3, v13, v14, .ref l15]))) := .new hl17
  have e17 : (upd H16 l17 (.lst (xs3 ++ [v10, v11, v12, .non, .int 3, v13, v14, .ref l15]))) l17 = some (.lst (xs3 ++ [v10, v11, v12, .non, .int 3, v13, v14, .ref l15])) := upd_same
  have al17 := (al3'.append al16).ext (y17.mono (S' := [fa]) (by simp))
  have f17 := f16.ext y17 (by simp) (by simp)
  have rt17 := rt16.ext (y17.mono (S' := [fa]) (by simp))
  have rv17 := rv16.ext (y17.mono (S' := [fa]) (by simp))
  have h17 : (xs3 ++ [v10, v11, v12, V.non, .int 3, v13, v14, .ref l15]).length = 16 := by rw [List.length_append, hx3]; rfl
  generalize upd H16 l17 (.lst (xs3 ++ [v10, v11, v12, .non, .int 3, v13, v14, .ref l15])) = H17 at y17 e17 al17 f17 rt17 rv17 ⊢
  generalize xs3 ++ [v10, v11, v12, V.non, .int 3, v13, v14, .ref l15] = xs17 at e17 al17 h17 ⊢
  -- the last two
  refine ⟨_, rfl, [fa], fun _ => tieD (0, 1, r7 - 1), fun _ => 0, ⟨f17.hS, by intro i hi; simp only [List.mem_cons, List.not_mem_nil, or_false] at hi; subst hi; exact ⟨.ref ti, rfl, rt17⟩, by simp⟩, fun v18 H18 y18 r18 => ?_⟩
  obtain ⟨l18, xs18, rfl, hl18, _, rr18⟩ := r18.of_lst
  have hx18 : xs18.length = 2 := rr18.length
  have al18 : AllG fa H18 xs18 := by
    refine .of rr18 ?_
    intro d hd
    simp only [List.mem_cons, List.not_mem_nil, or_false] at hd
    rcases hd with rfl | rfl
    · exact gw_gg (gw_tup (gw_cons (gi 2 (by decide)) (gw_cons (gw_tup (gw_cons (gw_tup (gw_cons (gi 0 (by decide)) (gw_cons (gi 1 (by decide)) gw_nil))) gw_nil)) gw_nil))) (by decide) (by decide)
    · exact gw_gg (gw_tup (gw_cons (gi 2 (by decide)) (gw_cons (gw_lst (gw_cons gtie gw_nil)) gw_nil))) (by decide) (by decide)
  have f18 := f17.ext y18 (by simp) (by simp)
  have rv18 := rv17.ext (y18.mono (S' := [fa]) (by simp))
  refine ⟨l17, l18, xs17, xs18, rfl, rfl, y18.keep _ _ (by simp) e17, hl18, by omega, fun l19 hl19 => ?_⟩
  have y19 : Ext [] H18 (upd H18 l19 (.lst (xs17 ++ xs18))) := .new hl19
  have e19 : (upd H18 l19 (.lst (xs17 ++ xs18))) l19 = some (.lst (xs17 ++ xs18)) := upd_same
  have al19 := ((al17.ext (y18.mono (S' := [fa]) (by simp))).append al18).ext (y19.mono (S' := [fa]) (by simp))
  have f19 := f18.ext y19 (by simp) (by simp)
  have rv19 := rv18.ext (y19.mono (S' := [fa]) (by simp))
  have h19 : (xs17 ++ xs18).length = 18 := by rw [List.length_append]; omega
  have l19f : l19 ∉ [fa] := by simpa using (f18.has hl19).1
  generalize upd H18 l19 (.lst (xs17 ++ xs18)) = H19 at y19 e19 al19 f19 rv19 ⊢
  generalize xs17 ++ xs18 = ws at e19 al19 h19 ⊢
  -- the otherwise ones
  have gw39 : GW (10 ^ 39) 600 3 (webD many (ts.map tieD)) := gw_web (by decide +kernel) m0 (by omega) tl hsm
  have dw := gw39.dp
  have ww := gw39.wt
  refine ⟨_, rfl, 10, rfl, by decide, by decide, comp_range (n := 10) (fun j ys σ' H' => (∃ z, σ' = [z, some (.ref fa), some v]) ∧ AllG fa H' ys ∧ ys.length = j ∧ Ext [fa] H19 H' ∧ ∃ n', Feed H' fa sa n' ∧ n' ≤ n6 + 1 + 16 * j)
    ⟨⟨none, rfl⟩, .nil, rfl, .refl _ _, _, f19, by omega⟩ ?_ ?_⟩
  · rintro j ys σ' J hj ⟨⟨z, rfl⟩, al, yl, xJ, n', fJ, hnJ⟩
    have nJ0 := fJ.lo
    refine ⟨by omega, truN ⟨_, rfl, _, rfl, fa, sa, n', webD many (ts.map tieD), v, 4, 10 ^ 39, Wd, rfl, fJ, rv19.ext xJ, wd_plain, .inr (.inr (.inr ⟨many, ts, rfl⟩)), gw39.gd, Nat.le_refl _, by decide +kernel, by omega, by omega, by omega, by omega, fun d u' n'' J2 rd g1 g2 g3 q0 q1 fJ2 xJ2 => ?_⟩⟩
    refine ⟨⟨_, rfl⟩, (al.ext xJ2).append (.cons rd ⟨good_of (gd_mono (by decide +kernel) _ g1) (by omega) (by omega), by omega⟩ .nil), by simp [yl], xJ.trans xJ2, n'', fJ2, by omega⟩
  rintro ys σ' J ⟨⟨z, rfl⟩, al, yl, xJ, n20, fJ, hnJ⟩
  refine ⟨by omega, fun D hD => ?_⟩
  have y20 : Ext [] J (upd J D (.lst ys)) := .new hD
  have e20 : (upd J D (.lst ys)) D = some (.lst ys) := upd_same
  have x20 : Ext [fa] H19 (upd J D (.lst ys)) := xJ.trans (y20.mono (by simp))
  have al20 := (al19.ext x20).append (al.ext (y20.mono (S' := [fa]) (by simp)))
  generalize upd J D (.lst ys) = J1 at y20 e20 x20 al20 ⊢
  refine ⟨l19, D, ws, ys, rfl, rfl, x20.keep _ _ l19f e19, e20, by omega, fun p hp => ?_⟩
  have y21 : Ext [] J1 (upd J1 p (.lst (ws ++ ys))) := .new hp
  have e21 : (upd J1 p (.lst (ws ++ ys))) p = some (.lst (ws ++ ys)) := upd_same
  have al21 := al20.ext (y21.mono (S' := [fa]) (by simp))
  generalize upd J1 p (.lst (ws ++ ys)) = J2 at y21 e21 al21 ⊢
  generalize ws ++ ys = zs at e21 al21 ⊢
  refine ⟨p, rfl, ⟨_, SqL.of e21⟩, for_list (xs := zs) (fun j σ' H' => (∃ s2 s3 s4 s5 s6, σ' = [some (.ref a), some (.ref fa), s2, s3, s4, s5, s6]) ∧ Ext [] J2 H') ⟨⟨_, _, _, _, _, rfl⟩, .refl _ _⟩ (fun j σ' H' _ h => SqL.of (h.2.keep _ _ (by simp) e21)) ?_ (fun σ' H' _ => q H')⟩
  rintro j x σ' M hx ⟨⟨s2, s3, s4, s5, s6, rfl⟩, xM⟩
  obtain ⟨d, rd, gd⟩ := al21 x (List.mem_of_getElem? hx)
  have xM' := xM.mono (S' := [fa]) (by simp)
  refine ⟨_, rfl, [fa], d, _, rfl, rd.ext xM', gd.1, ?_⟩
  refine ⟨_, rfl, [fa], d, _, rfl, rd.ext xM', fun M1 z1 => ?_⟩
  refine ⟨[], .bool _, _, rfl, .bl _, gg_bool _, ?_⟩
  have xM1 := (xM.trans z1).mono (S' := [fa]) (by simp)
  refine ⟨_, rfl, [fa], d, _, rfl, rd.ext xM1, ⟨gd.1.lay, gd.2⟩, fun M2 z2 => ?_⟩
  refine ⟨[], .bool _, _, rfl, .bl _, gg_bool _, rfl, _, rfl, ?_⟩
  rw [hdq]
  refine iteF ?_
  have xM2 := ((xM.trans z1).trans z2).mono (S' := [fa]) (by simp)
  refine ⟨_, rfl, [fa], d, _, rfl, rd.ext xM2, gd.1, _, rfl, rfl, _, rfl, ?_⟩
  rw [hdq]
  exact iteF ⟨⟨_, _, _, _, _, rfl⟩, (xM.trans z1).trans z2⟩
end
end Odj

set_option Elab.async false
set_option linter.all false
set_option maxRecDepth 100000
set_option maxHeartbeats 8000000
namespace Odj
open PySem L2
theorem all_mk {l : PySem.W.OpenLaw} {w : World} {K : PySem.W.Frag} {h : Heap} {mg : Str → Option Value} {fa : Addr} {f1 f2 f4 f5 f10 f11 f13 f14 f15 f16 f17 f18 f19 f20 : Addr} {od1 an1 od2 an2 od4 an4 od5 an5 od10 an10 od11 an11 od13 an13 od14 an14 od15 an15 od16 an16 od17 an17 od18 an18 od19 an19 od20 an20 : Option Addr} {sl1 sl2 sl4 sl5 sl10 sl11 sl13 sl14 sl15 sl16 sl17 sl18 sl19 sl20 : Array (Option Value)} {oc1 kV1 dc1 pm1 cd1 ct1 oc2 kV2 dc2 pm2 cd2 ct2 oc4 kV4 dc4 pm4 cd4 ct4 oc5 kV5 dc5 pm5 cd5 ct5 oc10 kV10 dc10 pm10 cd10 ct10 oc11 kV11 dc11 pm11 cd11 ct11 oc13 kV13 dc13 pm13 cd13 ct13 oc14 kV14 dc14 pm14 cd14 ct14 oc15 kV15 dc15 pm15 cd15 ct15 oc16 kV16 dc16 pm16 cd16 ct16 oc17 kV17 dc17 pm17 cd17 ct17 oc18 kV18 dc18 pm18 cd18 ct18 oc19 kV19 dc19 pm19 cd19 ct19 oc20 kV20 dc20 pm20 cd20 ct20 : Value} {tk_MOST_ONEWAY_PLACES tk_MOST_ONEWAY_TIES tk_MOST_ONEWAY_PRICE : Tok} (X : K.In h) (G : h.Ns mainGlobals mg) (hfa : mg "law" = some (.ref fa))
    (a1 : PySem.W.nsIn K mainGlobals "is_whole" = some (some (.ref f1))) (l1 : K.lookup f1 = some ⟨oc1, od1, .func (PySem.W.fnOf "is_whole" "is_whole" (defArgs (top 1)) (defBody (top 1)) (defScope (top 1)) .none kV1 dc1 pm1 an1 cd1 ct1), sl1⟩) (c1 : PySem.W.codeIn K cd1 "is_whole" = true) (k1 : PySem.W.keepIn K (.ref f1) = true)
    (a2 : PySem.W.nsIn K mainGlobals "is_tuple_of" = some (some (.ref f2))) (l2 : K.lookup f2 = some ⟨oc2, od2, .func (PySem.W.fnOf "is_tuple_of" "is_tuple_of" (defArgs (top 2)) (defBody (top 2)) (defScope (top 2)) .none kV2 dc2 pm2 an2 cd2 ct2), sl2⟩) (c2 : PySem.W.codeIn K cd2 "is_tuple_of" = true) (k2 : PySem.W.keepIn K (.ref f2) = true)
    (a4 : PySem.W.nsIn K mainGlobals "is_tie_kind" = some (some (.ref f4))) (l4 : K.lookup f4 = some ⟨oc4, od4, .func (PySem.W.fnOf "is_tie_kind" "is_tie_kind" (defArgs (top 4)) (defBody (top 4)) (defScope (top 4)) .none kV4 dc4 pm4 an4 cd4 ct4), sl4⟩) (c4 : PySem.W.codeIn K cd4 "is_tie_kind" = true) (k4 : PySem.W.keepIn K (.ref f4) = true)
    (a5 : PySem.W.nsIn K mainGlobals "is_web_kind" = some (some (.ref f5))) (l5 : K.lookup f5 = some ⟨oc5, od5, .func (PySem.W.fnOf "is_web_kind" "is_web_kind" (defArgs (top 5)) (defBody (top 5)) (defScope (top 5)) .none kV5 dc5 pm5 an5 cd5 ct5), sl5⟩) (c5 : PySem.W.codeIn K cd5 "is_web_kind" = true) (k5 : PySem.W.keepIn K (.ref f5) = true)
    (a10 : PySem.W.nsIn K mainGlobals "is_oneway" = some (some (.ref f10))) (l10 : K.lookup f10 = some ⟨oc10, od10, .func (PySem.W.fnOf "is_oneway" "is_oneway" (defArgs (top 10)) (defBody (top 10)) (defScope (top 10)) .none kV10 dc10 pm10 an10 cd10 ct10), sl10⟩) (c10 : PySem.W.codeIn K cd10 "is_oneway" = true) (k10 : PySem.W.keepIn K (.ref f10) = true)
    (a11 : PySem.W.nsIn K mainGlobals "is_oneway_tie" = some (some (.ref f11))) (l11 : K.lookup f11 = some ⟨oc11, od11, .func (PySem.W.fnOf "is_oneway_tie" "is_oneway_tie" (defArgs (top 11)) (defBody (top 11)) (defScope (top 11)) .none kV11 dc11 pm11 an11 cd11 ct11), sl11⟩) (c11 : PySem.W.codeIn K cd11 "is_oneway_tie" = true) (k11 : PySem.W.keepIn K (.ref f11) = true)
    (a13 : PySem.W.nsIn K mainGlobals "_law_feed" = some (some (.ref f13))) (l13 : K.lookup f13 = some ⟨oc13, od13, .func (PySem.W.fnOf "_law_feed" "_law_feed" (defArgs (top 13)) (defBody (top 13)) (defScope (top 13)) .none kV13 dc13 pm13 an13 cd13 ct13), sl13⟩) (c13 : PySem.W.codeIn K cd13 "_law_feed" = true) (k13 : PySem.W.keepIn K (.ref f13) = true)
    (a14 : PySem.W.nsIn K mainGlobals "_law_draw" = some (some (.ref f14))) (l14 : K.lookup f14 = some ⟨oc14, od14, .func (PySem.W.fnOf "_law_draw" "_law_draw" (defArgs (top 14)) (defBody (top 14)) (defScope (top 14)) .none kV14 dc14 pm14 an14 cd14 ct14), sl14⟩) (c14 : PySem.W.codeIn K cd14 "_law_draw" = true) (k14 : PySem.W.keepIn K (.ref f14) = true)
    (a15 : PySem.W.nsIn K mainGlobals "_law_shuffled" = some (some (.ref f15))) (l15 : K.lookup f15 = some ⟨oc15, od15, .func (PySem.W.fnOf "_law_shuffled" "_law_shuffled" (defArgs (top 15)) (defBody (top 15)) (defScope (top 15)) .none kV15 dc15 pm15 an15 cd15 ct15), sl15⟩) (c15 : PySem.W.codeIn K cd15 "_law_shuffled" = true) (k15 : PySem.W.keepIn K (.ref f15) = true)
    (a16 : PySem.W.nsIn K mainGlobals "_law_oneway" = some (some (.ref f16))) (l16 : K.lookup f16 = some ⟨oc16, od16, .func (PySem.W.fnOf "_law_oneway" "_law_oneway" (defArgs (top 16)) (defBody (top 16)) (defScope (top 16)) .none kV16 dc16 pm16 an16 cd16 ct16), sl16⟩) (c16 : PySem.W.codeIn K cd16 "_law_oneway" = true) (k16 : PySem.W.keepIn K (.ref f16) = true)
    (a17 : PySem.W.nsIn K mainGlobals "_law_otherwise" = some (some (.ref f17))) (l17 : K.lookup f17 = some ⟨oc17, od17, .func (PySem.W.fnOf "_law_otherwise" "_law_otherwise" (defArgs (top 17)) (defBody (top 17)) (defScope (top 17)) .none kV17 dc17 pm17 an17 cd17 ct17), sl17⟩) (c17 : PySem.W.codeIn K cd17 "_law_otherwise" = true) (k17 : PySem.W.keepIn K (.ref f17) = true)
    (a18 : PySem.W.nsIn K mainGlobals "_law_is_whole" = some (some (.ref f18))) (l18 : K.lookup f18 = some ⟨oc18, od18, .func (PySem.W.fnOf "_law_is_whole" "_law_is_whole" (defArgs (top 18)) (defBody (top 18)) (defScope (top 18)) .none kV18 dc18 pm18 an18 cd18 ct18), sl18⟩) (c18 : PySem.W.codeIn K cd18 "_law_is_whole" = true) (k18 : PySem.W.keepIn K (.ref f18) = true)
    (a19 : PySem.W.nsIn K mainGlobals "_law_is_oneway" = some (some (.ref f19))) (l19 : K.lookup f19 = some ⟨oc19, od19, .func (PySem.W.fnOf "_law_is_oneway" "_law_is_oneway" (defArgs (top 19)) (defBody (top 19)) (defScope (top 19)) .none kV19 dc19 pm19 an19 cd19 ct19), sl19⟩) (c19 : PySem.W.codeIn K cd19 "_law_is_oneway" = true) (k19 : PySem.W.keepIn K (.ref f19) = true)
    (a20 : PySem.W.nsIn K mainGlobals "law" = some (some (.ref f20))) (l20 : K.lookup f20 = some ⟨oc20, od20, .func (PySem.W.fnOf "law" "law" (defArgs (top 20)) (defBody (top 20)) (defScope (top 20)) .none kV20 dc20 pm20 an20 cd20 ct20), sl20⟩) (c20 : PySem.W.codeIn K cd20 "law" = true) (k20 : PySem.W.keepIn K (.ref f20) = true)
    (g_MOST_ONEWAY_PLACES : PySem.W.nsIn K mainGlobals "MOST_ONEWAY_PLACES" = some (some (.int 9 tk_MOST_ONEWAY_PLACES)))
    (g_MOST_ONEWAY_TIES : PySem.W.nsIn K mainGlobals "MOST_ONEWAY_TIES" = some (some (.int 16 tk_MOST_ONEWAY_TIES)))
    (g_MOST_ONEWAY_PRICE : PySem.W.nsIn K mainGlobals "MOST_ONEWAY_PRICE" = some (some (.int 99 tk_MOST_ONEWAY_PRICE)))
    (z_isinstance : PySem.W.nsIn K mainGlobals "isinstance" = some none)
    (z_int : PySem.W.nsIn K mainGlobals "int" = some none)
    (z_bool : PySem.W.nsIn K mainGlobals "bool" = some none)
    (z_tuple : PySem.W.nsIn K mainGlobals "tuple" = some none)
    (z_len : PySem.W.nsIn K mainGlobals "len" = some none)
    (z_range : PySem.W.nsIn K mainGlobals "range" = some none)
    (z_repr : PySem.W.nsIn K mainGlobals "repr" = some none)
    (z_list : PySem.W.nsIn K mainGlobals "list" = some none)
    (z_min : PySem.W.nsIn K mainGlobals "min" = some none)
    (z_max : PySem.W.nsIn K mainGlobals "max" = some none)
    (z_str : PySem.W.nsIn K mainGlobals "str" = some none)
    (z_all : PySem.W.nsIn K mainGlobals "all" = some none) :
    ∃ fd : FuncData, (∀ (s : Shared) (v : Value), BindsTo s fd ⟨[v], []⟩ [("_law_script", v)]) ∧ ∀ base : Heap, K.In base → base.Ns mainGlobals mg → FnOk l.prog w K mg base CX0 20 fa fd ["_law_script"] (spLaw K) := by
  have e := hfa.symm.trans (PySem.W.mg_of X G a20)
  cases e
  have F1 := fun_mk (st := top 1) l1 c1 k1
  have m1 := PySem.W.mg_of X G a1
  have F2 := fun_mk (st := top 2) l2 c2 k2
  have m2 := PySem.W.mg_of X G a2
  have F4 := fun_mk (st := top 4) l4 c4 k4
  have m4 := PySem.W.mg_of X G a4
  have F5 := fun_mk (st := top 5) l5 c5 k5
  have m5 := PySem.W.mg_of X G a5
  have F10 := fun_mk (st := top 10) l10 c10 k10
  have m10 := PySem.W.mg_of X G a10
  have F11 := fun_mk (st := top 11) l11 c11 k11
  have m11 := PySem.W.mg_of X G a11
  have F13 := fun_mk (st := top 13) l13 c13 k13
  have m13 := PySem.W.mg_of X G a13
  have F14 := fun_mk (st := top 14) l14 c14 k14
  have m14 := PySem.W.mg_of X G a14
  have F15 := fun_mk (st := top 15) l15 c15 k15
  have m15 := PySem.W.mg_of X G a15
  have F16 := fun_mk (st := top 16) l16 c16 k16
  have m16 := PySem.W.mg_of X G a16
  have F17 := fun_mk (st := top 17) l17 c17 k17
  have m17 := PySem.W.mg_of X G a17
  have F18 := fun_mk (st := top 18) l18 c18 k18
  have m18 := PySem.W.mg_of X G a18
  have F19 := fun_mk (st := top 19) l19 c19 k19
  have m19 := PySem.W.mg_of X G a19
  have F20 := fun_mk (st := top 20) l20 c20 k20
  have m20 := PySem.W.mg_of X G a20
  have B : Bt mg := ⟨PySem.W.mg_none_of X G z_isinstance, PySem.W.mg_none_of X G z_int, PySem.W.mg_none_of X G z_bool, PySem.W.mg_none_of X G z_tuple, PySem.W.mg_none_of X G z_len⟩
  have B2 : Bt2 mg := ⟨PySem.W.mg_none_of X G z_range⟩
  have B3 : Bt3 mg := ⟨PySem.W.mg_none_of X G z_list, PySem.W.mg_none_of X G z_min, PySem.W.mg_none_of X G z_max⟩
  have B4 : Bt4 mg := ⟨PySem.W.mg_none_of X G z_str⟩
  have B5 : Bt5 mg := ⟨PySem.W.mg_none_of X G z_repr⟩
  have B6 : Bt6 mg := ⟨PySem.W.mg_none_of X G z_all⟩
  have BD : BtD mg := ⟨PySem.W.mg_none_of X G z_len, PySem.W.mg_none_of X G z_list⟩
  have M : GiO mg := ⟨⟨_, PySem.W.mg_of X G g_MOST_ONEWAY_PLACES⟩, ⟨_, PySem.W.mg_of X G g_MOST_ONEWAY_TIES⟩, ⟨_, PySem.W.mg_of X G g_MOST_ONEWAY_PRICE⟩⟩
  exact ⟨PySem.W.fnOf "law" "law" (defArgs (top 20)) (defBody (top 20)) (defScope (top 20)) .none kV20 dc20 pm20 an20 cd20 ct20, fun s v => .of_eq rfl, fun base _ _ => (by
    have dr := d_draw (P := l.prog) (w := w) (base := base) F14 m14 BD
    have sh := d_shuffled F15 m15 B B2 BD dr
    have dw := d_is_whole (P := l.prog) (w := w) (base := base) F1 m1 B
    have dt := d_is_tuple_of (P := l.prog) (w := w) (base := base) F2 m2 B
    have tk := d_is_tie_kind F4 m4 B6 dw dt
    have wk := d_is_web_kind F5 m5 B dw dt
    exact d_law F20 B B2 B3 B5 (d_feed F13 m13 BD) dr (d_onewayW F16 m16 B B2 BD dr sh) (d_otherwiseW F17 m17 B B3 B4 dr 11) (d_is_oneway F10 m10 B6 M wk (d_is_oneway_tie F11 m11 B3 M tk)) (d_law_is_oneway F19 m19 B (d_law_is_whole F18 m18 B)))⟩
theorem walk {l : PySem.W.OpenLaw} {q : Program} {loose : List Str} {XP : (Str → Option Value) → Heap → Prop} {YP : World → Heap → Prop} {d : DefRec} {K : Params → PySem.W.Frag} (hn : l.most = some 63) (hdf : d.params.defaults = [])
    (hY : ∀ (w : World) (h : Heap), YP w h → (K w.params).In h)
    (F : ∀ (w : World) (mg : Str → Option Value) (fa : Addr) (h : Heap), (K w.params).In h → h.Ns mainGlobals mg → mg d.name = some (.ref fa) →
      ∃ fd : FuncData, (∀ (s : Shared) (u : Value), BindsTo s fd ⟨[u], []⟩ [("_law_script", u)]) ∧ ∀ base : Heap, (K w.params).In base → base.Ns mainGlobals mg → FnOk l.prog w (K w.params) mg base CX0 20 fa fd ["_law_script"] (spLaw (K w.params))) :
    PySem.W.WalkO q loose XP YP l.row.toRowW d [] (fun f vs => PySem.call f vs) :=
  L2.walk_of (n := 63) (k := 20) (x := "_law_script") (CX := fun _ => CX0) (sp := fun w => spLaw (K w.params)) hn (by decide) hdf ⟨rfl, by decide, by decide, rfl⟩ hY F (fun _ _ a ns hl _ hS => ⟨a, ns, rfl, hS, hl, fun _ => rfl⟩) fun _ _ _ _ _ z => z
end Odj
open PySem PySem.W PyProof.Rows
set_option maxRecDepth 100000 in
set_option maxHeartbeats 0 in
theorem PySem.Challenge.cw_oddjoins_k65_oneway_webs_of_any_thing_holds : PySem.Challenge.rw_oddjoins_k65_oneway_webs_of_any_thing.Holds := by
  w_on; o_law; k_head; (case hw => w_witness2)
  k_fill
  refine Odj.walk (l := PySem.Challenge.rw_oddjoins_k65_oneway_webs_of_any_thing) rfl rfl (fun w h Y => PySem.W.kIn_of Y) ?F
  case F =>
    intro w mg fa h KX G hmg
    refine' Odj.all_mk KX G hmg ?a1 ?l1 ?c1 ?k1 ?a2 ?l2 ?c2 ?k2 ?a4 ?l4 ?c4 ?k4 ?a5 ?l5 ?c5 ?k5 ?a10 ?l10 ?c10 ?k10 ?a11 ?l11 ?c11 ?k11 ?a13 ?l13 ?c13 ?k13 ?a14 ?l14 ?c14 ?k14 ?a15 ?l15 ?c15 ?k15 ?a16 ?l16 ?c16 ?k16 ?a17 ?l17 ?c17 ?k17 ?a18 ?l18 ?c18 ?k18 ?a19 ?l19 ?c19 ?k19 ?a20 ?l20 ?c20 ?k20 ?g_MOST_ONEWAY_PLACES ?g_MOST_ONEWAY_TIES ?g_MOST_ONEWAY_PRICE ?z_isinstance ?z_int ?z_bool ?z_tuple ?z_len ?z_range ?z_repr ?z_list ?z_min ?z_max ?z_str ?z_all
    (case a1 => k_is); (case l1 => k_is); (case c1 => k_is); (case k1 => k_is)
    (case a2 => k_is); (case l2 => k_is); (case c2 => k_is); (case k2 => k_is)
    (case a4 => k_is); (case l4 => k_is); (case c4 => k_is); (case k4 => k_is)
    (case a5 => k_is); (case l5 => k_is); (case c5 => k_is); (case k5 => k_is)
    (case a10 => k_is); (case l10 => k_is); (case c10 => k_is); (case k10 => k_is)
    (case a11 => k_is); (case l11 => k_is); (case c11 => k_is); (case k11 => k_is)
    (case a13 => k_is); (case l13 => k_is); (case c13 => k_is); (case k13 => k_is)
    (case a14 => k_is); (case l14 => k_is); (case c14 => k_is); (case k14 => k_is)
    (case a15 => k_is); (case l15 => k_is); (case c15 => k_is); (case k15 => k_is)
    (case a16 => k_is); (case l16 => k_is); (case c16 => k_is); (case k16 => k_is)
    (case a17 => k_is); (case l17 => k_is); (case c17 => k_is); (case k17 => k_is)
    (case a18 => k_is); (case l18 => k_is); (case c18 => k_is); (case k18 => k_is)
    (case a19 => k_is); (case l19 => k_is); (case c19 => k_is); (case k19 => k_is)
    (case a20 => k_is); (case l20 => k_is); (case c20 => k_is); (case k20 => k_is)
    (case g_MOST_ONEWAY_PLACES => k_is); (case g_MOST_ONEWAY_TIES => k_is); (case g_MOST_ONEWAY_PRICE => k_is); (case z_isinstance => k_is)
    (case z_int => k_is); (case z_bool => k_is); (case z_tuple => k_is); (case z_len => k_is)
    (case z_range => k_is); (case z_repr => k_is); (case z_list => k_is); (case z_min => k_is)
    (case z_max => k_is); (case z_str => k_is); (case z_all => k_is)

