import PyProof.Rows.All
import Wide.All
import OpenK.AllK
import Wide.FinOn
import PyProof.EqAt
import PyProof.EqKinds
import PyProof.TupleCall
import KE.BitLaws
import KE.KSortTupG
import KE.KStar
import KE.KRevSl
import PySem.Challenge.RW_upleaf_k51_deeds_written_and_read
set_option Elab.async false
set_option linter.all false
set_option maxRecDepth 100000
section
section
/-! THE HAND LAYER, for ints, bools, texts, own classes, lists, tuples, dicts, comprehensions, walks over dicts, enumerate, zip, reversed, texts, calls, loops. Paste it whole ahead of your own text; what your proof does not reach may be deleted. -/
namespace L2
open PySem PySem.Spec PyProof.Rows

/-- a key: an int or a str -/
abbrev Key := Sum Int Str
def keyIs : Key → Value → Bool
  | .inl k, v => Value.isInt k v
  | .inr x, v => Value.isStrOf x v
def keyH (w : World) : Key → Int
  | .inl k => hashInt k
  | .inr x => hashStr w x
theorem keyIs_shape : ∀ {k : Key} {v : Value}, keyIs k v = true → (∃ i t, k = Sum.inl i ∧ v = Value.int i t) ∨ (∃ x t, k = Sum.inr x ∧ v = Value.str x t)
  | .inl i, v, h => by
    obtain ⟨t, e⟩ := Value.isInt_shape (k := i) (v := v) h
    exact .inl ⟨i, t, rfl, e⟩
  | .inr x, v, h => by
    obtain ⟨t, e⟩ := Value.isStrOf_shape (x := x) (v := v) h
    exact .inr ⟨x, t, rfl, e⟩
theorem keyIs_int (i : Int) (t : Tok) : keyIs (.inl i) (.int i t) = true := by simp [keyIs, Value.isInt]
theorem keyIs_str (x : Str) (t : Tok) : keyIs (.inr x) (.str x t) = true := by simp [keyIs, Value.isStrOf]
theorem key_ll (a b : Int) : decide ((Sum.inl a : Key) = Sum.inl b) = (a == b) := by
  by_cases e : a = b
  · subst e; simp
  · have h : ¬ (Sum.inl a : Key) = Sum.inl b := fun q => e (Sum.inl.inj q)
    rw [decide_eq_false h]
    exact (beq_eq_false_iff_ne.mpr e).symm
theorem key_rr (a b : Str) : decide ((Sum.inr a : Key) = Sum.inr b) = decide (a = b) := by
  by_cases e : a = b
  · subst e; simp
  · have h : ¬ (Sum.inr a : Key) = Sum.inr b := fun q => e (Sum.inr.inj q)
    rw [decide_eq_false h, decide_eq_false e]
theorem key_lr (a : Int) (b : Str) : decide ((Sum.inl a : Key) = Sum.inr b) = false := decide_eq_false (fun q => nomatch q)
theorem key_rl (a : Str) (b : Int) : decide ((Sum.inr a : Key) = Sum.inl b) = false := decide_eq_false (fun q => nomatch q)

def mixKind (prog : Program) (w : World) : PySem.KeyKind prog w Key where
  is := keyIs
  hash := keyH w
  inj := fun v a b ha hb => by
    rcases keyIs_shape ha with ⟨i, t, rfl, rfl⟩ | ⟨x, t, rfl, rfl⟩
    · rcases keyIs_shape hb with ⟨j, u, rfl, e⟩ | ⟨y, u, rfl, e⟩
      · injection e with e1 _; rw [e1]
      · exact nomatch e
    · rcases keyIs_shape hb with ⟨j, u, rfl, e⟩ | ⟨y, u, rfl, e⟩
      · exact nomatch e
      · injection e with e1 _; rw [e1]
  byValue := fun k v h => by
    rcases keyIs_shape h with ⟨i, t, rfl, rfl⟩ | ⟨x, t, rfl, rfl⟩ <;> rfl
  pyHash := fun hv h => by
    rcases keyIs_shape hv with ⟨i, t, rfl, rfl⟩ | ⟨x, t, rfl, rfl⟩
    · exact wpAny_pyHash_int h
    · exact wpAny_pyHash_str h
  eqBool := fun hu hv h => by
    rcases keyIs_shape hu with ⟨i, t, rfl, rfl⟩ | ⟨x, t, rfl, rfl⟩
    · rcases keyIs_shape hv with ⟨j, u, rfl, rfl⟩ | ⟨y, u, rfl, rfl⟩
      · rw [key_ll] at h; exact wpAny_eqBool_int h
      · rw [key_lr] at h; exact SeqAt.EqAt.int_str i t y u _ _ _ _ h
    · rcases keyIs_shape hv with ⟨j, u, rfl, rfl⟩ | ⟨y, u, rfl, rfl⟩
      · rw [key_rl] at h; exact SeqAt.EqAt.str_int x t j u _ _ _ _ h
      · rw [key_rr] at h; exact wpAny_eqBool_str h
  «strs» := fun k x t v h => by
    rcases keyIs_shape h with ⟨i, u, rfl, e⟩ | ⟨y, u, rfl, e⟩
    · exact nomatch e
    · injection e with e1 _
      subst e1
      cases v <;> rfl

theorem mixKind_int (prog : Program) (w : World) (i : Int) (t : Tok) : (mixKind prog w).is (.inl i) (.int i t) = true := keyIs_int i t
theorem mixKind_str (prog : Program) (w : World) (x : Str) (t : Tok) : (mixKind prog w).is (.inr x) (.str x t) = true := keyIs_str x t
end L2

namespace L2
open PySem PySem.Spec PyProof.Rows

/-- a value, without the heap -/
inductive V where
  | non | bl (b : Bool) | int (i : Int) | str (x : Str) | byt (b : Array UInt8) | flt (b : UInt64) | ref (a : Addr) | ty (n : String)
  deriving DecidableEq

def RelV : V → Value → Prop
  | .non, u => u = Value.none
  | .bl b, u => u = Value.bool b
  | .int i, u => ∃ t, u = Value.int i t
  | .str x, u => ∃ t, u = Value.str x t
  | .byt b, u => ∃ t, u = Value.bytes b t
  | .flt b, u => ∃ t, u = Value.float b t
  | .ref a, u => u = Value.ref a
  | .ty n, u => u = Value.type n

abbrev Vals : List V → List Value → Prop := Paired RelV
theorem Vals.length {xs : List V} {us : List Value} (r : Vals xs us) : xs.length = us.length := Paired.length r
theorem Vals.get : ∀ {xs : List V} {us : List Value} {i : Nat} {x : V}, Vals xs us → xs[i]? = some x → ∃ u, us[i]? = some u ∧ RelV x u
  | _, _, _, _, .nil, e => by simp at e
  | _, _, 0, _, .cons r _, e => by simp at e; subst e; exact ⟨_, rfl, r⟩
  | _, _, i + 1, x, .cons _ t, e => by
    obtain ⟨u, h1, h2⟩ := Vals.get (i := i) (x := x) t (by simpa using e)
    exact ⟨u, by simpa using h1, h2⟩
theorem Vals.set {x : V} {u : Value} (r : RelV x u) : ∀ {xs : List V} {us : List Value} (i : Nat), Vals xs us → Vals (xs.set i x) (us.set i u)
  | _, _, _, .nil => .nil
  | _, _, 0, .cons _ t => .cons r t
  | _, _, i + 1, .cons q t => .cons q (Vals.set r i t)
theorem Vals.append : ∀ {xs ys : List V} {us ws : List Value}, Vals xs us → Vals ys ws → Vals (xs ++ ys) (us ++ ws)
  | _, _, _, _, .nil, s => s
  | _, _, _, _, .cons r t, s => .cons r (Vals.append t s)
theorem Vals.take : ∀ {xs : List V} {us : List Value} (n : Nat), Vals xs us → Vals (xs.take n) (us.take n)
  | _, _, 0, _ => .nil
  | _, _, _ + 1, .nil => .nil
  | _, _, n + 1, .cons r t => .cons r (Vals.take n t)
theorem Vals.drop : ∀ {xs : List V} {us : List Value} (n : Nat), Vals xs us → Vals (xs.drop n) (us.drop n)
  | _, _, 0, r => r
  | _, _, _ + 1, .nil => .nil
  | _, _, n + 1, .cons _ t => Vals.drop n t

def RelO : Option V → Option Value → Prop
  | some v, some u => RelV v u
  | none, none => True
  | _, _ => False
def KV {κ : Type} : List (κ × V) → List (κ × Value) → Prop := Paired fun (p : κ × V) (q : κ × Value) => p.1 = q.1 ∧ RelV p.2 q.2

/-- a key of a dict (00_mix): an int or a text -/
def kV : Key → V
  | .inl i => .int i
  | .inr x => .str x

/-- what stands at a tracked address -/
inductive HO where
  /-- a list -/
  | lst (xs : List V)
  /-- a tuple (never changes) -/
  | tup (xs : List V)
  /-- a dict whose keys are ints and texts; one whose keys are tuples of ints and texts (the empty one is both) -/
  | dK (kvs : List (Key × V)) | dT (kvs : List (List Key × V))
  /-- a set of ints: its members, its size -/
  | set (S : Int → Bool) (n : Nat)
  /-- an instance of the class at C, its dict at dx, its attributes -/
  | ins (C dx : Addr) (fs : List (Str × V))
  /-- the dict of the instance at x -/
  | own (x : Addr)
  /-- the dict of an exception -/
  | xd (fs : List (Str × V))
  /-- a bound method, f of x -/
  | met (f x : Addr)
  /-- a range object lo, lo + 1, .. below hi -/
  | rng (lo hi : Int)
  /-- a thing that is known to the object (the script; a dict while a loop walks it): read, never written while it is so -/
  | frz (o : Obj) (u : HO)
  /-- a code object's table -/
  | tbl (ps : Array Value)
  /-- any other thing, by what is true of its one object (a def of one's own: SetO a S n := HO.ext fun h => ..) -/
  | ext (φ : Heap → Prop)

abbrev Hp := Addr → Option HO
def upd (H : Hp) (a : Addr) (o : HO) : Hp := fun b => if b = a then some o else H b
theorem upd_same {H : Hp} {a : Addr} {o : HO} : upd H a o a = some o := by unfold upd; rw [if_pos rfl]
theorem upd_ne {H : Hp} {a b : Addr} {o : HO} (h : b ≠ a) : upd H a o b = H b := by unfold upd; rw [if_neg h]
/-- two objects of different content stand apart -/
theorem ne_of {H : Hp} {a b : Addr} {o u : HO} (h : H a = some o) (h' : H b = some u) (d : o ≠ u) : a ≠ b := by
  intro e; subst e; rw [h] at h'; exact d (Option.some.inj h')
theorem ne_of_none {H : Hp} {a b : Addr} {o : HO} (h : H a = some o) (h' : H b = none) : a ≠ b := by
  intro e; subst e; rw [h] at h'; cases h'

section
variable (P : Program) (w : World)
def ObjOk (H : Hp) (h : Heap) (a : Addr) : HO → Prop
  | .lst xs => xs.length ≤ sizeLine ∧ ∃ (its : List Value) (n : Nat), Vals xs its ∧ h.get? a = some { cls := .type "list", data := .seq its.toArray n }
  | .tup xs => xs.length ≤ sizeLine ∧ ∃ its : List Value, Vals xs its ∧ IsTup h a its.toArray
  | .dK kvs => kvs.length ≤ sizeLine ∧ (a == sysModules) = false ∧ ∃ vs, KV kvs vs ∧ h.DictOf (mixKind P w) a vs
  | .dT kvs => kvs.length ≤ sizeLine ∧ (a == sysModules) = false ∧ ∃ xs : List (List Key × Addr × Value),
      Paired (fun (p : List Key × V) (q : List Key × Addr × Value) => p.1 = q.1 ∧ H q.2.1 = some (.tup (p.1.map kV)) ∧ RelV p.2 q.2.2) kvs xs ∧
      ∃ o es ep, h.get? a = some o ∧ o.ExactDict ∧ o.data = .dict es ep ∧ es.toList = xs.map (entryOfKey (tupleKind (mixKind P w))) ∧ (xs.map (·.1)).Nodup
  | .set S n => h.SetOf (intKind P w) a S n
  | .ins C dx fs => H dx = some (.own a) ∧ fs.length ≤ 1000 ∧ dx ≠ a ∧ h.get? a = some (PySem.W.instObj C dx) ∧
      ∃ mA, h.Ns1 dx mA ∧ (∀ f, RelO (fs.lookup f) (mA f)) ∧ PySem.Within mA (fs.map (·.1))
  | .own _ => ∃ o, h.get? a = some o
  | .xd fs => ∃ mA, h.Ns1 a mA ∧ ∀ f, RelO (fs.lookup f) (mA f)
  | .rng lo hi => ∃ t u v, h.get? a = some { cls := .type "range", data := .fields #[.int lo t, .int hi u, .int 1 v] }
  | .frz o u => h.get? a = some o ∧ ObjOk H h a u
  | .tbl ps => h.get? a = some { cls := .none, data := .fields ps }
  | .met f x => h.get? a = some (PySem.W.methodObj (.ref f) (.ref x))
  | .ext φ => φ h ∧ (∃ o, h.get? a = some o) ∧ ∀ h1 h2 : Heap, φ h1 → (∀ o, h1.get? a = some o → h2.get? a = some o) → φ h2
/-- the abstract heap is held -/
def HOk (H : Hp) (h : Heap) : Prop := ∀ a o, H a = some o → ObjOk P w H h a o
end

section
variable {P : Program} {w : World} {H H' : Hp} {h h' : Heap} {a : Addr} {o : HO}
theorem ObjOk.lt (x : ObjOk P w H h a o) : a < h.objs.size := by
  cases o with
  | lst xs => obtain ⟨_, _, _, _, e⟩ := x; exact Heap.lt_size e
  | tup xs => obtain ⟨_, _, _, p⟩ := x; exact p.lt
  | dK kvs => obtain ⟨_, _, _, _, o, _, _, e, _⟩ := x; exact Heap.lt_size e
  | dT kvs => obtain ⟨_, _, _, _, o, _, _, e, _⟩ := x; exact Heap.lt_size e
  | set S n => obtain ⟨o, _, _, _, e, _⟩ := x; exact Heap.lt_size e
  | ins C dx fs => obtain ⟨_, _, _, e, _⟩ := x; exact Heap.lt_size e
  | own y => obtain ⟨_, e⟩ := x; exact Heap.lt_size e
  | xd fs => obtain ⟨_, ⟨_, _, _, e, _⟩, _⟩ := x; exact Heap.lt_size e
  | rng lo hi => obtain ⟨_, _, _, e⟩ := x; exact Heap.lt_size e
  | frz ob u => obtain ⟨e, _⟩ := x; exact Heap.lt_size e
  | tbl ps => exact Heap.lt_size (show h.get? a = some _ from x)
  | met f y => exact Heap.lt_size (show h.get? a = some _ from x)
  | ext φ => obtain ⟨_, ⟨_, e⟩, _⟩ := x; exact Heap.lt_size e
theorem Paired.mapP {α β : Type} {F G : α → β → Prop} : ∀ {l₁ : List α} {l₂ : List β}, Paired F l₁ l₂ → (∀ a b, F a b → G a b) → Paired G l₁ l₂
  | _, _, .nil, _ => .nil
  | _, _, .cons r t, f => .cons (f _ _ r) (Paired.mapP t f)
/-- what an object's description leans on: its own object, its own dict, the tuples -/
theorem ObjOk.stay (x : ObjOk P w H h a o) (k : ∀ b u, (b = a ∨ H b = some (.own a)) → h.get? b = some u → h'.get? b = some u)
    (ho : ∀ b, H b = some (.own a) → H' b = some (.own a)) (ht : ∀ b xs, H b = some (.tup xs) → H' b = some (.tup xs)) : ObjOk P w H' h' a o := by
  induction o with
  | lst xs => obtain ⟨z, its, n, r, e⟩ := x; exact ⟨z, its, n, r, k _ _ (.inl rfl) e⟩
  | tup xs => obtain ⟨z, its, r, ob, e, c⟩ := x; exact ⟨z, its, r, ob, k _ _ (.inl rfl) e, c⟩
  | dK kvs => obtain ⟨z, y, vs, r, ob, es, ep, e, c⟩ := x; exact ⟨z, y, vs, r, ob, es, ep, k _ _ (.inl rfl) e, c⟩
  | dT kvs =>
    obtain ⟨z, y, xs, r, ob, es, ep, e, c⟩ := x
    exact ⟨z, y, xs, Paired.mapP r fun p q z => ⟨z.1, ht _ _ z.2.1, z.2.2⟩, ob, es, ep, k _ _ (.inl rfl) e, c⟩
  | set S n => obtain ⟨ob, es, ep, t, e, c⟩ := x; exact ⟨ob, es, ep, t, k _ _ (.inl rfl) e, c⟩
  | ins C dx fs =>
    obtain ⟨d, z, ne, e, mA, ⟨od, es, ep, e2, c⟩, r⟩ := x
    exact ⟨ho _ d, z, ne, k _ _ (.inl rfl) e, mA, ⟨od, es, ep, k _ _ (.inr d) e2, c⟩, r⟩
  | own y => obtain ⟨ob, e⟩ := x; exact ⟨ob, k _ _ (.inl rfl) e⟩
  | xd fs => obtain ⟨mA, ⟨od, es, ep, e, c⟩, r⟩ := x; exact ⟨mA, ⟨od, es, ep, k _ _ (.inl rfl) e, c⟩, r⟩
  | rng lo hi => obtain ⟨t, u, v, e⟩ := x; exact ⟨t, u, v, k _ _ (.inl rfl) e⟩
  | frz ob u ih => obtain ⟨e, q⟩ := x; exact ⟨k _ _ (.inl rfl) e, ih q⟩
  | tbl ps =>
    have e : h.get? a = some { cls := .none, data := .fields ps } := x
    show h'.get? a = some { cls := .none, data := .fields ps }
    exact k a _ (.inl rfl) e
  | met f y =>
    have e : h.get? a = some (PySem.W.methodObj (.ref f) (.ref y)) := x
    show h'.get? a = some (PySem.W.methodObj (.ref f) (.ref y))
    exact k a _ (.inl rfl) e
  | ext φ => obtain ⟨p, ⟨o, e⟩, st⟩ := x; exact ⟨st _ _ p fun o q => k _ _ (.inl rfl) q, ⟨o, k _ _ (.inl rfl) e⟩, st⟩
theorem HOk.lt (x : HOk P w H h) (e : H a = some o) : a < h.objs.size := (x a o e).lt
theorem HOk.fresh (x : HOk P w H h) (e : h.objs.size ≤ a) : H a = none := by
  cases q : H a with
  | none => rfl
  | some u => exact absurd (Nat.lt_of_lt_of_le (x.lt q) e) (Nat.lt_irrefl _)
/-- every object of the heap is kept -/
theorem HOk.kept (x : HOk P w H h) (k : ∀ b u, h.get? b = some u → h'.get? b = some u) : HOk P w H h' := fun a o e =>
  (x a o e).stay (fun b u _ q => k b u q) (fun _ q => q) fun _ _ q => q
/-- a new object is laid and tracked -/
theorem HOk.laid (x : HOk P w H h) (k : ∀ b u, h.get? b = some u → h'.get? b = some u) (hp : h.objs.size ≤ a) (new : ObjOk P w (upd H a o) h' a o) : HOk P w (upd H a o) h' := fun b u e => by
  have hn := x.fresh hp
  by_cases hb : b = a
  · subst hb; rw [upd_same] at e; cases e; exact new
  · rw [upd_ne hb] at e
    exact (x b u e).stay (fun c v _ q => k c v q) (fun c q => by rw [upd_ne (ne_of_none q hn)]; exact q) fun c xs q => by rw [upd_ne (ne_of_none q hn)]; exact q
end

/-- what may be read as u: it is u, or a known u -/
def Rd (H : Hp) (a : Addr) (u : HO) : Prop := H a = some u ∨ ∃ o, H a = some (.frz o u)
theorem Rd.ok {P : Program} {w : World} {H : Hp} {h : Heap} {a : Addr} {u : HO} (r : Rd H a u) (x : HOk P w H h) : ObjOk P w H h a u := by
  rcases r with r | ⟨o, r⟩
  · exact x a u r
  · obtain ⟨_, q⟩ := x a _ r
    exact q
/-- what may be written -/
def Mut : Option HO → Prop
  | some (.lst _) => True
  | some (.dK _) => True
  | some (.dT _) => True
  | some (.set _ _) => True
  | some (.ins _ _ _) => True
  | some (.ext _) => True
  | _ => False
section
variable {P : Program} {w : World} {H : Hp} {h h' : Heap} {x e : Addr} {o' : HO}
/-- the object at e is changed: x itself, or the dict of the instance x -/
theorem HOk.write (ok : HOk P w H h) (mu : Mut (H x)) (he : e = x ∨ H e = some (.own x)) (k : ∀ b u, b ≠ e → h.get? b = some u → h'.get? b = some u) (heo : ∃ u, h'.get? e = some u)
    (new : ObjOk P w (upd H x o') h' x o') : HOk P w (upd H x o') h' := fun b u q => by
  have nown : ∀ c y, H c = some (.own y) → c ≠ x := fun c y r z => by subst z; rw [r] at mu; exact mu
  have ntup : ∀ c xs, H c = some (.tup xs) → c ≠ x := fun c xs r z => by subst z; rw [r] at mu; exact mu
  by_cases hb : b = x
  · subst hb; rw [upd_same] at q; cases q; exact new
  · rw [upd_ne hb] at q
    by_cases hbe : b = e
    · have q' : H b = some (.own x) := by
        rcases he with z | z
        · exact absurd (hbe.trans z) hb
        · rw [hbe]; exact z
      rw [q] at q'; cases q'
      obtain ⟨v, hv⟩ := heo
      exact ⟨v, by rw [hbe]; exact hv⟩
    · refine (ok b u q).stay (fun c v hc r => k c v ?_ r) (fun c r => by rw [upd_ne (nown c b r)]; exact r) fun c xs r => by rw [upd_ne (ntup c xs r)]; exact r
      rcases hc with rfl | hc
      · exact hbe
      · rintro rfl
        rcases he with z | z
        · exact nown c b hc z
        · rw [hc] at z; cases z; exact hb rfl
end

/-! ### kept unless tracked; of the frames at fs (the callers') the slots may change (an exception that passes writes there); of the records at ex (iterators) nothing is said -/
structure Un (fs ex : List Addr) (H H' : Hp) (h h' : Heap) : Prop where
  keep : ∀ b o, h.get? b = some o → H b = none → b ∉ fs → b ∉ ex → h'.get? b = some o
  slot : ∀ b o, h.get? b = some o → H b = none → b ∈ fs → b ∉ ex → ∃ sl, h'.get? b = some { o with slots := sl }
  free : ∀ b o, h.get? b = some o → H b = none → b ∉ ex → H' b = none
  there : ∀ b o, h.get? b = some o → b ∉ ex → ∃ o', h'.get? b = some o'
  tups : ∀ b xs, H b = some (.tup xs) → H' b = some (.tup xs)
  frzs : ∀ b o u, H b = some (.frz o u) → H' b = some (.frz o u)
  tbls : ∀ b ps, H b = some (.tbl ps) → ∃ more, H' b = some (.tbl (ps ++ more))
section
variable {fs fs' ex ex' : List Addr} {H H1 H2 : Hp} {h h1 h2 h' : Heap} {a x e : Addr} {o : HO}
theorem Un.any (u : Un fs ex H H1 h h1) {b : Addr} {ob : Obj} (q : h.get? b = some ob) (n : H b = none) (hx : b ∉ ex) : ∃ sl, h1.get? b = some { ob with slots := sl } := by
  by_cases hb : b ∈ fs
  · exact u.slot b ob q n hb hx
  · exact ⟨ob.slots, u.keep b ob q n hb hx⟩
theorem Un.kept (k : ∀ b u, h.get? b = some u → h'.get? b = some u) : Un fs ex H H h h' :=
  ⟨fun b ob q _ _ _ => k b ob q, fun b ob q _ _ _ => ⟨ob.slots, k b ob q⟩, fun _ _ _ n _ => n, fun b ob q _ => ⟨ob, k b ob q⟩, fun _ _ q => q, fun _ _ _ q => q, fun _ ps q => ⟨#[], by rw [q]; simp⟩⟩
theorem Un.refl : Un fs ex H H h h := Un.kept fun _ _ q => q
theorem Un.laid (k : ∀ b u, h.get? b = some u → h'.get? b = some u) (hp : h.objs.size ≤ a) (hn : H a = none) : Un fs ex H (upd H a o) h h' where
  keep := fun b u q _ _ _ => k b u q
  slot := fun b u q _ _ _ => ⟨u.slots, k b u q⟩
  free := fun b u q n _ => by rw [upd_ne (Nat.ne_of_lt (Nat.lt_of_lt_of_le (Heap.lt_size q) hp))]; exact n
  there := fun b u q _ => ⟨u, k b u q⟩
  tups := fun b xs q => by rw [upd_ne (ne_of_none q hn)]; exact q
  frzs := fun b u xs q => by rw [upd_ne (ne_of_none q hn)]; exact q
  tbls := fun b ps q => ⟨#[], by rw [upd_ne (ne_of_none q hn), q]; simp⟩
theorem Un.write (mu : Mut (H x)) (he : e = x ∨ H e = some (.own x)) (k : ∀ b u, b ≠ e → h.get? b = some u → h'.get? b = some u) (heo : ∃ u, h'.get? e = some u) : Un fs ex H (upd H x o) h h' := by
  have hx : ∀ b, H b = none → b ≠ x := fun b n z => by subst z; rw [n] at mu; exact mu
  have hb : ∀ b, H b = none → b ≠ e := fun b n z => by
    subst z
    rcases he with r | r
    · exact hx b n r
    · rw [n] at r; cases r
  have hm : ∀ b u, H b = some u → ¬ Mut (some u) → b ≠ x := fun b u q nm z => by subst z; rw [q] at mu; exact nm mu
  refine ⟨fun b u q n _ _ => k b u (hb b n) q, fun b u q n _ _ => ⟨u.slots, k b u (hb b n) q⟩, fun b u q n _ => by rw [upd_ne (hx b n)]; exact n, fun b u q _ => ?_,
    fun b xs q => by rw [upd_ne (hm b _ q fun z => z)]; exact q, fun b u xs q => by rw [upd_ne (hm b _ q fun z => z)]; exact q, fun b ps q => ⟨#[], by rw [upd_ne (hm b _ q fun z => z), q]; simp⟩⟩
  by_cases hbe : b = e
  · subst hbe; exact heo
  · exact ⟨u, k b u hbe q⟩
end

/-! ### the heap without what is tracked -/
def trk (h : Heap) (H : Hp) : List Addr := (List.range h.objs.size).filter fun a => (H a).isSome
def hidT (h : Heap) (H : Hp) : Heap := PySem.W.hideAll h (trk h H)
theorem hidT_size (h : Heap) (H : Hp) : (hidT h H).objs.size = h.objs.size := PySem.W.hideAll_size _ _
theorem hidT_get {h : Heap} {H : Hp} {b : Addr} {o : Obj} (e : h.get? b = some o) (n : H b = none) : (hidT h H).get? b = some o :=
  PySem.W.hideAll_get _ e fun hm => by
    have q : (H b).isSome = true := (List.mem_filter.mp hm).2
    rw [n] at q; simp at q
theorem of_hidT {h : Heap} {H : Hp} {b : Addr} {o : Obj} (e : (hidT h H).get? b = some o) : h.get? b = some o ∧ H b = none := by
  have e' : h.get? b = some o := PySem.W.of_hideAll (trk h H) e
  refine ⟨e', ?_⟩
  cases q : H b with
  | none => rfl
  | some x =>
    have hm : b ∈ trk h H := List.mem_filter.mpr ⟨List.mem_range.mpr (Heap.lt_size e'), by simp [q]⟩
    have z : (hidT h H).get? b = none := PySem.W.hideAll_none (trk h H) hm
    rw [z] at e; cases e

/-! ### OpenK's ledger, filled with every new object but one -/
def allNews (g h : Heap) (L : Addr) : List (Addr × Obj) := (List.range h.objs.size).filterMap fun a => if a = L ∨ (g.get? a).isSome = true then none else (h.get? a).map fun o => (a, o)
def rest (g h : Heap) (L d : Addr) : List (Addr × Obj) := (allNews g h L).filter fun p => decide (p.1 ≠ d)
end L2

namespace L2
open PySem PySem.Spec PyProof.Rows

/-- the module's facts, over the base: the heap at the law's entry without what is tracked there -/
structure Mod (K : PySem.W.Frag) (mg : Str → Option Value) (base : Heap) : Prop where
  kin : K.In base
  glob : base.Ns mainGlobals mg
  blt : ∃ mb, base.Ns builtinsNs mb ∧ ∀ x : Str, x ≠ "__name__" → mb x = bootBuiltins x
  nolimit : base.NoLimit

/-- the context: a def's body (or a comprehension's block) running. base: fixed through the whole law; s₀, H₀: the entry; outer: the frames whose slots others may change (a def's callers); stack: all frames that run;
   ex: iterators that were made ahead of the entry and are walked here (a comprehension's); fn: the names whose cells were made at the entry (a def: all; a comprehension's block: its own); calm: not within an except suite; pn: pins that every state bears; xe: what is wanted of an exception that leaves the code -/
structure Cx where
  prog : Program
  w : World
  K : PySem.W.Frag
  mg : Str → Option Value
  base : Heap
  A : Around
  N : List Str
  s_0 : Shared
  H_0 : Hp
  env : Env
  outer : List Env
  stack : List Env
  ex : List Addr
  fn : Str → Bool
  calm : Bool
  pn : List (Addr × Obj)
  xe : Value → Shared → Prop
/-- the callers' frames -/
def frs (l : List Env) : List Addr := l.filterMap (·.frame)
abbrev Cx.fs (X : Cx) : List Addr := frs X.outer

def Vis (sc : Scope) (x : Str) : Prop := sc.names.lookup x = some .local ∨ sc.names.lookup x = some .cell ∨ sc.names.lookup x = some .free
def Loc (sc : Scope) (x : Str) : Prop := sc.names.lookup x = some .local ∨ sc.names.lookup x = some .cell
def Look (env : Env) (h : Heap) (m : Str → Option Value) (x : Str) (u : Value) : Prop :=
  (env.kindOf x = some .local ∧ m x = some u) ∨ ((env.kindOf x = some .cell ∨ env.kindOf x = some .free) ∧ ∃ c, env.cells.lookup x = some c ∧ h.IsCell c (some u))

structure Cx.Ok (X : Cx) : Prop where
  mod : Mod X.K X.mg X.base
  kind : X.env.scope.kind = .function
  glob : X.env.globals = mainGlobals
  blt : X.env.builtins = builtinsNs
  above : X.s_0.heap.objs.size ≤ X.env.locals
  inj : ∀ x y c, X.env.cells.lookup x = some c → X.env.cells.lookup y = some c → x = y
  has : ∀ x, (X.env.kindOf x = some .cell ∨ X.env.kindOf x = some .free) → ∃ c, X.env.cells.lookup x = some c
  cab : ∀ x c, X.fn x = true → X.env.cells.lookup x = some c → X.s_0.heap.objs.size ≤ c
  hd : X.calm = true → X.A.handled = none
  frames : X.A.frames = some X.stack
  stk : X.stack = X.outer ∨ (X.stack = X.env :: X.outer ∧ X.env.frame = some X.env.locals)
  exf : ∀ b ∈ X.ex, b ≠ X.env.locals ∧ ∀ x c, X.env.cells.lookup x = some c → c ≠ b
  bs : ∀ b o, X.base.get? b = some o → X.s_0.heap.get? b = some o ∧ X.H_0 b = none
  bsz : X.base.objs.size ≤ X.s_0.heap.objs.size
  noex : ∀ b o, X.base.get? b = some o → b ∉ X.ex
  exfs : ∀ b ∈ X.ex, b ∉ X.fs
  funs : X.s_0.heap.FunFrames X.base X.outer
  frf : ∀ b ∈ X.fs, X.H_0 b = none

structure Inv (X : Cx) (pins : List (Addr × Obj)) (σ : List (Option V)) (H : Hp) (s : Shared) : Prop where
  ok : X.Ok
  os : s.os = X.s_0.os
  bare : AllBare s.gens
  base : Un X.fs X.ex X.H_0 H X.s_0.heap s.heap
  loc : ∃ m, s.heap.Ns X.env.locals m ∧ ∀ (i : Nat) (x : Str) (v : V), X.N[i]? = some x → σ[i]? = some (some v) → Vis X.env.scope x → ∃ u, RelV v u ∧ Look X.env s.heap m x u
  cell : ∀ x c, X.env.cells.lookup x = some c → ∃ v, s.heap.IsCell c v
  free : H X.env.locals = none
  freeC : ∀ x c, X.env.cells.lookup x = some c → H c = none
  pin : ∀ p ∈ X.pn ++ pins, s.heap.get? p.1 = some p.2 ∧ H p.1 = none ∧ p.1 ≠ X.env.locals ∧ p.1 ∉ X.fs ∧ ∀ v, p.2.data ≠ .cell v
  hok : HOk X.prog X.w H s.heap
  len : σ.length = X.N.length

section
variable {X : Cx} {pins : List (Addr × Obj)} {σ : List (Option V)} {H H' : Hp} {s : Shared} {h' : Heap}

theorem Cx.Ok.nofr (ok : X.Ok) {b : Addr} {o : Obj} (e : X.base.get? b = some o) : b ∉ X.fs := fun hb => by
  have := (ok.funs.mem hb).1
  rw [e] at this; cases this
theorem Inv.bs (I : Inv X pins σ H s) : ∀ b o, X.base.get? b = some o → s.heap.get? b = some o ∧ H b = none := fun b o e =>
  ⟨I.base.keep b o (I.ok.bs b o e).1 (I.ok.bs b o e).2 (I.ok.nofr e) (I.ok.noex b o e), I.base.free b o (I.ok.bs b o e).1 (I.ok.bs b o e).2 (I.ok.noex b o e)⟩
theorem Inv.bk (I : Inv X pins σ H s) : ∀ b o, X.base.get? b = some o → s.heap.get? b = some o := fun b o e => (I.bs b o e).1
theorem Inv.mod (I : Inv X pins σ H s) : Mod X.K X.mg X.base := I.ok.mod
theorem Inv.kIn (I : Inv X pins σ H s) : X.K.In s.heap := I.ok.mod.kin.keeps I.bk
theorem Inv.lt (I : Inv X pins σ H s) : X.env.locals < s.heap.objs.size := let ⟨_, hn, _⟩ := I.loc; hn.lt
theorem Inv.sz (I : Inv X pins σ H s) : X.s_0.heap.objs.size ≤ s.heap.objs.size := Nat.le_trans I.ok.above (Nat.le_of_lt I.lt)
theorem Inv.nofs (I : Inv X pins σ H s) {a : Addr} (h : s.heap.objs.size ≤ a) : a ∉ X.fs := fun hb => by
  obtain ⟨_, o, ho, _⟩ := I.ok.funs.mem hb
  exact absurd (Nat.lt_of_lt_of_le (Heap.lt_size ho) (Nat.le_trans I.sz h)) (Nat.lt_irrefl _)
theorem Inv.cne (I : Inv X pins σ H s) : ∀ x c, X.env.cells.lookup x = some c → c ≠ X.env.locals := fun x c e z => by
  obtain ⟨v, o, ho, hd⟩ := I.cell x c e
  obtain ⟨m, ⟨o', es, ep, ho', hd', _⟩, _⟩ := I.loc
  rw [z, ho'] at ho; cases ho; rw [hd'] at hd; cases hd
theorem Inv.funs (I : Inv X pins σ H s) : s.heap.FunFrames X.base X.outer := by
  have all : ∀ (l : List Env), (∀ b ∈ frs l, b ∈ X.fs) → X.s_0.heap.FunFrames X.base l → s.heap.FunFrames X.base l := by
    intro l
    induction l with
    | nil => intro _ _; trivial
    | cons env r ih =>
      intro hs hl
      obtain ⟨hk, ⟨L, o, hf, hn, ho, hd⟩, hr⟩ := hl
      have hL : L ∈ X.fs := hs L (by unfold frs; rw [List.filterMap_cons, hf]; exact List.mem_cons_self)
      obtain ⟨sl, e⟩ := I.base.slot L o ho (I.ok.frf L hL) hL fun z => I.ok.exfs L z hL
      exact ⟨hk, ⟨L, _, hf, hn, e, hd⟩, ih (fun b hb => hs b (by unfold frs; rw [List.filterMap_cons, hf]; exact List.mem_cons_of_mem _ hb)) hr⟩
  exact all X.outer (fun _ hb => hb) I.ok.funs

/-- the frames that run, for a call -/
theorem Inv.stack (I : Inv X pins σ H s) : s.heap.FunFrames X.base X.stack := by
  rcases I.ok.stk with e | ⟨e, hf⟩
  · rw [e]; exact I.funs
  · rw [e]
    obtain ⟨m, hn, _⟩ := I.loc
    refine .cons (by rw [I.ok.kind]; decide) hf hn ?_ I.funs
    exact Heap.get?_none_of_le (Nat.le_trans I.ok.bsz I.ok.above)
theorem Inv.stkSub (I : Inv X pins σ H s) : ∀ b ∈ frs X.stack, b ∈ X.env.locals :: X.fs := fun b hb => by
  rcases I.ok.stk with e | ⟨e, hf⟩
  · rw [e] at hb; exact List.mem_cons_of_mem _ hb
  · rw [e] at hb
    unfold frs at hb
    rw [List.filterMap_cons, hf] at hb
    exact hb
theorem Inv.stkFree (I : Inv X pins σ H s) : ∀ b ∈ frs X.stack, H b = none := fun b hb => by
  rcases List.mem_cons.mp (I.stkSub b hb) with e | hb
  · rw [e]; exact I.free
  · obtain ⟨_, o, ho, _⟩ := I.ok.funs.mem hb
    exact I.base.free b o ho (I.ok.frf b hb) fun z => I.ok.exfs b z hb

/-- THE STEP: the untracked objects but the frame and the records at ch are kept (the callers' frames up to slots), the frame's map is kept, the new abstract heap is held -/
theorem Inv.step {g' : Array GenState} {t' : Nat} {d' : Drawn} {ch : List Addr} (I : Inv X pins σ H s)
    (hch : ∀ b ∈ ch, (b ∈ X.ex ∨ X.s_0.heap.objs.size ≤ b) ∧ b ≠ X.env.locals ∧ (∀ x c, X.env.cells.lookup x = some c → c ≠ b) ∧ ∀ p ∈ X.pn ++ pins, p.1 ≠ b)
    (keep : ∀ b o, b ≠ X.env.locals → b ∉ X.fs → b ∉ ch → s.heap.get? b = some o → H b = none → h'.get? b = some o)
    (slot : ∀ b o, b ≠ X.env.locals → b ∈ X.fs → b ∉ ch → s.heap.get? b = some o → H b = none → ∃ sl, h'.get? b = some { o with slots := sl }) (free : ∀ b o, b ∉ ch → s.heap.get? b = some o → H b = none → H' b = none)
    (there : ∀ b o, b ∉ ch → s.heap.get? b = some o → ∃ o', h'.get? b = some o')
    (tups : ∀ b xs, H b = some (.tup xs) → H' b = some (.tup xs)) (frzs : ∀ b o u, H b = some (.frz o u) → H' b = some (.frz o u)) (tbls : ∀ b ps, H b = some (.tbl ps) → ∃ more, H' b = some (.tbl (ps ++ more)))
    (ns : ∀ m, s.heap.Ns X.env.locals m → h'.Ns X.env.locals m) (hok : HOk X.prog X.w H' h') (hg : AllBare g') :
    Inv X pins σ H' { s with heap := h', gens := g', drawn := d', toks := t' } := by
  have neL : ∀ b o, X.s_0.heap.get? b = some o → b ≠ X.env.locals := fun b o e => Nat.ne_of_lt (Nat.lt_of_lt_of_le (Heap.lt_size e) I.ok.above)
  have neC : ∀ b o, X.s_0.heap.get? b = some o → b ∉ X.ex → b ∉ ch := fun b o e hx hb => by
    rcases (hch b hb).1 with z | z
    · exact hx z
    · exact absurd (Nat.lt_of_lt_of_le (Heap.lt_size e) z) (Nat.lt_irrefl _)
  have cellK : ∀ x c, X.env.cells.lookup x = some c → ∀ v, s.heap.IsCell c v → h'.IsCell c v := fun x c e v ⟨o, ho, hd⟩ => by
    have nch : c ∉ ch := fun z => (hch c z).2.2.1 x c e rfl
    by_cases hc : c ∈ X.fs
    · obtain ⟨sl, q⟩ := slot c o (I.cne x c e) hc nch ho (I.freeC x c e)
      exact ⟨_, q, hd⟩
    · exact ⟨o, keep c o (I.cne x c e) hc nch ho (I.freeC x c e), hd⟩
  refine ⟨I.ok, I.os, hg, ⟨fun b o e n hb hx => ?_, fun b o e n hb hx => ?_, fun b o e n hx => ?_, fun b o e hx => ?_, fun b xs e => tups b xs (I.base.tups b xs e), fun b o xs e => frzs b o xs (I.base.frzs b o xs e), fun b ps e => ?_⟩, ?_, fun x c e => ?_, ?_, fun x c e => ?_, fun p hp => ?_, hok, I.len⟩
  · exact keep b o (neL b o e) hb (neC b o e hx) (I.base.keep b o e n hb hx) (I.base.free b o e n hx)
  · obtain ⟨sl, e1⟩ := I.base.slot b o e n hb hx
    obtain ⟨sl', e2⟩ := slot b _ (neL b o e) hb (neC b o e hx) e1 (I.base.free b o e n hx)
    exact ⟨sl', e2⟩
  · obtain ⟨o', e1⟩ := I.base.there b o e hx
    exact free b o' (neC b o e hx) e1 (I.base.free b o e n hx)
  · obtain ⟨o', e1⟩ := I.base.there b o e hx
    exact there b o' (neC b o e hx) e1
  · obtain ⟨m1, e1⟩ := I.base.tbls b ps e
    obtain ⟨m2, e2⟩ := tbls b _ e1
    exact ⟨m1 ++ m2, by rw [e2, Array.append_assoc]⟩
  · obtain ⟨m, hn, hl⟩ := I.loc
    refine ⟨m, ns m hn, fun i x v e1 e2 e3 => ?_⟩
    obtain ⟨u, r, l⟩ := hl i x v e1 e2 e3
    refine ⟨u, r, ?_⟩
    rcases l with l | ⟨k, c, e, z⟩
    · exact .inl l
    · exact .inr ⟨k, c, e, cellK x c e _ z⟩
  · obtain ⟨v, z⟩ := I.cell x c e
    exact ⟨v, cellK x c e v z⟩
  · obtain ⟨m, ⟨o, _, _, ho, _⟩, _⟩ := I.loc
    exact free _ o (fun z => (hch _ z).2.1 rfl) ho I.free
  · obtain ⟨v, o, ho, hd⟩ := I.cell x c e
    exact free c o (fun z => (hch c z).2.2.1 x c e rfl) ho (I.freeC x c e)
  · obtain ⟨e, n, ne, nf, d⟩ := I.pin p hp
    have nch : p.1 ∉ ch := fun z => (hch p.1 z).2.2.2 p hp rfl
    exact ⟨keep p.1 p.2 ne nf nch e n, free p.1 p.2 nch e n, ne, nf, d⟩
/-- .. where the frame's own object is kept too -/
theorem Inv.un {t' : Nat} (I : Inv X pins σ H s) (u : Un X.fs [] H H' s.heap h') (hok : HOk X.prog X.w H' h') : Inv X pins σ H' { s with heap := h', toks := t' } := by
  obtain ⟨m, ⟨o, es, ep, ho, r⟩, _⟩ := id I.loc
  obtain ⟨sl, hL⟩ := u.any ho I.free (by simp)
  exact I.step (g' := s.gens) (d' := s.drawn) (ch := []) (fun _ z => nomatch z) (fun b o _ hb _ e n => u.keep b o e n hb (by simp)) (fun b o _ hb _ e n => u.slot b o e n hb (by simp)) (fun b o _ e n => u.free b o e n (by simp)) (fun b o _ e => u.there b o e (by simp)) u.tups u.frzs u.tbls (fun m' hm => by
    obtain ⟨o', es', ep', ho', r'⟩ := hm
    rw [ho] at ho'; cases ho'
    exact ⟨_, es', ep', hL, r'⟩) hok I.bare
/-- behind a call (or a comprehension's block): the slots of this frame may have changed too, the records at ch may have turned -/
theorem Inv.call {g' : Array GenState} {t' : Nat} {d' : Drawn} {ch : List Addr} (I : Inv X pins σ H s) (u : Un (frs X.stack) ch H H' s.heap h') (hok : HOk X.prog X.w H' h') (hg : AllBare g')
    (hch : ∀ b ∈ ch, (b ∈ X.ex ∨ X.s_0.heap.objs.size ≤ b) ∧ b ≠ X.env.locals ∧ (∀ x c, X.env.cells.lookup x = some c → c ≠ b) ∧ ∀ p ∈ X.pn ++ pins, p.1 ≠ b) :
    Inv X pins σ H' { s with heap := h', gens := g', drawn := d', toks := t' } := by
  obtain ⟨m, ⟨o, es, ep, ho, r⟩, _⟩ := id I.loc
  obtain ⟨sl, hL⟩ := u.any ho I.free fun z => (hch _ z).2.1 rfl
  exact I.step (ch := ch) hch (fun b o hL hb hc e n => u.keep b o e n (fun z => (List.mem_cons.mp (I.stkSub b z)).elim hL hb) hc) (fun b o _ _ hc e n => u.any e n hc) (fun b o hc e n => u.free b o e n hc) (fun b o hc e => u.there b o e hc) u.tups u.frzs u.tbls (fun m' hm => by
    obtain ⟨o', es', ep', ho', r'⟩ := hm
    rw [ho] at ho'; cases ho'
    exact ⟨_, es', ep', hL, r'⟩) hok hg
/-- an untracked record of ours (an iterator) has turned -/
theorem Inv.turned {t' : Nat} {it : Addr} (I : Inv X pins σ H s) (k : ∀ b o, b ≠ it → s.heap.get? b = some o → h'.get? b = some o) (hn : H it = none) (hL : it ≠ X.env.locals)
    (h1 : it ∈ X.ex ∨ X.s_0.heap.objs.size ≤ it) (h2 : ∀ x c, X.env.cells.lookup x = some c → c ≠ it) (h3 : ∀ p ∈ X.pn ++ pins, p.1 ≠ it) : Inv X pins σ H { s with heap := h', toks := t' } := by
  have nit : ∀ b u, H b = some u → b ≠ it := fun b u e z => by rw [z, hn] at e; cases e
  refine I.step (g' := s.gens) (d' := s.drawn) (ch := [it]) (fun b hb => ?_) (fun b o _ _ hc e _ => k b o (fun z => hc (by simp [z])) e) (fun b o _ _ hc e _ => ⟨o.slots, k b o (fun z => hc (by simp [z])) e⟩) (fun _ _ _ _ n => n)
    (fun b o hc e => ⟨o, k b o (fun z => hc (by simp [z])) e⟩) (fun _ _ e => e) (fun _ _ _ e => e) (fun b ps e => ⟨#[], by rw [e]; simp⟩) (fun m hm => ?_) (fun b u e => ?_) I.bare
  · have e : b = it := by simpa using hb
    subst e
    exact ⟨h1, hL, h2, h3⟩
  · obtain ⟨o, es, ep, ho, r⟩ := hm
    exact ⟨o, es, ep, k _ o (Ne.symm hL) ho, r⟩
  · refine (I.hok b u e).stay (fun c v hc q => k c v ?_ q) (fun _ q => q) fun _ _ q => q
    rcases hc with z | z
    · rw [z]; exact nit b u e
    · exact nit c _ z
theorem Inv.tok (I : Inv X pins σ H s) (t : Nat) : Inv X pins σ H { s with toks := t } := I.un (h' := s.heap) (t' := t) Un.refl I.hok
/-- all objects kept -/
theorem Inv.kept {t' : Nat} (I : Inv X pins σ H s) (k : ∀ b u, s.heap.get? b = some u → h'.get? b = some u) : Inv X pins σ H { s with heap := h', toks := t' } := I.un (Un.kept k) (I.hok.kept k)
/-- a new object laid and tracked -/
theorem Inv.laid {a : Addr} {o : HO} {t' : Nat} (I : Inv X pins σ H s) (k : ∀ b u, s.heap.get? b = some u → h'.get? b = some u) (hp : s.heap.objs.size ≤ a) (new : ObjOk X.prog X.w (upd H a o) h' a o) :
    Inv X pins σ (upd H a o) { s with heap := h', toks := t' } := I.un (Un.laid k hp (I.hok.fresh hp)) (I.hok.laid k hp new)
/-- an object written -/
theorem Inv.write {x e : Addr} {o : HO} {t' : Nat} (I : Inv X pins σ H s) (mu : Mut (H x)) (he : e = x ∨ H e = some (.own x)) (k : ∀ b u, b ≠ e → s.heap.get? b = some u → h'.get? b = some u) (heo : ∃ u, h'.get? e = some u)
    (new : ObjOk X.prog X.w (upd H x o) h' x o) : Inv X pins σ (upd H x o) { s with heap := h', toks := t' } := I.un (Un.write mu he k heo) (I.hok.write mu he k heo new)
/-- forgetting slots, pins -/
theorem Inv.weak {σ' : List (Option V)} (I : Inv X pins σ H s) (hl : σ'.length = σ.length) (w : ∀ (i : Nat) v, σ'[i]? = some (some v) → σ[i]? = some (some v)) : Inv X pins σ' H s :=
  ⟨I.ok, I.os, I.bare, I.base, let ⟨m, hn, hl'⟩ := I.loc; ⟨m, hn, fun i x v e1 e2 e3 => hl' i x v e1 (w i v e2) e3⟩, I.cell, I.free, I.freeC, I.pin, I.hok, hl.trans I.len⟩
theorem Inv.pins_of {pins' : List (Addr × Obj)} (I : Inv X pins σ H s) (h : ∀ p ∈ pins', s.heap.get? p.1 = some p.2 ∧ H p.1 = none ∧ p.1 ≠ X.env.locals ∧ p.1 ∉ X.fs ∧ ∀ v, p.2.data ≠ .cell v) : Inv X pins' σ H s :=
  ⟨I.ok, I.os, I.bare, I.base, I.loc, I.cell, I.free, I.freeC, fun p hp => (List.mem_append.mp hp).elim (fun z => I.pin p (List.mem_append_left _ z)) (h p), I.hok, I.len⟩

theorem nodup_ix {N : List Str} (hN : N.Nodup) {i j : Nat} {x : Str} (a : N[i]? = some x) (b : N[j]? = some x) : i = j := by
  obtain ⟨h1, e1⟩ := List.getElem?_eq_some_iff.mp a
  obtain ⟨h2, e2⟩ := List.getElem?_eq_some_iff.mp b
  exact (List.getElem_inj hN).mp (e1.trans e2.symm)

/-- a name is stored; what changed -/
theorem store_ok2 {M : Model} {A : Around} {E : Value → Shared → Prop} {i : Nat} {x : Str} {v : V} {u : Value} {Q : Unit → Shared → Prop} (I : Inv X pins σ H s) (hN : X.N.Nodup) (hi : X.N[i]? = some x) (hx : Loc X.env.scope x) (r : RelV v u)
    (h : ∀ s', Inv X pins (σ.set i (some v)) H s' → (∃ a, Heap.SameBut a s.heap s'.heap ∧ (a = X.env.locals ∨ X.env.cells.lookup x = some a)) → Q () s') (hf : X.fn x = true ∨ X.env.scope.names.lookup x = some .local := by first | exact .inl rfl | exact .inr rfl | assumption) : wpAny M A (storeName X.env x u) Q E s := by
  obtain ⟨m, hn, hl⟩ := id I.loc
  have hcls : (X.env.scope.kind == .class || (X.env.scope.kind == .module && X.env.locals != X.env.globals)) = false := by rw [I.ok.kind]; rfl
  have hiσ : i < σ.length := by rw [I.len]; exact (List.getElem?_eq_some_iff.mp hi).1
  have cne := I.cne
  have tracked : ∀ {a : Addr} {h' : Heap}, (∃ o, s.heap.get? a = some o ∧ H a = none) → Heap.SameBut a s.heap h' → HOk X.prog X.w H h' := fun {a h'} ha hs b ob e => by
    obtain ⟨_, _, hfree⟩ := ha
    refine (I.hok b ob e).stay (fun c w' hc q => (hs.2 c ?_).trans q) (fun _ q => q) fun _ _ q => q
    rintro rfl
    rcases hc with rfl | hc
    · rw [hfree] at e; cases e
    · rw [hfree] at hc; cases hc
  rcases hx with hk | hk
  · refine wpAny_storeName_local hk hn (fun h' hn' hs => ?_) hcls
    obtain ⟨oL, _, _, hoL, _⟩ := id hn
    refine h _ ⟨I.ok, I.os, I.bare, ⟨fun b o e n hb hx => ?_, fun b o e n hb hx => ?_, I.base.free, fun b o e hx => ?_, I.base.tups, I.base.frzs, I.base.tbls⟩, ⟨_, hn', fun j y v' e1 e2 e3 => ?_⟩, fun y c e => ?_, I.free, I.freeC, fun p hp => ?_, tracked ⟨oL, hoL, I.free⟩ hs, by simpa using I.len⟩ ⟨_, hs, .inl rfl⟩
    · exact (hs.2 b (Nat.ne_of_lt (Nat.lt_of_lt_of_le (Heap.lt_size e) I.ok.above))).trans (I.base.keep b o e n hb hx)
    · obtain ⟨sl, e1⟩ := I.base.slot b o e n hb hx
      exact ⟨sl, (hs.2 b (Nat.ne_of_lt (Nat.lt_of_lt_of_le (Heap.lt_size e) I.ok.above))).trans e1⟩
    · obtain ⟨o', e1⟩ := I.base.there b o e hx
      exact ⟨o', (hs.2 b (Nat.ne_of_lt (Nat.lt_of_lt_of_le (Heap.lt_size e) I.ok.above))).trans e1⟩
    · by_cases hj : j = i
      · subst hj
        rw [hi] at e1; cases e1
        rw [List.getElem?_set_self hiσ] at e2
        cases e2
        exact ⟨u, r, .inl ⟨hk, by simp⟩⟩
      · rw [List.getElem?_set_ne (Ne.symm hj)] at e2
        obtain ⟨u', r', q⟩ := hl j y v' e1 e2 e3
        refine ⟨u', r', ?_⟩
        rcases q with ⟨k, e⟩ | ⟨k, c, e, z⟩
        · refine .inl ⟨k, ?_⟩
          have : y ≠ x := fun e => hj (nodup_ix hN e1 (e ▸ hi))
          simp [this, e]
        · exact .inr ⟨k, c, e, z.sameBut hs (cne y c e)⟩
    · obtain ⟨w', z⟩ := I.cell y c e
      exact ⟨w', z.sameBut hs (cne y c e)⟩
    · obtain ⟨e, n, ne, nf, d⟩ := I.pin p hp
      exact ⟨(hs.2 p.1 ne).trans e, n, ne, nf, d⟩
  · have hfn : X.fn x = true := by
      rcases hf with z | z
      · exact z
      · rw [z] at hk; cases hk
    obtain ⟨c, hc⟩ := I.ok.has x (.inl hk)
    obtain ⟨w', z⟩ := I.cell x c hc
    refine wpAny_storeName_cell I.ok.kind hk hc z (fun h' hc' hs => ?_)
    obtain ⟨oc, hoc, hocd⟩ := id z
    refine h { s with heap := h' } ⟨I.ok, I.os, I.bare, ⟨fun b o e n hb hx => ?_, fun b o e n hb hx => ?_, I.base.free, fun b o e hx => ?_, I.base.tups, I.base.frzs, I.base.tbls⟩, ⟨m, hn.sameBut hs (Ne.symm (cne x c hc)), fun j y v' e1 e2 e3 => ?_⟩, fun y c' e => ?_, I.free, I.freeC, fun p hp => ?_, tracked ⟨oc, hoc, I.freeC x c hc⟩ hs, by simpa using I.len⟩ ⟨c, hs, .inr hc⟩
    · exact (hs.2 b (Nat.ne_of_lt (Nat.lt_of_lt_of_le (Heap.lt_size e) (I.ok.cab x c hfn hc)))).trans (I.base.keep b o e n hb hx)
    · obtain ⟨sl, e1⟩ := I.base.slot b o e n hb hx
      exact ⟨sl, (hs.2 b (Nat.ne_of_lt (Nat.lt_of_lt_of_le (Heap.lt_size e) (I.ok.cab x c hfn hc)))).trans e1⟩
    · obtain ⟨o', e1⟩ := I.base.there b o e hx
      exact ⟨o', (hs.2 b (Nat.ne_of_lt (Nat.lt_of_lt_of_le (Heap.lt_size e) (I.ok.cab x c hfn hc)))).trans e1⟩
    · by_cases hj : j = i
      · subst hj
        rw [hi] at e1; cases e1
        rw [List.getElem?_set_self hiσ] at e2
        cases e2
        exact ⟨u, r, .inr ⟨.inl hk, c, hc, hc'⟩⟩
      · rw [List.getElem?_set_ne (Ne.symm hj)] at e2
        obtain ⟨u', r', q⟩ := hl j y v' e1 e2 e3
        refine ⟨u', r', ?_⟩
        rcases q with q | ⟨k, c', e, z'⟩
        · exact .inl q
        · refine .inr ⟨k, c', e, z'.sameBut hs ?_⟩
          rintro rfl
          exact hj (nodup_ix hN e1 (I.ok.inj _ _ _ e hc ▸ hi))
    · by_cases hcc : c' = c
      · subst hcc; exact ⟨_, hc'⟩
      · obtain ⟨w2, z2⟩ := I.cell y c' e
        exact ⟨w2, z2.sameBut hs hcc⟩
    · obtain ⟨e, n, ne, nf, d⟩ := I.pin p hp
      refine ⟨(hs.2 p.1 ?_).trans e, n, ne, nf, d⟩
      intro q
      rw [q, hoc] at e
      have q' : oc = p.2 := Option.some.inj e
      exact d w' (by rw [← q']; exact hocd)
theorem store_ok {M : Model} {A : Around} {E : Value → Shared → Prop} {i : Nat} {x : Str} {v : V} {u : Value} {Q : Unit → Shared → Prop} (I : Inv X pins σ H s) (hN : X.N.Nodup) (hi : X.N[i]? = some x) (hx : Loc X.env.scope x) (r : RelV v u)
    (h : ∀ s', Inv X pins (σ.set i (some v)) H s' → Q () s') (hf : X.fn x = true ∨ X.env.scope.names.lookup x = some .local := by first | exact .inl rfl | exact .inr rfl | assumption) : wpAny M A (storeName X.env x u) Q E s :=
  store_ok2 I hN hi hx r (fun s' I' _ => h s' I') hf
/-- behind a call or a block, the state as it is -/
theorem Inv.call' {s' : Shared} {ch : List Addr} (I : Inv X pins σ H s) (ho : s'.os = s.os) (u : Un (frs X.stack) ch H H' s.heap s'.heap) (hok : HOk X.prog X.w H' s'.heap) (hg : AllBare s'.gens)
    (hch : ∀ b ∈ ch, (b ∈ X.ex ∨ X.s_0.heap.objs.size ≤ b) ∧ b ≠ X.env.locals ∧ (∀ x c, X.env.cells.lookup x = some c → c ≠ b) ∧ ∀ p ∈ X.pn ++ pins, p.1 ≠ b) : Inv X pins σ H' s' := by
  obtain ⟨h', g', d', t', o'⟩ := s'
  have e : o' = s.os := ho
  subst e
  exact I.call (g' := g') (t' := t') (d' := d') u hok hg hch
end

/-! ### the judgements -/
/-- an exception: its class, its own dict's address (where it has one), the abstract heap behind it -/
abbrev XK := Value → Option Addr → Hp → Prop
abbrev St := List (Option V)
abbrev VK := V → Hp → Prop
/-- an expression's reading; a test's; an argument list's -/
abbrev TE := St → Hp → VK → Prop
abbrev TT := St → Hp → (Bool → Hp → Prop) → Prop
abbrev TA := St → Hp → (List V → Hp → Prop) → Prop
/-- what is wanted behind a statement -/
structure Ends where
  nx : St → Hp → Prop
  rt : VK
  bk : St → Hp → Prop := fun _ _ => False
  ct : St → Hp → Prop := fun _ _ => False
abbrev TS := Ends → St → Hp → Prop

def EP (X : Cx) (pins : List (Addr × Obj)) (σ : St) (Q : VK) (u : Value) (s' : Shared) : Prop := ∃ v H', Inv X pins σ H' s' ∧ RelV v u ∧ Q v H'
def TP (X : Cx) (pins : List (Addr × Obj)) (σ : St) (Q : Bool → Hp → Prop) (b : Bool) (s' : Shared) : Prop := ∃ H', Inv X pins σ H' s' ∧ Q b H'
def AP (X : Cx) (pins : List (Addr × Obj)) (σ : St) (Q : List V → Hp → Prop) (us : List Value) (s' : Shared) : Prop := ∃ vs H', Inv X pins σ H' s' ∧ Vals vs us ∧ Q vs H'
def SP (X : Cx) (pins : List (Addr × Obj)) (D : Ends) (f : Flow) (s' : Shared) : Prop :=
  match f with
  | .next => ∃ σ' H', Inv X pins σ' H' s' ∧ D.nx σ' H'
  | .brk => ∃ σ' H', Inv X pins σ' H' s' ∧ D.bk σ' H'
  | .cont => ∃ σ' H', Inv X pins σ' H' s' ∧ D.ct σ' H'
  | .ret u => ∃ v σ' H', Inv X pins σ' H' s' ∧ RelV v u ∧ D.rt v H'

def PE (X : Cx) (e : Expr) (t : TE) : Prop :=
  ∀ (pins : List (Addr × Obj)) (s : Shared) (σ : St) (H : Hp) (Q : VK), Inv X pins σ H s → t σ H Q → wpAny (model X.prog X.w) X.A (eval e X.env) (EP X pins σ Q) X.xe s
def PT (X : Cx) (e : Expr) (t : TT) : Prop :=
  ∀ (pins : List (Addr × Obj)) (s : Shared) (σ : St) (H : Hp) (Q : Bool → Hp → Prop), Inv X pins σ H s → t σ H Q → wpAny (model X.prog X.w) X.A (isTrue e X.env (eval e X.env)) (TP X pins σ Q) X.xe s
/-- a test whatever its 'whole' is (and, or) -/
def PW (X : Cx) (e : Expr) (t : TT) : Prop :=
  ∀ (whole : Sem Value) (pins : List (Addr × Obj)) (s : Shared) (σ : St) (H : Hp) (Q : Bool → Hp → Prop), Inv X pins σ H s → t σ H Q → wpAny (model X.prog X.w) X.A (isTrue e X.env whole) (TP X pins σ Q) X.xe s
theorem PW.pt {X : Cx} {e : Expr} {t : TT} (h : PW X e t) : PT X e t := h _
/-- an argument list (no star), from the left -/
def PA (X : Cx) (es : List Expr) (t : TA) : Prop :=
  ∀ (pos : Pos) (pins : List (Addr × Obj)) (s : Shared) (σ : St) (H : Hp) (Q : List V → Hp → Prop), Inv X pins σ H s → t σ H Q → wpAny (model X.prog X.w) X.A (spliced (backTo pos (starEach es X.env))) (AP X pins σ Q) X.xe s
def PS (X : Cx) (st : Stmt) (t : TS) : Prop :=
  ∀ (pins : List (Addr × Obj)) (s : Shared) (σ : St) (H : Hp) (D : Ends), Inv X pins σ H s → t D σ H → wpAny (model X.prog X.w) X.A (exec st X.env) (SP X pins D) X.xe s
def PSs (X : Cx) (st : List Stmt) (t : TS) : Prop :=
  ∀ (pins : List (Addr × Obj)) (s : Shared) (σ : St) (H : Hp) (D : Ends), Inv X pins σ H s → t D σ H → wpAny (model X.prog X.w) X.A (execs st X.env) (SP X pins D) X.xe s
/-- weaken the end -/
theorem thn {α : Type} {t : Sem α} {Q Q' : α → Shared → Prop} {M : Model} {A : Around} {E : Value → Shared → Prop} {s : Shared} (h : wpAny M A t Q E s) (hQ : ∀ a s, Q a s → Q' a s) : wpAny M A t Q' E s := wpAny_mono h hQ fun _ _ x => x
end L2

namespace L2
open PySem PySem.Spec PyProof.Rows
section
variable {X : Cx}


/-! ### names and constants -/
def tVar (i : Nat) : TE := fun σ H Q => ∃ v, σ[i]? = some (some v) ∧ Q v H
def tC (v : V) : TE := fun _ H Q => Q v H
theorem pe_var {i : Nat} {x : Str} {pos : Pos} (hN : X.N[i]? = some x) (hv : Vis X.env.scope x) (hd : (x == ("__debug__" : Str)) = false := by decide) (hcd : (x == ("__classdict__" : Str)) = false := by decide) : PE X (.Name x pos) (tVar i) := by
  intro pins s σ H Q I h
  obtain ⟨v, e, h⟩ := h
  obtain ⟨m, hn, hl⟩ := I.loc
  obtain ⟨u, r, l⟩ := hl i x v hN e hv
  have fin : EP X pins σ Q u s := ⟨v, H, I, r, h⟩
  rcases l with ⟨hk, hm⟩ | ⟨hk, c, hc, hcell⟩
  · exact wpAny_Name (wpAny_loadName_local I.ok.kind hk hn hm fin) hd
  · rcases hk with hk | hk
    · exact wpAny_Name (wpAny_loadName_cell I.ok.kind hk hc hcell fin) hd
    · exact wpAny_Name (wpAny_loadName_free I.ok.kind hk hc hcell fin hcd) hd
theorem pe_int {i j pos} : PE X (.Constant (.int i) j pos) (tC (.int i)) := fun _ _ _ H _ I h => wpAny_Constant_int ⟨.int i, H, I.tok _, ⟨_, rfl⟩, h⟩
theorem pe_bl {b j pos} : PE X (.Constant (.bool b) j pos) (tC (.bl b)) := fun _ _ _ H _ I h => Constant_bool ⟨.bl b, H, I, rfl, h⟩
theorem pe_non {j pos} : PE X (.Constant .none j pos) (tC .non) := fun _ _ _ H _ I h => Constant_none ⟨.non, H, I, rfl, h⟩
theorem pe_str {x j pos} : PE X (.Constant (.str x) j pos) (tC (.str x)) := fun _ _ _ H _ I h => Calls.Constant_str ⟨.str x, H, I.tok _, ⟨_, rfl⟩, h⟩

/-- a global name of the def -/
def Gl (X : Cx) (x : Str) : Prop := X.env.kindOf x = some .globalImplicit
theorem ld_glob {E : Value → Shared → Prop} {pins : List (Addr × Obj)} {s : Shared} {σ : St} {H : Hp} {x : Str} {u : Value} {pos : Pos} {Q : Value → Shared → Prop} (I : Inv X pins σ H s) (hg : Gl X x) (hm : X.mg x = some u) (h : Q u s)
    (hd : (x == ("__debug__" : Str)) = false := by decide) : wpAny (model X.prog X.w) X.A (eval (.Name x pos) X.env) Q E s :=
  Calls.Name_function_global I.ok.kind hg (Calls.loadGlobal_global (by rw [I.ok.glob]; exact I.mod.glob.keeps I.bk) hm h) hd
theorem ld_blt {E : Value → Shared → Prop} {pins : List (Addr × Obj)} {s : Shared} {σ : St} {H : Hp} {x : Str} {u : Value} {pos : Pos} {Q : Value → Shared → Prop} (I : Inv X pins σ H s) (hg : Gl X x) (hm : X.mg x = none) (hv : bootBuiltins x = some u) (h : Q u s)
    (hn : x ≠ "__name__" := by decide) (hd : (x == ("__debug__" : Str)) = false := by decide) : wpAny (model X.prog X.w) X.A (eval (.Name x pos) X.env) Q E s := by
  obtain ⟨mb, h1, h2⟩ := I.mod.blt
  exact Calls.Name_function_global I.ok.kind hg (Calls.loadGlobal_builtin (by rw [I.ok.glob]; exact I.mod.glob.keeps I.bk) hm (by rw [I.ok.blt]; exact h1.keeps I.bk) ((h2 x hn).trans hv) h) hd
/-- a module's constant, a class, a function, as a value -/
theorem pe_glob {x : Str} {v : V} {u : Value} {pos : Pos} (hg : Gl X x) (hm : X.mg x = some u) (r : RelV v u) (hd : (x == ("__debug__" : Str)) = false := by decide) : PE X (.Name x pos) (tC v) :=
  fun _ _ _ H _ I h => ld_glob I hg hm ⟨v, H, I, r, h⟩ hd
theorem pe_bltn {x : Str} {v : V} {u : Value} {pos : Pos} (hg : Gl X x) (hm : X.mg x = none) (hv : bootBuiltins x = some u) (r : RelV v u) (hn : x ≠ "__name__" := by decide) (hd : (x == ("__debug__" : Str)) = false := by decide) : PE X (.Name x pos) (tC v) :=
  fun _ _ _ H _ I h => ld_blt I hg hm hv ⟨v, H, I, r, h⟩ hn hd

/-! ### arithmetic -/
/-- two ints -/
def t2I (ta tb : TE) (k : Int → Int → Hp → Prop) : St → Hp → Prop := fun σ H => ta σ H fun x H1 => tb σ H1 fun y H2 => ∃ i j, x = .int i ∧ y = .int j ∧ k i j H2
def tAdd (ta tb : TE) : TE := fun σ H Q => t2I ta tb (fun i j H2 => Q (.int (i + j)) H2) σ H
def tSub (ta tb : TE) : TE := fun σ H Q => t2I ta tb (fun i j H2 => Q (.int (i - j)) H2) σ H
/-- the left factor below 2^64 -/
def tMul (ta tb : TE) : TE := fun σ H Q => t2I ta tb (fun i j H2 => (-(2 ^ 64) < i ∧ i < 2 ^ 64) ∧ Q (.int (i * j)) H2) σ H
variable {a b : Expr} {ta tb : TE} {pos : Pos}

/-! ### comparisons -/
def PC (X : Cx) (op : CmpOp) (a b : Expr) (t : TE) : Prop :=
  ∀ (pins : List (Addr × Obj)) (s : Shared) (σ : St) (H : Hp) (Q : VK), Inv X pins σ H s → t σ H Q →
    wpAny (model X.prog X.w) X.A (eval a X.env) (fun v s₁ => wpAny (model X.prog X.w) X.A (eval b X.env) (fun u s₂ => wpAny (model X.prog X.w) X.A (compareOp op v u) (EP X pins σ Q) X.xe s₂) X.xe s₁) X.xe s
def tCmp (p : Int → Int → Bool) (ta tb : TE) : TE := fun σ H Q => t2I ta tb (fun i j H2 => Q (.bl (p i j)) H2) σ H
abbrev tLt : TE → TE → TE := tCmp fun i j => decide (i < j)
abbrev tLe : TE → TE → TE := tCmp fun i j => decide (i ≤ j)
abbrev tGt : TE → TE → TE := tCmp fun i j => decide (j < i)
abbrev tGe : TE → TE → TE := tCmp fun i j => decide (j ≤ i)
abbrev tEqI : TE → TE → TE := tCmp fun i j => decide (i = j)
abbrev tNeI : TE → TE → TE := tCmp fun i j => !decide (i = j)
/-- is None -/
def tIsN (ta : TE) : TE := fun σ H Q => ta σ H fun x H1 => Q (.bl (decide (x = .non))) H1
def tNotN (ta : TE) : TE := fun σ H Q => ta σ H fun x H1 => Q (.bl (!decide (x = .non))) H1
/-- a comparison as a value, as a test -/
def tB (t : TE) : TT := fun σ H Q => t σ H fun x H1 => ∃ c, x = .bl c ∧ Q c H1
/-- an expression whose value is a bool, as a test -/
theorem pt_val {e : Expr} {t : TE} (h : PE X e t) (he : ∀ whole, isTrue e X.env whole = (do let v ← whole; standAt e.pos; holding [v] (truthy v)) := by intro _; rfl) : PT X e (tB t) := by
  intro pins s σ H Q I hw
  refine isTrue_plain (thn (h pins s σ H _ I hw) fun v s1 ⟨x, H1, I1, r1, q1⟩ => ?_) (he _)
  obtain ⟨d, rfl, q⟩ := q1
  cases r1
  exact wpAny_truthy_bool ⟨H1, I1, q⟩

/-! ### and, or, not -/
variable {tA tB' : TT} {rest : List Expr}
def tAnd (t u : TT) : TT := fun σ H Q => t σ H fun c H1 => if c = true then u σ H1 Q else Q false H1
def tOr (t u : TT) : TT := fun σ H Q => t σ H fun c H1 => if c = true then Q true H1 else u σ H1 Q
def tNot (t : TT) : TT := fun σ H Q => t σ H fun c H1 => Q (!c) H1
theorem pw_and1 (ha : PT X a tA) : PW X (.BoolOp .And [a] pos) tA := by
  intro wh pins s σ H Q I h
  refine isTrue_and (thn (ha pins s σ H Q I h) fun c s1 e => ?_)
  cases c with
  | true => exact isTrue_and_nil e
  | false => exact e
theorem pw_or1 (ha : PT X a tA) : PW X (.BoolOp .Or [a] pos) tA := by
  intro wh pins s σ H Q I h
  refine isTrue_or (thn (ha pins s σ H Q I h) fun c s1 e => ?_)
  cases c with
  | false => exact isTrue_or_nil e
  | true => exact e
theorem pw_and (ha : PT X a tA) (hb : PW X (.BoolOp .And (b :: rest) pos) tB') : PW X (.BoolOp .And (a :: b :: rest) pos) (tAnd tA tB') := by
  intro wh pins s σ H Q I h
  refine isTrue_and (thn (ha pins s σ H _ I h) fun c s1 ⟨H1, I1, q1⟩ => ?_)
  cases c with
  | true => exact hb wh pins s1 σ H1 Q I1 q1
  | false => exact ⟨H1, I1, q1⟩
theorem pw_or (ha : PT X a tA) (hb : PW X (.BoolOp .Or (b :: rest) pos) tB') : PW X (.BoolOp .Or (a :: b :: rest) pos) (tOr tA tB') := by
  intro wh pins s σ H Q I h
  refine isTrue_or (thn (ha pins s σ H _ I h) fun c s1 ⟨H1, I1, q1⟩ => ?_)
  cases c with
  | true => exact ⟨H1, I1, q1⟩
  | false => exact hb wh pins s1 σ H1 Q I1 q1
theorem pt_not (ha : PT X a tA) : PT X (.UnaryOp .Not a pos) (tNot tA) := by
  intro pins s σ H Q I h
  exact isTrue_not (ha pins s σ H (fun c H1 => Q (!c) H1) I h)
/-- .. as values (bools) -/
def tAndV (ta tb : TE) : TE := fun σ H Q => ta σ H fun x H1 => ∃ c, x = .bl c ∧ if c = true then tb σ H1 Q else Q (.bl false) H1
def tOrV (ta tb : TE) : TE := fun σ H Q => ta σ H fun x H1 => ∃ c, x = .bl c ∧ if c = true then Q (.bl true) H1 else tb σ H1 Q
def tNotV (ta : TE) : TE := fun σ H Q => ta σ H fun x H1 => ∃ c, x = .bl c ∧ Q (.bl (!c)) H1
theorem pe_one {op} {t : TE} (h : PE X a t) : PE X (.BoolOp op [a] pos) t := fun pins s σ H Q I hw => BoolOp_one (h pins s σ H Q I hw)
theorem pe_and (ha : PE X a ta) (hb : PE X (.BoolOp .And (b :: rest) pos) tb) : PE X (.BoolOp .And (a :: b :: rest) pos) (tAndV ta tb) := by
  intro pins s σ H Q I h
  refine BoolOp_and (thn (ha pins s σ H _ I h) fun v s1 ⟨x, H1, I1, r1, q1⟩ => ?_)
  obtain ⟨c, rfl, q1⟩ := q1
  cases r1
  refine wpAny_truthy_bool ?_
  cases c with
  | true => exact hb pins s1 σ H1 Q I1 q1
  | false => exact ⟨.bl false, H1, I1, rfl, q1⟩
theorem pe_or (ha : PE X a ta) (hb : PE X (.BoolOp .Or (b :: rest) pos) tb) : PE X (.BoolOp .Or (a :: b :: rest) pos) (tOrV ta tb) := by
  intro pins s σ H Q I h
  refine BoolOp_or (thn (ha pins s σ H _ I h) fun v s1 ⟨x, H1, I1, r1, q1⟩ => ?_)
  obtain ⟨c, rfl, q1⟩ := q1
  cases r1
  refine wpAny_truthy_bool ?_
  cases c with
  | false => exact hb pins s1 σ H1 Q I1 q1
  | true => exact ⟨.bl true, H1, I1, rfl, q1⟩
theorem pe_not (ha : PE X a ta) : PE X (.UnaryOp .Not a pos) (tNotV ta) := by
  intro pins s σ H Q I h
  refine UnaryOp_ (thn (ha pins s σ H _ I h) fun v s1 ⟨x, H1, I1, r1, q1⟩ => ?_)
  obtain ⟨c, rfl, q1⟩ := q1
  cases r1
  exact not_of (wpAny_truthy_bool ⟨.bl (!c), H1, I1, rfl, q1⟩)
/-- a if t else b -/
def tIf (t : TT) (ta tb : TE) : TE := fun σ H Q => t σ H fun c H1 => if c = true then ta σ H1 Q else tb σ H1 Q
theorem pe_ifExp {c : Expr} (hc : PT X c tA) (ha : PE X a ta) (hb : PE X b tb) : PE X (.IfExp c a b pos) (tIf tA ta tb) := by
  intro pins s σ H Q I h
  refine wpAny_IfExp (thn (hc pins s σ H _ I h) fun d s1 ⟨H1, I1, q1⟩ => ?_)
  cases d with
  | true => exact ha pins s1 σ H1 Q I1 q1
  | false => exact hb pins s1 σ H1 Q I1 q1
end
end L2

namespace L2
open PySem PySem.Spec PyProof.Rows

/-! ### a list, a tuple that is read: tracked, frozen, or an object of the module -/
def SqL (K : PySem.W.Frag) (H : Hp) (a : Addr) (xs : List V) : Prop :=
  Rd H a (.lst xs) ∨
    ∃ (o : Obj) (its : Array Value) (n : Nat), K.lookup a = some o ∧ o.cls = .type "list" ∧ o.dict = none ∧ o.data = .seq its n ∧ its.size ≤ sizeLine ∧ Vals xs its.toList
def SqT (K : PySem.W.Frag) (H : Hp) (a : Addr) (xs : List V) : Prop :=
  Rd H a (.tup xs) ∨
    ∃ (o : Obj) (its : Array Value) (n : Nat), K.lookup a = some o ∧ o.cls = .type "tuple" ∧ o.data = .seq its n ∧ its.size ≤ sizeLine ∧ Vals xs its.toList
def absV : Value → Option V
  | .none => some .non
  | .bool b => some (.bl b)
  | .int i _ => some (.int i)
  | .str x _ => some (.str x)
  | .bytes b _ => some (.byt b)
  | .float b _ => some (.flt b)
  | .ref a => some (.ref a)
  | .type n => some (.ty n)
  | _ => none
theorem RelV.abs {x : V} {u : Value} (r : RelV x u) : absV u = some x := by
  cases x with
  | non => cases r; rfl
  | bl _ => cases r; rfl
  | int _ => obtain ⟨t, rfl⟩ := r; rfl
  | str _ => obtain ⟨t, rfl⟩ := r; rfl
  | byt _ => obtain ⟨t, rfl⟩ := r; rfl
  | flt _ => obtain ⟨t, rfl⟩ := r; rfl
  | ref _ => cases r; rfl
  | ty _ => cases r; rfl
theorem RelV.inj {x y : V} {u : Value} (r : RelV x u) (q : RelV y u) : x = y := Option.some.inj (r.abs.symm.trans q.abs)
theorem Vals.inj : ∀ {xs ys : List V} {us : List Value}, Vals xs us → Vals ys us → xs = ys
  | _, _, _, .nil, .nil => rfl
  | _, _, _, .cons r t, .cons r' t' => by rw [r.inj r', Vals.inj t t']
section
variable {X : Cx} {pins : List (Addr × Obj)} {σ : St} {H : Hp} {s : Shared} {a : Addr} {xs ys : List V}
theorem SqL.of {K : PySem.W.Frag} (h : H a = some (.lst xs)) : SqL K H a xs := .inl (.inl h)
theorem SqT.of {K : PySem.W.Frag} (h : H a = some (.tup xs)) : SqT K H a xs := .inl (.inl h)
theorem Inv.list (I : Inv X pins σ H s) (h : SqL X.K H a xs) : ∃ its : List Value, Vals xs its ∧ PlainL s.heap a its.toArray ∧ xs.length ≤ sizeLine := by
  rcases h with h | ⟨o, its, n, hk, hc, hd, hs, hz, r⟩
  · obtain ⟨z, its, n, r, e⟩ := h.ok I.hok
    exact ⟨its, r, ⟨_, n, e, rfl, rfl, rfl⟩, z⟩
  · refine ⟨its.toList, r, ⟨o, n, I.kIn a o hk, hc, hd, by simpa using hs⟩, ?_⟩
    have e := r.length
    simp only [Array.length_toList] at e
    omega
theorem Inv.tuple (I : Inv X pins σ H s) (h : SqT X.K H a xs) : ∃ its : List Value, Vals xs its ∧ IsTup s.heap a its.toArray ∧ xs.length ≤ sizeLine := by
  rcases h with h | ⟨o, its, n, hk, hc, hs, hz, r⟩
  · obtain ⟨z, its, r, p⟩ := h.ok I.hok
    exact ⟨its, r, p, z⟩
  · refine ⟨its.toList, r, ⟨o, I.kIn a o hk, hc, n, by simpa using hs⟩, ?_⟩
    have e := r.length
    simp only [Array.length_toList] at e
    omega
theorem Inv.list_inj (I : Inv X pins σ H s) (h : SqL X.K H a xs) (h' : SqL X.K H a ys) : xs = ys := by
  obtain ⟨its, r, ⟨o, n, e, _, _, d⟩, _⟩ := I.list h
  obtain ⟨its', r', ⟨o', n', e', _, _, d'⟩, _⟩ := I.list h'
  rw [e] at e'; cases e'
  rw [d] at d'
  injection d' with d1 _
  have : its = its' := by simpa using congrArg Array.toList d1
  subst this
  exact r.inj r'
theorem Inv.tuple_inj (I : Inv X pins σ H s) (h : SqT X.K H a xs) (h' : SqT X.K H a ys) : xs = ys := by
  obtain ⟨its, r, ⟨o, e, _, n, d⟩, _⟩ := I.tuple h
  obtain ⟨its', r', ⟨o', e', _, n', d'⟩, _⟩ := I.tuple h'
  rw [e] at e'; cases e'
  rw [d] at d'
  injection d' with d1 _
  have : its = its' := by simpa using congrArg Array.toList d1
  subst this
  exact r.inj r'
end

/-! ### another wish about exceptions -/
abbrev Cx.wish (X : Cx) (E : Value → Shared → Prop) : Cx := { X with xe := E }
/-- no exception leaves -/
abbrev Cx.nox (X : Cx) : Cx := X.wish fun _ _ => False
theorem Cx.Ok.wish {X : Cx} (ok : X.Ok) (E : Value → Shared → Prop) : (X.wish E).Ok :=
  ⟨ok.mod, ok.kind, ok.glob, ok.blt, ok.above, ok.inj, ok.has, ok.cab, ok.hd, ok.frames, ok.stk, ok.exf, ok.bs, ok.bsz, ok.noex, ok.exfs, ok.funs, ok.frf⟩
theorem Cx.Ok.unwish {X : Cx} {E : Value → Shared → Prop} (ok : (X.wish E).Ok) : X.Ok :=
  ⟨ok.mod, ok.kind, ok.glob, ok.blt, ok.above, ok.inj, ok.has, ok.cab, ok.hd, ok.frames, ok.stk, ok.exf, ok.bs, ok.bsz, ok.noex, ok.exfs, ok.funs, ok.frf⟩
section
variable {X : Cx} {pins : List (Addr × Obj)} {σ : St} {H : Hp} {s : Shared} {E : Value → Shared → Prop}
theorem Inv.wish (I : Inv X pins σ H s) (E : Value → Shared → Prop) : Inv (X.wish E) pins σ H s := ⟨I.ok.wish E, I.os, I.bare, I.base, I.loc, I.cell, I.free, I.freeC, I.pin, I.hok, I.len⟩
theorem Inv.unwish (I : Inv (X.wish E) pins σ H s) : Inv X pins σ H s := ⟨I.ok.unwish, I.os, I.bare, I.base, I.loc, I.cell, I.free, I.freeC, I.pin, I.hok, I.len⟩
theorem SP.unwish {D : Ends} {f : Flow} {s' : Shared} (h : SP (X.wish E) pins D f s') : SP X pins D f s' := by
  cases f with
  | next => obtain ⟨σ', H', I, q⟩ := h; exact ⟨σ', H', I.unwish, q⟩
  | brk => obtain ⟨σ', H', I, q⟩ := h; exact ⟨σ', H', I.unwish, q⟩
  | cont => obtain ⟨σ', H', I, q⟩ := h; exact ⟨σ', H', I.unwish, q⟩
  | ret u => obtain ⟨v, σ', H', I, r, q⟩ := h; exact ⟨v, σ', H', I.unwish, r, q⟩
theorem PSs.nox {st : List Stmt} {t : TS} (h : PSs X.nox st t) : PSs X st t := fun pins s σ H D I hw =>
  wpAny_mono (h pins s σ H D (I.wish _) hw) (fun _ _ q => q.unwish) fun _ _ z => False.elim z
end

/-! ### blocks and small statements -/
section
variable {X : Cx} {st : Stmt} {rest : List Stmt} {t u : TS} {e : Expr} {te : TE} {pos : Pos}
def tNext : TS := fun D σ H => D.nx σ H
def tSeq (t u : TS) : TS := fun D σ H => t { D with nx := u D } σ H
theorem pss_nil : PSs X [] tNext := fun _ _ σ H _ I h => wpAny_execs_nil ⟨σ, H, I, h⟩
theorem pss_cons (h1 : PS X st t) (h2 : PSs X rest u) : PSs X (st :: rest) (tSeq t u) := by
  intro pins s σ H D I h
  refine wpAny_execs_cons (thn (h1 pins s σ H { D with nx := u D } I h) fun f s1 q => ?_)
  cases f with
  | next =>
    obtain ⟨σ', H', I', q⟩ := q
    exact h2 pins s1 σ' H' D I' q
  | ret v => exact q
  | brk => exact q
  | cont => exact q
theorem pss_one (h1 : PS X st t) : PSs X [st] t := by
  intro pins s σ H D I h
  refine wpAny_execs_cons (thn (h1 pins s σ H D I h) fun f s1 q => ?_)
  cases f with
  | next => exact wpAny_execs_nil q
  | ret v => exact q
  | brk => exact q
  | cont => exact q
def tBreak : TS := fun D σ H => D.bk σ H
def tCont : TS := fun D σ H => D.ct σ H
/-- in a def's body nothing is shown -/
theorem Inv.quiet {pins : List (Addr × Obj)} {σ : St} {H : Hp} {s : Shared} (I : Inv X pins σ H s) : interactive X.env = false := by simp [interactive, I.ok.kind]
/-- an expression whose value is dropped -/
def tDrop (te : TE) : TS := fun D σ H => te σ H fun _ H1 => D.nx σ H1
theorem ps_expr (he : PE X e te) (hs : swapsWith e none pos.line X.env = pure false := by rfl) : PS X (.Expr e pos) (tDrop te) := by
  intro pins s σ H D I h
  exact wpAny_Expr_any (thn (he pins s σ H _ I h) fun v s1 ⟨x, H1, I1, r1, q1⟩ => ⟨σ, H1, I1, q1⟩) I.quiet hs
def tRet (te : TE) : TS := fun D σ H => te σ H D.rt
theorem ps_ret (he : PE X e te) : PS X (.Return (some e) pos) (tRet te) := by
  intro pins s σ H D I h
  exact wpAny_Return_some (thn (he pins s σ H _ I h) fun v s1 ⟨x, H1, I1, r1, q1⟩ => ⟨x, σ, H1, I1, r1, q1⟩)
def tRetN : TS := fun D _ H => D.rt .non H
def tIfS (c : TT) (t u : TS) : TS := fun D σ H => c σ H fun b H1 => if b = true then t D σ H1 else u D σ H1
theorem ps_if {c : Expr} {a b : List Stmt} {tc : TT} (hc : PT X c tc) (ha : PSs X a t) (hb : PSs X b u) : PS X (.If c a b pos) (tIfS tc t u) := by
  intro pins s σ H D I h
  refine wpAny_If (thn (hc pins s σ H _ I h) fun d s1 ⟨H1, I1, q1⟩ => ?_)
  cases d with
  | true => exact ha pins s1 σ H1 D I1 q1
  | false => exact hb pins s1 σ H1 D I1 q1
/-- code that the proof never comes to -/
def tNever : TS := fun _ _ _ => False
end

/-! ### targets -/
abbrev TG := V → St → Hp → (St → Hp → Prop) → Prop
abbrev TGs := List V → St → Hp → (St → Hp → Prop) → Prop
def PG (X : Cx) (target : Expr) (t : TG) : Prop :=
  ∀ (pins : List (Addr × Obj)) (s : Shared) (σ : St) (H : Hp) (v : V) (u : Value) (Q : St → Hp → Prop), Inv X pins σ H s → RelV v u → t v σ H Q →
    wpAny (model X.prog X.w) X.A (assign target X.env u) (fun _ s' => ∃ σ' H', Inv X pins σ' H' s' ∧ Q σ' H') X.xe s
/-- several targets, one after another -/
def PGs (X : Cx) (ts : List Expr) (t : TGs) : Prop :=
  ∀ (pins : List (Addr × Obj)) (s : Shared) (σ : St) (H : Hp) (vs : List V) (us : List Value) (Q : St → Hp → Prop), Inv X pins σ H s → Vals vs us → t vs σ H Q →
    wpAny (model X.prog X.w) X.A (assignInOrder ((assignEach ts X.env).map (·.2)) us) (fun _ s' => ∃ σ' H', Inv X pins σ' H' s' ∧ Q σ' H') X.xe s
/-- o[i] = v, by values -/
abbrev TSet := V → V → V → Hp → (Hp → Prop) → Prop
def PSet (X : Cx) (t : TSet) : Prop :=
  ∀ (pins : List (Addr × Obj)) (s : Shared) (σ : St) (H : Hp) (o i v : V) (ov iv u : Value) (Q : Hp → Prop), Inv X pins σ H s → RelV o ov → RelV i iv → RelV v u → t o i v H Q →
    wpAny (model X.prog X.w) X.A (setItem ov iv u) (fun _ s' => ∃ H', Inv X pins σ H' s' ∧ Q H') X.xe s
/-- a op= b, by values -/
abbrev TIp := V → V → Hp → VK → Prop
def PIp (X : Cx) (op : Operator) (t : TIp) : Prop :=
  ∀ (pins : List (Addr × Obj)) (s : Shared) (σ : St) (H : Hp) (x y : V) (v u : Value) (Q : VK), Inv X pins σ H s → RelV x v → RelV y u → t x y H Q →
    wpAny (model X.prog X.w) X.A (inplaceOp op v u) (EP X pins σ Q) X.xe s
section
variable {X : Cx} {pos : Pos}
def gName (i : Nat) : TG := fun v σ H Q => Q (σ.set i (some v)) H
theorem pg_name {i : Nat} {x : Str} (hN : X.N.Nodup) (hi : X.N[i]? = some x) (hx : Loc X.env.scope x) (hf : X.fn x = true ∨ X.env.scope.names.lookup x = some .local := by first | exact .inl rfl | exact .inr rfl | assumption) : PG X (.Name x pos) (gName i) := by
  intro pins s σ H v u Q I r h
  exact wpAny_assign_Name (store_ok I hN hi hx r (fun s' I' => ⟨_, H, I', h⟩) hf)
def gNil : TGs := fun vs σ H Q => vs = [] ∧ Q σ H
def gCons (t : TG) (u : TGs) : TGs := fun vs σ H Q => ∃ v r, vs = v :: r ∧ t v σ H fun σ' H' => u r σ' H' Q
theorem pgs_nil : PGs X [] gNil := by
  intro pins s σ H vs us Q I r h
  obtain ⟨e, h⟩ := h
  subst e
  cases r
  exact assignInOrder_nil ⟨σ, H, I, h⟩
theorem pgs_cons {e : Expr} {es : List Expr} {t : TG} {u : TGs} (h1 : PG X e t) (h2 : PGs X es u)
    (hs : (assignEach (e :: es) X.env).map (·.2) = assign e X.env :: (assignEach es X.env).map (·.2) := by rfl) : PGs X (e :: es) (gCons t u) := by
  intro pins s σ H vs us Q I r h
  obtain ⟨v, vr, e1, h⟩ := h
  subst e1
  cases r with
  | cons r rr =>
    rw [hs]
    refine assignInOrder_cons (thn (h1 pins s σ H _ _ _ I r h) fun _ s1 ⟨σ1, H1, I1, q1⟩ => ?_)
    exact h2 pins s1 σ1 H1 _ _ Q I1 rr q1
/-- (a, b, ..) = a tuple of that length -/
def gTup (K : PySem.W.Frag) (n : Nat) (t : TGs) : TG := fun v σ H Q => ∃ a xs, v = .ref a ∧ SqT K H a xs ∧ xs.length = n ∧ t xs σ H Q
theorem pg_tup {es : List Expr} {k : Nat} {t : TGs} {n : Nat} (hc : X.calm = true) (h : PGs X es t)
    (hn : (assignEach es X.env).length = n := by rfl) (hst : (assignEach es X.env).findIdx? (·.1) = none := by rfl) : PG X (.Tuple es k pos) (gTup X.K n t) := by
  intro pins s σ H v u Q I r hw
  obtain ⟨a, xs, e1, hq, hl, hw⟩ := hw
  subst e1
  cases r
  obtain ⟨its, rv, ht, hz⟩ := I.tuple hq
  refine assign_Tuple_tuple (I.ok.hd hc) ht (by simp [hn, ← hl, rv.length]) hst fun h' hx => ?_
  have I1 : Inv X pins σ H { s with heap := h' } := I.kept (t' := s.toks) fun b o e => hx b o (Nat.ne_of_lt (Heap.lt_size e)) e
  exact h pins _ σ H xs _ Q I1 (by simpa using rv) hw
/-- o[i] = .. -/
def gSub (to ti : TE) (t : TSet) : TG := fun v σ H Q => to σ H fun o H1 => ti σ H1 fun i H2 => t o i v H2 fun H3 => Q σ H3
theorem pg_sub {o i : Expr} {to ti : TE} {t : TSet} (ho : PE X o to) (hi : PE X i ti) (hs : PSet X t)
    (ha : ∀ v, assign (.Subscript o i pos) X.env v = (do
      let ov ← holding [v] (eval o X.env)
      let iv ← holding [v, ov] (eval i X.env)
      standAt pos
      holding [v, ov, iv] (setItem ov iv v)
      release [v, ov, iv] []) := by intro _; rfl) : PG X (.Subscript o i pos) (gSub to ti t) := by
  intro pins s σ H v u Q I r h
  rw [ha]
  refine wpAny_bind (wpAny_holding (thn (ho pins s σ H _ I h) fun ov s1 ⟨x, H1, I1, r1, q1⟩ => ?_))
  refine wpAny_bind (wpAny_holding (thn (hi pins s1 σ H1 _ I1 q1) fun iv s2 ⟨y, H2, I2, r2, q2⟩ => ?_))
  refine wpAny_bind (wpAny_standAt (wpAny_bind (wpAny_holding (thn (hs pins s2 σ H2 x y v ov iv u _ I2 r1 r2 r q2) fun _ s3 ⟨H3, I3, q3⟩ => ?_))))
  exact wpAny_release ⟨σ, H3, I3, q3⟩
/-- target = value -/
def tAsg (te : TE) (g : TG) : TS := fun D σ H => te σ H fun x H1 => g x σ H1 D.nx
theorem ps_asg {tg e : Expr} {te : TE} {g : TG} (he : PE X e te) (hg : PG X tg g) (hs : swapsWithSole [tg] e pos.line X.env = pure false := by rfl) (hw : swappedStores [tg] e X.env = pure none := by rfl)
    (h1 : (assignEach [tg] X.env).map (·.2) = [assign tg X.env] := by rfl) : PS X (.Assign [tg] e pos) (tAsg te g) := by
  intro pins s σ H D I h
  refine wpAny_Assign_stores (thn (he pins s σ H _ I h) fun v s1 ⟨x, H1, I1, r1, q1⟩ => ?_) hs hw
  rw [h1]
  exact thn (hg pins s1 σ H1 x v _ I1 r1 q1) fun _ s2 q => q
/-- name = value -/
theorem ps_set {i : Nat} {x : Str} {e : Expr} {te : TE} {pos' : Pos} (hN : X.N.Nodup) (hi : X.N[i]? = some x) (hx : Loc X.env.scope x) (he : PE X e te) (hs : swapsWith e (some (.Name x pos')) pos.line X.env = pure false := by rfl) (hf : X.fn x = true ∨ X.env.scope.names.lookup x = some .local := by first | exact .inl rfl | exact .inr rfl | assumption) :
    PS X (.Assign [.Name x pos'] e pos) (tAsg te (gName i)) := by
  intro pins s σ H D I h
  refine wpAny_Assign_Name (thn (he pins s σ H _ I h) fun v s1 ⟨y, H1, I1, r1, q1⟩ => ?_) hs
  exact store_ok I1 hN hi hx r1 (fun s2 I2 => ⟨_, H1, I2, q1⟩) hf
/-- a, b = x, y with plain local names: stored from the right; the pair itself is not tracked (the opening rows as in PyProof/Rows/TupAssign.lean:23) -/
def tPar (i j : Nat) (ta : TA) : TS := fun D σ H => ta σ H fun vs H1 => ∃ v w, vs = [v, w] ∧ D.nx ((σ.set i (some v)).set j (some w)) H1
theorem ps_par {i j : Nat} {x y : Str} {a b : Expr} {ta : TA} {px py pt : Pos} {kt k2 pt2} (hc : X.calm = true) (hN : X.N.Nodup) (hi : X.N[i]? = some x) (hj : X.N[j]? = some y) (hij : i ≠ j)
    (hx : X.env.scope.names.lookup x = some .local) (hy : X.env.scope.names.lookup y = some .local) (ha : PA X [a, b] ta)
    (hw : swappedStores [.Tuple [.Name x px, .Name y py] kt pt] (.Tuple [a, b] k2 pt2) X.env = pure (some [x, y]))
    (hs : swapsWithSole [.Tuple [.Name x px, .Name y py] kt pt] (.Tuple [a, b] k2 pt2) pos.line X.env = pure false := by rfl) :
    PS X (.Assign [.Tuple [.Name x px, .Name y py] kt pt] (.Tuple [a, b] k2 pt2) pos) (tPar i j ta) := by
  intro pins s σ H D I h
  rw [exec_Assign_arm]
  refine wpAny_bind (wpAny_standAt ?_)
  rw [hs]
  refine wpAny_bind (wpAny_pure ?_)
  rw [if_neg (by decide)]
  refine wpAny_bind (Tuple_ (thn (ha _ pins s σ H _ I h) fun us s1 ⟨vs, H1, I1, r1, q1⟩ => ?_))
  obtain ⟨v, w, e1, q1⟩ := q1
  subst e1
  obtain ⟨u1, u2, rfl, rv, rw'⟩ : ∃ u1 u2, us = [u1, u2] ∧ RelV v u1 ∧ RelV w u2 := by
    cases r1 with
    | cons p q =>
      cases q with
      | cons p' q' =>
        cases q'
        exact ⟨_, _, rfl, p, p'⟩
  refine wpAny_newObj_type ?_ (by show 2 ≤ sizeLine; decide)
  have I2 : Inv X pins σ H1 { s1 with heap := s1.heap.push { cls := .type "tuple", data := .seq [u1, u2].toArray } } := I1.kept (t' := s1.toks) fun b o e => Heap.get?_push_of_some _ e
  rw [hw]
  refine wpAny_bind (wpAny_pure ?_)
  show wpAny (model X.prog X.w) X.A (do rule "assign.swapped-stores"; let items ← unpackItems (.ref s1.heap.objs.size) 2 none; assignInOrder [fun v => bindName X.env y v, fun v => bindName X.env x v] items.reverse; pure Flow.next) _ _ _
  refine wpAny_bind (wpAny_rule (wpAny_bind (unpackItems_tuple (items := #[u1, u2]) (I.ok.hd hc) (IsTup.new s1.heap _) fun h' hx' => ?_)))
  have I3 := I2.kept (h' := h') (t' := s1.toks) fun b o e => hx' b o (Nat.ne_of_lt (Heap.lt_size e)) e
  show wpAny _ _ (assignInOrder [fun v => bindName X.env y v, fun v => bindName X.env x v] [u2, u1] >>= fun _ => pure Flow.next) _ _ _
  refine wpAny_bind (assignInOrder_cons (wpAny_bindName (store_ok I3 hN hj (.inl hy) rw' (fun s2 I4 => ?_) (.inr hy))))
  refine assignInOrder_cons (wpAny_bindName (store_ok I4 hN hi (.inl hx) rv (fun s3 I5 => assignInOrder_nil (wpAny_pure ?_)) (.inr hx)))
  rw [List.set_comm _ _ (Ne.symm hij)] at I5
  exact ⟨_, H1, I5, q1⟩
/-- name op= e -/
def tAug (i : Nat) (te : TE) (ti : TIp) : TS := fun D σ H => ∃ x, σ[i]? = some (some x) ∧ te σ H fun y H1 => ti x y H1 fun z H2 => D.nx (σ.set i (some z)) H2
/-- o[i] op= e -/
def tAugS (to ti te : TE) (tget : V → V → Hp → VK → Prop) (tip : TIp) (tset : TSet) : TS := fun D σ H => to σ H fun o H1 => ti σ H1 fun i H2 => tget o i H2 fun x H3 => te σ H3 fun y H4 => tip x y H4 fun z H5 => tset o i z H5 fun H6 => D.nx σ H6
/-- o[i], by values -/
def PGet (X : Cx) (t : V → V → Hp → VK → Prop) : Prop :=
  ∀ (pins : List (Addr × Obj)) (s : Shared) (σ : St) (H : Hp) (o i : V) (ov iv : Value) (Q : VK), Inv X pins σ H s → RelV o ov → RelV i iv → t o i H Q →
    wpAny (model X.prog X.w) X.A (getItem ov iv) (EP X pins σ Q) X.xe s
/-- ints -/
def ipI (f : Int → Int → Int) : TIp := fun x y H Q => ∃ i j, x = .int i ∧ y = .int j ∧ Q (.int (f i j)) H
end

/-! ### while -/
section
variable {X : Cx} {pos : Pos}
/-- the invariant W with its measure -/
def tWhile (c : TT) (tb : TS) : TS := fun D σ H => ∃ W : Nat → St → Hp → Prop, (∃ m, W m σ H) ∧ ∀ m σ H, W m σ H →
  c σ H fun b H1 => if b = true then ∃ N : St → Hp → Prop, (∀ σ' H', N σ' H' → ∃ m', m' < m ∧ W m' σ' H') ∧ tb { D with nx := N, ct := N, bk := D.nx } σ H1 else D.nx σ H1
end

/-! ### what a loop or a comprehension walks -/
/-- at turn i: it yields x (the heap may grow), or it stops -/
structure It where
  go : Nat → Hp → Prop
  yld : Nat → Hp → V → Hp → Prop
  stop : Nat → Hp → Prop
/-- the iterator's own objects may turn: they are not the frame's, not pinned, younger than the entry (or a comprehension's own) -/
def FpOk (X : Cx) (pins : List (Addr × Obj)) (H : Hp) (b : Addr) : Prop :=
  H b = none ∧ b ≠ X.env.locals ∧ b ∉ X.fs ∧ (b ∈ X.ex ∨ X.s_0.heap.objs.size ≤ b) ∧ (∀ x c, X.env.cells.lookup x = some c → c ≠ b) ∧ ∀ p ∈ X.pn ++ pins, p.1 ≠ b
theorem Inv.fpOk {X : Cx} {pins : List (Addr × Obj)} {σ : St} {H H' : Hp} {s : Shared} {b : Addr} (I : Inv X pins σ H s) (hb : s.heap.objs.size ≤ b) (hn : H' b = none) : FpOk X pins H' b := by
  refine ⟨hn, Nat.ne_of_gt (Nat.lt_of_lt_of_le I.lt hb), I.nofs hb, .inr (Nat.le_trans I.sz hb), fun x c e z => ?_, fun p hp z => ?_⟩
  · obtain ⟨v, q⟩ := I.cell x c e
    exact absurd (Nat.lt_of_lt_of_le q.lt (by rw [z]; exact hb)) (Nat.lt_irrefl _)
  · exact absurd (Nat.lt_of_lt_of_le (Heap.lt_size (I.pin p hp).1) (by rw [z]; exact hb)) (Nat.lt_irrefl _)
structure Turn (P : Program) (w : World) (K : PySem.W.Frag) (tg : Expr) (J : It) (fp : List Addr) (it : Addr) (tn : Nat → Heap → Prop) : Prop where
  mem : it ∈ fp
  obj : ∀ i h, tn i h → ∀ b ∈ fp, ∃ o, h.get? b = some o ∧ ∀ v, o.data ≠ .cell v
  keep : ∀ i h h', tn i h → (∀ b ∈ fp, ∀ o, h.get? b = some o → h'.get? b = some o) → tn i h'
  item : ∀ (X : Cx), X.prog = P → X.w = w → X.K = K → X.calm = true → ∀ (i : Nat) (pins : List (Addr × Obj)) (s : Shared) (σ : St) (H : Hp) (E : Value → Shared → Prop), Inv X pins σ H s → (∀ b ∈ fp, FpOk X pins H b) → tn i s.heap → J.go i H →
    wpAny (model P w) X.A (pyNext (.ref it)) (fun r s1 => ∃ u, r = some u ∧
      wpAny (model P w) X.A (letOwnedTupleGo tg (.ref it) u) (fun _ s2 => ∃ x H', Inv X pins σ H' s2 ∧ RelV x u ∧ J.yld i H x H' ∧ tn (i + 1) s2.heap ∧ ∀ b ∈ fp, H' b = none) E s1) E s
  done : ∀ (X : Cx), X.prog = P → X.w = w → X.K = K → X.calm = true → ∀ (i : Nat) (pins : List (Addr × Obj)) (s : Shared) (σ : St) (H : Hp) (E : Value → Shared → Prop), Inv X pins σ H s → (∀ b ∈ fp, FpOk X pins H b) → tn i s.heap → J.stop i H →
    wpAny (model P w) X.A (pyNext (.ref it)) (fun r s1 => r = none ∧ Inv X pins σ H s1) E s
  self : ∀ (A : Around) (i : Nat) (s : Shared) (Q : Value → Shared → Prop) (E : Value → Shared → Prop), tn i s.heap → Q (.ref it) s → wpAny (model P w) A (pyIter (.ref it)) Q E s
abbrev TI := St → Hp → (It → Hp → Prop) → Prop
/-- an iterator has come -/
def PIE (X : Cx) (pins : List (Addr × Obj)) (σ : St) (tg : Expr) (R : It → Hp → Prop) (itv : Value) (s2 : Shared) : Prop :=
  ∃ (it : Addr) (fp : List Addr) (tn : Nat → Heap → Prop) (J : It) (H' : Hp), itv = .ref it ∧ Inv X pins σ H' s2 ∧ Turn X.prog X.w X.K tg J fp it tn ∧ tn 0 s2.heap ∧ (∀ b ∈ fp, FpOk X pins H' b) ∧ R J H'
def PI (X : Cx) (tg iter : Expr) (wi : TI) : Prop :=
  ∀ (pins : List (Addr × Obj)) (s : Shared) (σ : St) (H : Hp) (R : It → Hp → Prop), Inv X pins σ H s → wi σ H R →
    wpAny (model X.prog X.w) X.A (eval iter X.env) (fun v s1 => wpAny (model X.prog X.w) X.A (pyIter v) (PIE X pins σ tg R) X.xe s1) X.xe s

/-- the step ahead of the store is nothing for an iterator that keeps no tuple -/
theorem go_of {M : Model} {A : Around} {E : Value → Shared → Prop} {s : Shared} {tg : Expr} {it : Addr} {u : Value} {o : Obj} {n : String} {vs : Array Value} {Q : Unit → Shared → Prop} (ho : s.heap.get? it = some o) (hc : o.cls = .type n) (hd : o.data = .fields vs)
    (hn : ["enumerate", "zip", "dict_itemiterator", "dict_reverseitemiterator", "odict_iterator", "itertools.zip_longest", "itertools.pairwise"].contains n = false) (hQ : Q () s) : wpAny M A (letOwnedTupleGo tg (.ref it) u) Q E s := by
  unfold letOwnedTupleGo
  cases tg <;> first
    | exact wpAny_pure hQ
    | (cases u <;> first
        | exact wpAny_pure hQ
        | (refine wpAny_bind (wpAny_load ho ?_)
           rw [hc, hd]
           show wpAny M A (if (["enumerate", "zip", "dict_itemiterator", "dict_reverseitemiterator", "odict_iterator", "itertools.zip_longest", "itertools.pairwise"].contains n && vs[0]? == some (rawInt _)) = true then _ else _) Q E s
           rw [if_neg (by intro h; rw [hn, Bool.false_and] at h; cases h)]
           exact wpAny_pure hQ))

/-- the list at a, as it stands at each turn (a loop may append to it) -/
def Itl (K : PySem.W.Frag) (a : Addr) : It :=
  ⟨fun i H => ∃ xs x, SqL K H a xs ∧ xs[i]? = some x, fun i H x H' => H' = H ∧ ∀ xs, SqL K H a xs → xs[i]? = some x, fun i H => ∃ xs, SqL K H a xs ∧ xs.length ≤ i⟩
def Itt (K : PySem.W.Frag) (a : Addr) : It :=
  ⟨fun i H => ∃ xs x, SqT K H a xs ∧ xs[i]? = some x, fun i H x H' => H' = H ∧ ∀ xs, SqT K H a xs → xs[i]? = some x, fun i H => ∃ xs, SqT K H a xs ∧ xs.length ≤ i⟩
/-- lo, lo + 1, .. (n of them) -/
def Itr (lo : Int) (n : Nat) : It := ⟨fun i _ => i < n, fun i H x H' => H' = H ∧ x = .int (lo + i), fun i _ => n ≤ i⟩
theorem turn_tuple {P : Program} {w : World} {K : PySem.W.Frag} {tg : Expr} (a it : Addr) : Turn P w K tg (Itt K a) [it] it (fun i h => h.IsTupleIter it a i) where
  mem := by simp
  obj := fun i h st b hb => by
    have e : b = it := by simpa using hb
    subst e
    obtain ⟨o, e, c, d⟩ := st
    exact ⟨o, e, fun v z => by rw [d] at z; cases z⟩
  keep := fun i h h' st k => st.at fun o e => k it (by simp) o e
  item := by
    intro X hP hw hK hc i pins s σ H E I hf st hg
    subst hP hw hK
    obtain ⟨xs, x, hq, hx⟩ := hg
    obtain ⟨its, rv, p, hz⟩ := I.tuple hq
    obtain ⟨u, hu, ru⟩ := rv.get hx
    obtain ⟨f0, f1, f2, f3, f4, f5⟩ := hf it (by simp)
    refine wpAny_pyNext_tuple_item st (show s.heap.IsTuple a its.toArray from p) (x := u) (by simpa using hu) fun h' st' sb => ?_
    have I1 : Inv X pins σ H { s with heap := h' } := I.turned (t' := s.toks) (fun b o hb e => (sb.2 b hb).trans e) f0 f1 f3 f4 f5
    obtain ⟨o, e, c, d⟩ := id st'
    exact ⟨u, rfl, go_of (s := { s with heap := h' }) e c d (by decide) ⟨x, H, I1, ru, ⟨rfl, fun ys hy => by rw [I.tuple_inj hy hq]; exact hx⟩, st', fun b hb => (hf b hb).1⟩⟩
  done := by
    intro X hP hw hK hc i pins s σ H E I hf st hg
    subst hP hw hK
    obtain ⟨xs, hq, hx⟩ := hg
    obtain ⟨its, rv, p, hz⟩ := I.tuple hq
    obtain ⟨f0, f1, f2, f3, f4, f5⟩ := hf it (by simp)
    have hl := rv.length
    exact wpAny_pyNext_tuple_end (I.ok.hd hc) st (show s.heap.IsTuple a its.toArray from p) (by simp; omega) fun h' eb => ⟨rfl, I.turned (t' := s.toks) (fun b o hb e => eb b o hb e) f0 f1 f3 f4 f5⟩
  self := fun _ _ _ _ _ st h => wpAny_pyIter_tupleiter st h
theorem turn_range {P : Program} {w : World} {K : PySem.W.Frag} {tg : Expr} (it : Addr) (lo : Int) (n : Nat) : Turn P w K tg (Itr lo n) [it] it (fun i h => IsRangeIter h it (lo + (i : Nat) * 1) ((n : Int) - (i : Nat)) 1) where
  mem := by simp
  obj := fun i h st b hb => by
    have e : b = it := by simpa using hb
    subst e
    exact ⟨_, st, fun v z => by
      have z' : Data.fields _ = Data.cell v := z
      cases z'⟩
  keep := fun i h h' st k => k it (by simp) _ st
  item := by
    intro X hP hw hK hc i pins s σ H E I hf st hg
    subst hP hw hK
    obtain ⟨f0, f1, f2, f3, f4, f5⟩ := hf it (by simp)
    have W := Walks.range (prog := X.prog) (w := X.w) (I.ok.hd hc) it lo 1 n
    refine W.item i s _ _ hg st fun v h' tk hv st' kk => ?_
    obtain ⟨t, rfl⟩ := hv
    have I1 : Inv X pins σ H { s with heap := h', toks := tk } := I.turned (fun b o hb e => kk b o (by simpa using hb) e) f0 f1 f3 f4 f5
    refine ⟨_, rfl, go_of (s := { s with heap := h', toks := tk }) (n := "range_iterator") st' rfl rfl (by decide) ⟨.int (lo + i), H, I1, ⟨t, ?_⟩, ⟨rfl, rfl⟩, st', fun b hb => (hf b hb).1⟩⟩
    rw [Int.mul_one]
  done := by
    intro X hP hw hK hc i pins s σ H E I hf st hg
    subst hP hw hK
    obtain ⟨f0, f1, f2, f3, f4, f5⟩ := hf it (by simp)
    exact wpAny_pyNext_range_end (I.ok.hd hc) st (by have : n ≤ i := hg; omega) fun h' eb => ⟨rfl, I.turned (t' := s.toks) (fun b o hb e => eb b o hb e) f0 f1 f3 f4 f5⟩
  self := fun _ _ _ _ _ st h => wpAny_pyIter_rangeiter st h
end L2

namespace L2
open PySem PySem.Spec PyProof.Rows
section
variable {X : Cx} {tg : Expr}
def iList (K : PySem.W.Frag) (tl : TE) : TI := fun σ H R => tl σ H fun x H1 => ∃ a, x = .ref a ∧ (∃ xs, SqL K H1 a xs) ∧ R (Itl K a) H1
def iTup (K : PySem.W.Frag) (tl : TE) : TI := fun σ H R => tl σ H fun x H1 => ∃ a, x = .ref a ∧ (∃ xs, SqT K H1 a xs) ∧ R (Itt K a) H1
theorem pi_tup {l : Expr} {tl : TE} (hl : PE X l tl) : PI X tg l (iTup X.K tl) := by
  intro pins s σ H R I h
  refine thn (hl pins s σ H _ I h) fun v s1 ⟨x, H1, I1, r1, q1⟩ => ?_
  obtain ⟨a, e, ⟨xs, hq⟩, q⟩ := q1
  subst e
  cases r1
  obtain ⟨its, rv, p, hz⟩ := I1.tuple hq
  refine wpAny_pyIter_tuple (show s1.heap.IsTuple a its.toArray from p) ?_
  refine ⟨s1.heap.objs.size, [s1.heap.objs.size], _, _, H1, rfl, I1.kept (t' := s1.toks) fun b o e => Heap.get?_push_of_some _ e, turn_tuple a _, ⟨_, Heap.get?_push_size _ rfl, rfl, rfl⟩, fun b hb => ?_, q⟩
  have e : b = s1.heap.objs.size := by simpa using hb
  subst e
  exact I1.fpOk (Nat.le_refl _) (I1.hok.fresh (Nat.le_refl _))
/-- a range object just made, walked -/
theorem range_it {pins : List (Addr × Obj)} {σ : St} {H : Hp} {s : Shared} {R : It → Hp → Prop} {E : Value → Shared → Prop} {lo hi : Int} {t u v : Tok} {tk : Nat} (I : Inv X pins σ H s) (h1 : -(2 ^ 62) ≤ lo) (h2 : lo < 2 ^ 62) (h3 : -(2 ^ 62) ≤ hi) (h4 : hi < 2 ^ 62)
    (q : R (Itr lo (hi - lo).toNat) H) : wpAny (model X.prog X.w) X.A (pyIter (.ref s.heap.objs.size)) (PIE X pins σ tg R) E { s with heap := s.heap.push { cls := .type "range", data := .fields #[.int lo t, .int hi u, .int 1 v] }, toks := tk } := by
  refine wpAny_pyIter_range (IsRange.new ..) (small_one h1 h2 h3 h4) ?_
  have I1 : Inv X pins σ H { s with heap := s.heap.push { cls := .type "range", data := .fields #[.int lo t, .int hi u, .int 1 v] }, toks := tk } := I.kept fun b o e => Heap.get?_push_of_some _ e
  refine ⟨(s.heap.push { cls := .type "range", data := .fields #[.int lo t, .int hi u, .int 1 v] }).objs.size, [(s.heap.push { cls := .type "range", data := .fields #[.int lo t, .int hi u, .int 1 v] }).objs.size], _, _, H, rfl,
    I1.kept (t' := tk) fun b o e => Heap.get?_push_of_some _ e, turn_range _ lo (hi - lo).toNat, ?_, fun b hb => ?_, q⟩
  · have e1 : lo + ((0 : Nat) : Int) * 1 = lo := by simp
    have e2 : (((hi - lo).toNat : Nat) : Int) - ((0 : Nat) : Int) = Builtin.Range.rangeSize lo hi 1 := by rw [rangeSize_one]; split <;> omega
    show IsRangeIter _ _ (lo + ((0 : Nat) : Int) * 1) ((((hi - lo).toNat : Nat) : Int) - ((0 : Nat) : Int)) 1
    rw [e1, e2]
    exact Heap.get?_push_size _ rfl
  · have e : b = (s.heap.push { cls := .type "range", data := .fields #[.int lo t, .int hi u, .int 1 v] }).objs.size := by simpa using hb
    subst e
    exact I1.fpOk (Nat.le_refl _) (I1.hok.fresh (Nat.le_refl _))
def iRng1 (ta : TA) : TI := fun σ H R => ta σ H fun vs H1 => ∃ j : Int, vs = [.int j] ∧ -(2 ^ 62) ≤ j ∧ j < 2 ^ 62 ∧ R (Itr 0 j.toNat) H1
def iRng2 (ta : TA) : TI := fun σ H R => ta σ H fun vs H1 => ∃ i j : Int, vs = [.int i, .int j] ∧ (-(2 ^ 62) ≤ i ∧ i < 2 ^ 62 ∧ -(2 ^ 62) ≤ j ∧ j < 2 ^ 62) ∧ R (Itr i (j - i).toNat) H1
theorem pi_range1 {a : Expr} {ta : TA} {p pos : Pos} (hg : Gl X "range") (hm : X.mg "range" = none) (ha : PA X [a] ta) (hs : starEach [a] X.env = [(false, eval a X.env)] := by rfl) : PI X tg (.Call (.Name "range" p) [a] [] pos) (iRng1 ta) := by
  intro pins s σ H R I h
  refine Call_ (ld_blt I hg hm boot_range (PyProof.Rows.callWith_type1 (thn (ha pos pins s σ H _ I h) fun us s1 ⟨vs, H1, I1, r1, q1⟩ => ?_) hs rfl))
  obtain ⟨j, e, q1, q2, q⟩ := q1
  subst e
  cases r1 with
  | cons r rr =>
    cases rr
    obtain ⟨t, rfl⟩ := r
    exact call_range_1 (range_it I1 (by omega) (by omega) q1 q2 (by simpa using q))

/-! ### for -/
/-- W: the invariant by the turn and a measure; N: what the body is to reach -/
def tFor (wi : TI) (g : TG) (tb : TS) : TS := fun D σ H => wi σ H fun J H1 => ∃ W : Nat → Nat → St → Hp → Prop, (∃ m, W 0 m σ H1) ∧ ∀ i m σ H, W i m σ H →
  (J.stop i H ∧ D.nx σ H) ∨ (J.go i H ∧ ∃ N : St → Hp → Prop, (∀ σ' H', N σ' H' → ∃ m', m' < m ∧ W (i + 1) m' σ' H') ∧ ∀ x H', J.yld i H x H' → g x σ H' fun σ2 H2 => tb { D with nx := N, ct := N, bk := D.nx } σ2 H2)
/-- the records at fp as they stand -/
def pinsAt (fp : List Addr) (h : Heap) : List (Addr × Obj) := fp.filterMap fun b => (h.get? b).map fun o => (b, o)
theorem mem_pinsAt {fp : List Addr} {h : Heap} {b : Addr} {o : Obj} (hb : b ∈ fp) (e : h.get? b = some o) : (b, o) ∈ pinsAt fp h := List.mem_filterMap.mpr ⟨b, hb, by rw [e]; rfl⟩
theorem of_pinsAt {fp : List Addr} {h : Heap} {p : Addr × Obj} (hp : p ∈ pinsAt fp h) : p.1 ∈ fp ∧ h.get? p.1 = some p.2 := by
  obtain ⟨b, hb, e⟩ := List.mem_filterMap.mp hp
  cases q : h.get? b with
  | none => rw [q] at e; cases e
  | some o =>
    rw [q] at e
    have e' : (b, o) = p := Option.some.inj e
    subst e'
    exact ⟨hb, q⟩
theorem Inv.pinned {pins : List (Addr × Obj)} {σ : St} {H : Hp} {s : Shared} {fp : List Addr} (I : Inv X pins σ H s) (hf : ∀ b ∈ fp, FpOk X pins H b) (ho : ∀ b ∈ fp, ∃ o, s.heap.get? b = some o ∧ ∀ v, o.data ≠ .cell v) : Inv X (pins ++ pinsAt fp s.heap) σ H s :=
  I.pins_of fun p hp => (List.mem_append.mp hp).elim (fun z => I.pin p (List.mem_append_right _ z)) fun z => by
    obtain ⟨hb, e⟩ := of_pinsAt z
    obtain ⟨f0, f1, f2, _⟩ := hf p.1 hb
    obtain ⟨o, e', d⟩ := ho p.1 hb
    rw [e] at e'; cases e'
    exact ⟨e, f0, f1, f2, d⟩
theorem Inv.unpinned {pins pl : List (Addr × Obj)} {σ : St} {H : Hp} {s : Shared} (I : Inv X (pins ++ pl) σ H s) : Inv X pins σ H s := I.pins_of fun p hp => I.pin p (List.mem_append_right _ (List.mem_append_left _ hp))
theorem ps_for {iter : Expr} {body : List Stmt} {wi : TI} {g : TG} {tb : TS} {pos : Pos} (hp : PassesOwn (model X.prog X.w) X.A X.env X.xe) (hc : X.calm = true) (hi : PI X tg iter wi) (hg : PG X tg g) (hb : PSs X body tb)
    (hs : ∀ x, foldedSetIterable iter X.env x = pure x := by intro _; rfl) : PS X (.For tg iter body [] pos) (tFor wi g tb) := by
  intro pins s σ H D I h
  refine wpAny_For (thn (hi pins s σ H _ I h) fun v s1 h1 => thn h1 fun itv s2 h2 => ?_) hs
  obtain ⟨it, fp, tn, J, H2, e, I2, T, st2, f2, W, ⟨m0, w0⟩, turn⟩ := h2
  subst e
  -- what stays true of the iterator's objects through the loop
  have stat : ∀ {H' : Hp}, (∀ b ∈ fp, H' b = none) → ∀ b ∈ fp, FpOk X pins H' b := fun hn b hb => ⟨hn b hb, (f2 b hb).2⟩
  refine codeAny_forLoop_any (fun n s' => ∃ i σ' H', Inv X pins σ' H' s' ∧ tn i s'.heap ∧ (∀ b ∈ fp, H' b = none) ∧ W i n σ' H') ?_ m0 ⟨0, σ, H2, I2, st2, fun b hb => (f2 b hb).1, w0⟩
  rintro n s3 ⟨i, σ3, H3, I3, st3, fr3, w3⟩
  rcases turn i n σ3 H3 w3 with ⟨stop, qn⟩ | ⟨go, N, hN, step⟩
  · refine wpAny_passesOwn hp (thn (T.done X rfl rfl rfl hc i pins s3 σ3 H3 X.xe I3 (stat fr3) st3 stop) fun r s4 ⟨hr, I4⟩ => ?_)
    subst hr
    exact wpAny_execs_nil ⟨σ3, H3, I4, qn⟩
  · refine wpAny_passesOwn hp (thn (T.item X rfl rfl rfl hc i pins s3 σ3 H3 X.xe I3 (stat fr3) st3 go) fun r s4 ⟨u, hr, h4⟩ => ?_)
    subst hr
    refine wpAny_passesOwn hp (thn h4 fun _ s5 ⟨x, H5, I5, r5, y5, st5, fr5⟩ => ?_)
    have I5' := I5.pinned (stat fr5) (T.obj _ _ st5)
    refine wpAny_passesOwn hp (thn (hg _ s5 σ3 H5 x u _ I5' r5 (step x H5 y5)) fun _ s6 ⟨σ6, H6, I6, q6⟩ => ?_)
    refine wpAny_passesOwn hp (thn (hb _ s6 σ6 H6 _ I6 q6) fun f s7 q7 => ?_)
    have again : ∀ {σ7 : St} {H7 : Hp}, Inv X (pins ++ pinsAt fp s5.heap) σ7 H7 s7 → N σ7 H7 → ∃ m, m < n ∧ ∃ i σ' H', Inv X pins σ' H' s7 ∧ tn i s7.heap ∧ (∀ b ∈ fp, H' b = none) ∧ W i m σ' H' := fun {σ7 H7} I7 n7 => by
      obtain ⟨m', hm, w7⟩ := hN σ7 H7 n7
      refine ⟨m', hm, i + 1, σ7, H7, I7.unpinned, T.keep _ _ _ st5 fun b hb o e => (I7.pin (b, o) (List.mem_append_right _ (List.mem_append_right _ (mem_pinsAt hb e)))).1, fun b hb => ?_, w7⟩
      obtain ⟨o, e, d⟩ := T.obj _ _ st5 b hb
      exact (I7.pin (b, o) (List.mem_append_right _ (List.mem_append_right _ (mem_pinsAt hb e)))).2.1
    cases f with
    | next => obtain ⟨σ7, H7, I7, n7⟩ := q7; exact again I7 n7
    | cont => obtain ⟨σ7, H7, I7, n7⟩ := q7; exact again I7 n7
    | brk => obtain ⟨σ7, H7, I7, q7⟩ := q7; exact ⟨σ7, H7, I7.unpinned, q7⟩
    | ret v => obtain ⟨x7, σ7, H7, I7, r7, q7⟩ := q7; exact ⟨x7, σ7, H7, I7.unpinned, r7, q7⟩
end

/-! ### the forms one uses -/
theorem for_tup {K : PySem.W.Frag} {a : Addr} {xs : List V} {g : TG} {tb : TS} {D : Ends} {σ : St} {H : Hp} (Pv : Nat → St → Hp → Prop) (h0 : Pv 0 σ H) (hl : ∀ i σ H, i ≤ xs.length → Pv i σ H → SqT K H a xs)
    (hs : ∀ i x σ H, xs[i]? = some x → Pv i σ H → g x σ H fun σ2 H2 => tb { D with nx := Pv (i + 1), ct := Pv (i + 1), bk := D.nx } σ2 H2) (hd : ∀ σ H, Pv xs.length σ H → D.nx σ H) :
    ∃ W : Nat → Nat → St → Hp → Prop, (∃ m, W 0 m σ H) ∧ ∀ i m σ H, W i m σ H →
      ((Itt K a).stop i H ∧ D.nx σ H) ∨ ((Itt K a).go i H ∧ ∃ N : St → Hp → Prop, (∀ σ' H', N σ' H' → ∃ m', m' < m ∧ W (i + 1) m' σ' H') ∧ ∀ x H', (Itt K a).yld i H x H' → g x σ H' fun σ2 H2 => tb { D with nx := N, ct := N, bk := D.nx } σ2 H2) := by
  refine ⟨fun i m σ H => m = xs.length - i ∧ i ≤ xs.length ∧ Pv i σ H, ⟨xs.length, by simp, Nat.zero_le _, h0⟩, ?_⟩
  rintro i m σ H ⟨rfl, hi, p⟩
  have q := hl i σ H hi p
  by_cases hlt : i < xs.length
  · refine .inr ⟨⟨xs, xs[i], q, by simp [hlt]⟩, Pv (i + 1), fun σ' H' p' => ⟨xs.length - (i + 1), by omega, rfl, hlt, p'⟩, fun x H' y => ?_⟩
    obtain ⟨e, y⟩ := y
    subst e
    exact hs i x σ _ (y xs q) p
  · have e : i = xs.length := by omega
    subst e
    exact .inl ⟨⟨xs, q, Nat.le_refl _⟩, hd σ H p⟩
theorem for_range {lo : Int} {n : Nat} {g : TG} {tb : TS} {D : Ends} {σ : St} {H : Hp} (Pv : Nat → St → Hp → Prop) (h0 : Pv 0 σ H)
    (hs : ∀ i σ H, i < n → Pv i σ H → g (.int (lo + i)) σ H fun σ2 H2 => tb { D with nx := Pv (i + 1), ct := Pv (i + 1), bk := D.nx } σ2 H2) (hd : ∀ σ H, Pv n σ H → D.nx σ H) :
    ∃ W : Nat → Nat → St → Hp → Prop, (∃ m, W 0 m σ H) ∧ ∀ i m σ H, W i m σ H →
      ((Itr lo n).stop i H ∧ D.nx σ H) ∨ ((Itr lo n).go i H ∧ ∃ N : St → Hp → Prop, (∀ σ' H', N σ' H' → ∃ m', m' < m ∧ W (i + 1) m' σ' H') ∧ ∀ x H', (Itr lo n).yld i H x H' → g x σ H' fun σ2 H2 => tb { D with nx := N, ct := N, bk := D.nx } σ2 H2) := by
  refine ⟨fun i m σ H => m = n - i ∧ i ≤ n ∧ Pv i σ H, ⟨n, by simp, Nat.zero_le _, h0⟩, ?_⟩
  rintro i m σ H ⟨rfl, hi, p⟩
  by_cases hlt : i < n
  · refine .inr ⟨hlt, Pv (i + 1), fun σ' H' p' => ⟨n - (i + 1), by omega, rfl, hlt, p'⟩, fun x H' y => ?_⟩
    obtain ⟨e, y⟩ := y
    subst e y
    exact hs i σ _ hlt p
  · have e : i = n := by omega
    subst e
    exact .inl ⟨Nat.le_refl _, hd σ H p⟩
end L2

namespace L2
open PySem PySem.Spec PyProof.Rows

abbrev R2 := V → V → Hp → VK → Prop
/-- a two-place operation on values: f is binaryOp op, inplaceOp op or compareOp op -/
def OpR (X : Cx) (f : Value → Value → Sem Value) (r : R2) : Prop :=
  ∀ (pins : List (Addr × Obj)) (s : Shared) (σ : St) (H : Hp) (x y : V) (v u : Value) (Q : VK), Inv X pins σ H s → RelV x v → RelV y u → r x y H Q →
    wpAny (model X.prog X.w) X.A (f v u) (EP X pins σ Q) X.xe s
/-- a one-place operation -/
def UnR (X : Cx) (f : Value → Sem Value) (r : V → Hp → VK → Prop) : Prop :=
  ∀ (pins : List (Addr × Obj)) (s : Shared) (σ : St) (H : Hp) (x : V) (v : Value) (Q : VK), Inv X pins σ H s → RelV x v → r x H Q →
    wpAny (model X.prog X.w) X.A (f v) (EP X pins σ Q) X.xe s
/-- a call of a value that is known (a builtin, a type) with values -/
def CallR (X : Cx) (f : Value) (r : List V → Hp → VK → Prop) : Prop :=
  ∀ (pins : List (Addr × Obj)) (s : Shared) (σ : St) (H : Hp) (xs : List V) (us : List Value) (Q : VK), Inv X pins σ H s → Vals xs us → r xs H Q →
    wpAny (model X.prog X.w) X.A (call f us) (EP X pins σ Q) X.xe s
/-- a value's truth -/
def TruR (X : Cx) (r : V → Hp → (Bool → Hp → Prop) → Prop) : Prop :=
  ∀ (pins : List (Addr × Obj)) (s : Shared) (σ : St) (H : Hp) (x : V) (v : Value) (Q : Bool → Hp → Prop), Inv X pins σ H s → RelV x v → r x H Q →
    wpAny (model X.prog X.w) X.A (truthy v) (TP X pins σ Q) X.xe s

def tOp (r : R2) (ta tb : TE) : TE := fun σ H Q => ta σ H fun x H1 => tb σ H1 fun y H2 => r x y H2 Q
def tUn (r : V → Hp → VK → Prop) (ta : TE) : TE := fun σ H Q => ta σ H fun x H1 => r x H1 Q
/-- ints in, under C, and a value out -/
def rI (C : Int → Int → Prop) (g : Int → Int → V) : R2 := fun x y H Q => ∃ i j, x = .int i ∧ y = .int j ∧ C i j ∧ Q (g i j) H
def rI0 (g : Int → Int → V) : R2 := fun x y H Q => ∃ i j, x = .int i ∧ y = .int j ∧ Q (g i j) H
def rU (g : Int → V) : V → Hp → VK → Prop := fun x H Q => ∃ i, x = .int i ∧ Q (g i) H

section
variable {X : Cx} {a b c : Expr} {ta tb tc : TE} {pos : Pos}

theorem binT (ha : PE X a ta) (hb : PE X b tb) {pins : List (Addr × Obj)} {s : Shared} {σ : St} {H : Hp} {R : V → V → Hp → Prop} (I : Inv X pins σ H s)
    (h : ta σ H fun x H1 => tb σ H1 fun y H2 => R x y H2) {Q : Value → Shared → Prop} {f : Value → Value → Sem Value}
    (hf : ∀ v u s2 x y H2, Inv X pins σ H2 s2 → RelV x v → RelV y u → R x y H2 → wpAny (model X.prog X.w) X.A (f v u) Q X.xe s2) :
    wpAny (model X.prog X.w) X.A (eval a X.env) (fun v s₁ => wpAny (model X.prog X.w) X.A (eval b X.env) (fun u s₂ => wpAny (model X.prog X.w) X.A (f v u) Q X.xe s₂) X.xe s₁) X.xe s := by
  refine thn (ha pins s σ H _ I h) fun v s1 ⟨x, H1, I1, r1, q1⟩ => ?_
  refine thn (hb pins s1 σ H1 _ I1 q1) fun u s2 ⟨y, H2, I2, r2, q2⟩ => ?_
  exact hf v u s2 x y H2 I2 r1 r2 q2

theorem pe_op {op : Operator} {r : R2} (ho : OpR X (binaryOp op) r) (ha : PE X a ta) (hb : PE X b tb) : PE X (.BinOp a op b pos) (tOp r ta tb) := by
  intro pins s σ H Q I h
  exact wpAny_BinOp (binT ha hb I h fun v u s2 x y H2 I2 rx ry q => ho pins s2 σ H2 x y v u Q I2 rx ry q)

/-! ### ints -/
theorem opI {f : Value → Value → Sem Value} {C : Int → Int → Prop} {g : Int → Int → Int}
    (rule : ∀ (i j : Int) (t u : Tok) (s : Shared) (Q : Value → Shared → Prop) (E : Value → Shared → Prop), C i j → Q (.int (g i j) s.toks) { s with toks := s.toks + 1 } → wpAny (model X.prog X.w) X.A (f (.int i t) (.int j u)) Q E s) :
    OpR X f (rI C fun i j => .int (g i j)) := by
  intro pins s σ H x y v u Q I rx ry h
  obtain ⟨i, j, rfl, rfl, hc, q⟩ := h
  obtain ⟨t, rfl⟩ := rx
  obtain ⟨t', rfl⟩ := ry
  exact rule i j t t' s _ _ hc ⟨.int (g i j), H, I.tok _, ⟨_, rfl⟩, q⟩
theorem opI0 {f : Value → Value → Sem Value} {g : Int → Int → Int}
    (rule : ∀ (i j : Int) (t u : Tok) (s : Shared) (Q : Value → Shared → Prop) (E : Value → Shared → Prop), Q (.int (g i j) s.toks) { s with toks := s.toks + 1 } → wpAny (model X.prog X.w) X.A (f (.int i t) (.int j u)) Q E s) :
    OpR X f (rI0 fun i j => .int (g i j)) := by
  intro pins s σ H x y v u Q I rx ry h
  obtain ⟨i, j, rfl, rfl, q⟩ := h
  obtain ⟨t, rfl⟩ := rx
  obtain ⟨t', rfl⟩ := ry
  exact rule i j t t' s _ _ ⟨.int (g i j), H, I.tok _, ⟨_, rfl⟩, q⟩
theorem opB0 {f : Value → Value → Sem Value} {g : Int → Int → Bool}
    (rule : ∀ (i j : Int) (t u : Tok) (s : Shared) (Q : Value → Shared → Prop) (E : Value → Shared → Prop), Q (.bool (g i j)) s → wpAny (model X.prog X.w) X.A (f (.int i t) (.int j u)) Q E s) :
    OpR X f (rI0 fun i j => .bl (g i j)) := by
  intro pins s σ H x y v u Q I rx ry h
  obtain ⟨i, j, rfl, rfl, q⟩ := h
  obtain ⟨t, rfl⟩ := rx
  obtain ⟨t', rfl⟩ := ry
  exact rule i j t t' s _ _ ⟨.bl (g i j), H, I, rfl, q⟩

def CDiv (i j : Int) : Prop := 0 < j ∧ j < 1073741824
def CDivN (i j : Int) : Prop := j ≠ 0 ∧ j.natAbs < 1073741824
def CPow (i j : Int) : Prop := 0 ≤ j ∧ j ≤ 1000000 ∧ i.natAbs < 2 ^ 64
def CMul (i j : Int) : Prop := (-(2 ^ 64) < i ∧ i < 2 ^ 64) ∨ (-(2 ^ 64) < j ∧ j < 2 ^ 64)
theorem CMul.ok {i j : Int} (h : CMul i j) : IntMulOk i j := by
  rcases h with ⟨h1, h2⟩ | ⟨h1, h2⟩
  · exact .of_left (intBits_le_64 h1 h2)
  · exact .of_right (intBits_le_64 h1 h2)

theorem op_add : OpR X (binaryOp .Add) (rI0 fun i j => .int (i + j)) := opI0 fun _ _ _ _ _ _ _ q => add_int q
theorem op_sub : OpR X (binaryOp .Sub) (rI0 fun i j => .int (i - j)) := opI0 fun _ _ _ _ _ _ _ q => sub_int q
theorem op_mul : OpR X (binaryOp .Mult) (rI CMul fun i j => .int (i * j)) := opI fun _ _ _ _ _ _ _ hc q => mul_int q hc.ok
/-- // by a positive divisor -/
theorem op_fdiv : OpR X (binaryOp .FloorDiv) (rI CDiv fun i j => .int (i / j)) := opI fun i j _ _ _ _ _ hc q => by
  have h1 : (0 : Int) < j := hc.1
  have h2 : j < 1073741824 := hc.2
  exact floordiv_int (by omega) (by rw [Int.fdiv_eq_ediv_of_nonneg i (by omega)]; exact q) (.inl (PyProof.noPylong_small (by omega)))
/-- % by a positive divisor of any size -/
theorem op_mod : OpR X (binaryOp .Mod) (rI (fun _ j => 0 < j) fun i j => .int (i % j)) := opI fun i j _ _ _ _ _ hc q => by
  have h1 : (0 : Int) < j := hc
  exact mod_int' (by omega) (by rw [Int.fmod_eq_emod_of_nonneg i (by omega)]; exact q)
theorem op_pow : OpR X (binaryOp .Pow) (rI CPow fun i j => .int (i ^ j.toNat)) := opI fun _ _ _ _ _ _ _ hc q => pow_int_small hc.1 hc.2.1 hc.2.2 q



/-! ### bools among ints: n += (a < b) -/
end

/-! ### comparisons -/
/-- the scalars that == tells apart as data does -/
def scal : V → V → Bool
  | .non, .non => true | .non, .int _ => true | .int _, .non => true | .non, .bl _ => true | .bl _, .non => true | .non, .str _ => true | .str _, .non => true
  | .int _, .int _ => true | .bl _, .bl _ => true | .str _, .str _ => true | .byt _, .byt _ => true
  | .int _, .str _ => true | .str _, .int _ => true | .bl _, .str _ => true | .str _, .bl _ => true
  | _, _ => false
def rEq : R2 := fun x y H Q => scal x y = true ∧ Q (.bl (decide (x = y))) H
def rNe : R2 := fun x y H Q => scal x y = true ∧ Q (.bl (!decide (x = y))) H

theorem dec_int {i j : Int} : decide (V.int i = V.int j) = (i == j) := by
  rw [Bool.eq_iff_iff]
  simp
theorem dec_bl {i j : Bool} : decide (V.bl i = V.bl j) = (i == j) := by
  rw [Bool.eq_iff_iff]
  simp
theorem dec_str {i j : Str} : decide (V.str i = V.str j) = (i == j) := by
  rw [Bool.eq_iff_iff]
  simp
theorem dec_byt {i j : Array UInt8} : decide (V.byt i = V.byt j) = (i.toList == j.toList) := by
  rw [Bool.eq_iff_iff]
  cases i
  cases j
  simp

section
variable {X : Cx} {a b c : Expr} {ta tb tc : TE} {pos : Pos}
theorem fin_bl {pins : List (Addr × Obj)} {σ : St} {H : Hp} {s : Shared} {Q : VK} {k k' : Bool} (I : Inv X pins σ H s) (q : Q (.bl k) H) (e : k = k') : EP X pins σ Q (.bool k') s := by
  subst e
  exact ⟨.bl k, H, I, rfl, q⟩
theorem op_eq : OpR X (compareOp .Eq) rEq := by
  intro pins s σ H x y v u Q I rx ry h
  obtain ⟨hs, q⟩ := h
  cases x with
  | non =>
    cases rx
    cases y with
    | non => cases ry; exact PySem.EqNone.eq_none_none (fin_bl I q (by simp))
    | bl j => cases ry; exact PySem.EqNone.eq_none_bool (fin_bl I q (by simp))
    | int j => obtain ⟨t', rfl⟩ := ry; exact PySem.EqNone.eq_none_int (fin_bl I q (by simp))
    | str j => obtain ⟨t', rfl⟩ := ry; exact PySem.EqNone.eq_none_str (fin_bl I q (by simp))
    | _ => exact absurd (show false = true from hs) Bool.false_ne_true
  | bl i =>
    cases rx
    cases y with
    | non => cases ry; exact PySem.EqNone.eq_bool_none (fin_bl I q (by simp))
    | bl j => cases ry; exact eq_bool (fin_bl I q dec_bl)
    | str j => obtain ⟨t', rfl⟩ := ry; exact PySem.EqMixed.eq_bool_str (fin_bl I q (by simp))
    | _ => exact absurd (show false = true from hs) Bool.false_ne_true
  | int i =>
    obtain ⟨t, rfl⟩ := rx
    cases y with
    | non => cases ry; exact PySem.EqNone.eq_int_none (fin_bl I q (by simp))
    | int j => obtain ⟨t', rfl⟩ := ry; exact eq_int (fin_bl I q dec_int)
    | str j => obtain ⟨t', rfl⟩ := ry; exact PySem.EqMixed.eq_int_str (fin_bl I q (by simp))
    | _ => exact absurd (show false = true from hs) Bool.false_ne_true
  | str i =>
    obtain ⟨t, rfl⟩ := rx
    cases y with
    | non => cases ry; exact PySem.EqNone.eq_str_none (fin_bl I q (by simp))
    | bl j => cases ry; exact PySem.EqMixed.eq_str_bool (fin_bl I q (by simp))
    | int j => obtain ⟨t', rfl⟩ := ry; exact PySem.EqMixed.eq_str_int (fin_bl I q (by simp))
    | str j => obtain ⟨t', rfl⟩ := ry; exact eq_str (fin_bl I q dec_str)
    | _ => exact absurd (show false = true from hs) Bool.false_ne_true
  | byt i =>
    obtain ⟨t, rfl⟩ := rx
    cases y with
    | byt j => obtain ⟨t', rfl⟩ := ry; exact PySem.W.eq_bytes (fin_bl I q dec_byt)
    | _ => exact absurd (show false = true from hs) Bool.false_ne_true
  | _ => cases y <;> exact absurd (show false = true from hs) Bool.false_ne_true
theorem op_ne : OpR X (compareOp .NotEq) rNe := by
  intro pins s σ H x y v u Q I rx ry h
  obtain ⟨hs, q⟩ := h
  cases x with
  | non =>
    cases rx
    cases y with
    | non => cases ry; exact PySem.EqNone.ne_none_none (fin_bl I q (by simp))
    | bl j => cases ry; exact PySem.EqNone.ne_none_bool (fin_bl I q (by simp))
    | int j => obtain ⟨t', rfl⟩ := ry; exact PySem.EqNone.ne_none_int (fin_bl I q (by simp))
    | str j => obtain ⟨t', rfl⟩ := ry; exact PySem.EqNone.ne_none_str (fin_bl I q (by simp))
    | _ => exact absurd (show false = true from hs) Bool.false_ne_true
  | bl i =>
    cases rx
    cases y with
    | non => cases ry; exact PySem.EqNone.ne_bool_none (fin_bl I q (by simp))
    | bl j => cases ry; exact ne_bool (fin_bl I q (congrArg not dec_bl))
    | str j => obtain ⟨t', rfl⟩ := ry; exact PySem.EqMixed.ne_bool_str (fin_bl I q (by simp))
    | _ => exact absurd (show false = true from hs) Bool.false_ne_true
  | int i =>
    obtain ⟨t, rfl⟩ := rx
    cases y with
    | non => cases ry; exact PySem.EqNone.ne_int_none (fin_bl I q (by simp))
    | int j => obtain ⟨t', rfl⟩ := ry; exact ne_int (fin_bl I q (congrArg not dec_int))
    | str j => obtain ⟨t', rfl⟩ := ry; exact PySem.EqMixed.ne_int_str (fin_bl I q (by simp))
    | _ => exact absurd (show false = true from hs) Bool.false_ne_true
  | str i =>
    obtain ⟨t, rfl⟩ := rx
    cases y with
    | non => cases ry; exact PySem.EqNone.ne_str_none (fin_bl I q (by simp))
    | bl j => cases ry; exact PySem.EqMixed.ne_str_bool (fin_bl I q (by simp))
    | int j => obtain ⟨t', rfl⟩ := ry; exact PySem.EqMixed.ne_str_int (fin_bl I q (by simp))
    | str j => obtain ⟨t', rfl⟩ := ry; exact ne_str (fin_bl I q (congrArg not dec_str))
    | _ => exact absurd (show false = true from hs) Bool.false_ne_true
  | byt i =>
    obtain ⟨t, rfl⟩ := rx
    cases y with
    | byt j => obtain ⟨t', rfl⟩ := ry; exact PySem.W.ne_bytes (fin_bl I q (congrArg not dec_byt))
    | _ => exact absurd (show false = true from hs) Bool.false_ne_true
  | _ => cases y <;> exact absurd (show false = true from hs) Bool.false_ne_true

theorem op_lt : OpR X (compareOp .Lt) (rI0 fun i j => .bl (decide (i < j))) := opB0 fun _ _ _ _ _ _ _ q => lt_int q
theorem op_le : OpR X (compareOp .LtE) (rI0 fun i j => .bl (decide (i ≤ j))) := opB0 fun _ _ _ _ _ _ _ q => le_int q
theorem op_ge : OpR X (compareOp .GtE) (rI0 fun i j => .bl (decide (j ≤ i))) := opB0 fun _ _ _ _ _ _ _ q => ge_int q

/-- is None, is not None: the right side a value none -/
theorem op_isN : OpR X (compareOp .Is) (fun x y H Q => y = .non ∧ Q (.bl (decide (x = .non))) H) := by
  intro pins s σ H x y v u Q I rx ry h
  obtain ⟨rfl, q⟩ := h
  cases ry
  refine is_none_gen (fin_bl I q ?_)
  cases x <;> first
    | (cases rx; rfl)
    | (obtain ⟨t, rfl⟩ := rx; rfl)
theorem op_notN : OpR X (compareOp .IsNot) (fun x y H Q => y = .non ∧ Q (.bl (!decide (x = .non))) H) := by
  intro pins s σ H x y v u Q I rx ry h
  obtain ⟨rfl, q⟩ := h
  cases ry
  refine isnot_none_gen (fin_bl I q ?_)
  cases x <;> first
    | (cases rx; rfl)
    | (obtain ⟨t, rfl⟩ := rx; rfl)

/-- is, is not of two objects that are tracked lists or instances -/
def isObj : HO → Bool
  | .lst _ => true
  | .ins _ _ _ => true
  | _ => false


theorem nomark (b : Expr) {op : CmpOp} (h : op ≠ .In := by decide) (h2 : op ≠ .NotIn := by decide) : behindInMarks op b = false := by
  have e1 : (op == CmpOp.In) = false := by cases op <;> first | rfl | exact absurd rfl h
  have e2 : (op == CmpOp.NotIn) = false := by cases op <;> first | rfl | exact absurd rfl h2
  cases b <;> simp [behindInMarks, e1, e2]
/-- a comparison as a value; hm: nomark b, or (for in, not in) by with_unfolding_all rfl -/
theorem pe_cmpR {op : CmpOp} {r : R2} (ho : OpR X (compareOp op) r) (ha : PE X a ta) (hb : PE X b tb) (hm : behindInMarks op b = false) : PE X (.Compare a [op] [b] pos) (tOp r ta tb) := by
  intro pins s σ H Q I h
  exact wpAny_Compare1 (binT ha hb I h fun v u s2 x y H2 I2 rx ry q => ho pins s2 σ H2 x y v u Q I2 rx ry q) hm
/-- a reading of a value as a test -/
def tTest (t : TE) : TT := fun σ H Q => t σ H fun x H' => ∃ k, x = .bl k ∧ Q k H'
theorem pt_cmpR {op : CmpOp} {r : R2} (ho : OpR X (compareOp op) r) (ha : PE X a ta) (hb : PE X b tb) (hm : behindInMarks op b = false) : PT X (.Compare a [op] [b] pos) (tTest (tOp r ta tb)) := by
  intro pins s σ H Q I h
  refine wpAny_isTrue_Compare1 (thn (ha pins s σ H _ I h) fun v s1 ⟨x, H1, I1, r1, q1⟩ => thn (hb pins s1 σ H1 _ I1 q1) fun u s2 ⟨y, H2, I2, r2, q2⟩ =>
    thn (ho pins s2 σ H2 x y v u _ I2 r1 r2 q2) fun c s3 ⟨z, H3, I3, r3, k, e, q3⟩ => ?_) hm
  subst e
  cases r3
  exact wpAny_truthy_bool ⟨H3, I3, q3⟩
/-- a op1 b op2 c -/
def tChain (r r' : R2) (ta tb tc : TE) : TE := fun σ H Q => ta σ H fun x H1 => tb σ H1 fun y H2 => r x y H2 fun z H3 => ∃ k, z = .bl k ∧
  (if k = true then tc σ H3 fun w' H4 => r' y w' H4 Q else Q (.bl false) H3)
theorem pe_chain {op op' : CmpOp} {r r' : R2} (ho : OpR X (compareOp op) r) (ho' : OpR X (compareOp op') r') (ha : PE X a ta) (hb : PE X b tb) (hc : PE X c tc)
    (hm : lastMarks [op, op'] [b, c] = false := by with_unfolding_all rfl) : PE X (.Compare a [op, op'] [b, c] pos) (tChain r r' ta tb tc) := by
  intro pins s σ H Q I h
  refine Compare_chain (thn (ha pins s σ H _ I h) fun v s1 ⟨x, H1, I1, r1, q1⟩ => chain_link (thn (hb pins s1 σ H1 _ I1 q1) fun u s2 ⟨y, H2, I2, r2, q2⟩ =>
    thn (ho pins s2 σ H2 x y v u _ I2 r1 r2 q2) fun d s3 ⟨z, H3, I3, r3, k, e, q3⟩ => ?_)) hm
  subst e
  cases r3
  refine wpAny_truthy_bool ?_
  cases k with
  | false => exact ite_ff ⟨.bl false, H3, I3, rfl, q3⟩
  | true => exact ite_tt (chain_last (thn (hc pins s3 σ H3 _ I3 q3) fun w' s4 ⟨z', H4, I4, r4, q4⟩ => ho' pins s4 σ H4 y z' u w' Q I4 r2 r4 q4))

/-! ### truth -/
/-- a value's truth by the abstract heap -/
def TruV (K : PySem.W.Frag) (x : V) (H : Hp) (k : Bool) : Prop :=
  match x with
  | .non => k = false
  | .bl b => k = b
  | .int i => k = (i != 0)
  | .str y => y.length ≤ sizeLine ∧ k = ((y.length : Int) != 0)
  | .byt y => y.size ≤ sizeLine ∧ k = ((y.size : Int) != 0)
  | .ref p => (∃ xs, SqL K H p xs ∧ k = !xs.isEmpty) ∨ (∃ xs, SqT K H p xs ∧ k = !xs.isEmpty) ∨ ∃ kvs, H p = some (.dK kvs) ∧ k = !kvs.isEmpty
  | _ => False
theorem isEmpty_kv {κ : Type} {kvs : List (κ × V)} {vs : List (κ × Value)} (r : KV kvs vs) : (!vs.isEmpty) = !kvs.isEmpty := by
  cases r <;> rfl
theorem isEmpty_of {xs : List V} {its : List Value} (r : Vals xs its) : (!its.toArray.isEmpty) = !xs.isEmpty := by
  cases r <;> simp
theorem line63 : (sizeLine : Nat) < 2 ^ 63 := by rw [sizeLine_eq]; decide
theorem tru_ok : TruR X (fun x H Q => ∃ k, TruV X.K x H k ∧ Q k H) := by
  intro pins s σ H x v Q I rx h
  obtain ⟨k, e, q⟩ := h
  have hl := line63
  have hs : sizeLine = 16777216 := sizeLine_eq
  cases x with
  | non =>
    cases rx
    have e' : k = false := e
    subst e'
    exact truthy_none ⟨H, I, q⟩
  | bl b =>
    cases rx
    have e' : k = b := e
    subst e'
    exact wpAny_truthy_bool ⟨H, I, q⟩
  | int i =>
    obtain ⟨t, rfl⟩ := rx
    have e' : k = (i != 0) := e
    subst e'
    exact PySem.P.truthy_int ⟨H, I, q⟩
  | str y =>
    obtain ⟨t, rfl⟩ := rx
    obtain ⟨hy, e'⟩ : y.length ≤ sizeLine ∧ k = ((y.length : Int) != 0) := e
    subst e'
    exact PySem.P.truthy_str (by omega) ⟨H, I.tok _, q⟩
  | byt y =>
    obtain ⟨t, rfl⟩ := rx
    obtain ⟨hy, e'⟩ : y.size ≤ sizeLine ∧ k = ((y.size : Int) != 0) := e
    subst e'
    exact PySem.W.truthy_bytes (by omega) ⟨H, I.tok _, q⟩
  | ref p =>
    cases rx
    have e' : (∃ xs, SqL X.K H p xs ∧ k = !xs.isEmpty) ∨ (∃ xs, SqT X.K H p xs ∧ k = !xs.isEmpty) ∨ ∃ kvs, H p = some (.dK kvs) ∧ k = !kvs.isEmpty := e
    rcases e' with ⟨xs, hx, e'⟩ | ⟨xs, hx, e'⟩ | ⟨kvs, hx, e'⟩
    · subst e'
      obtain ⟨its, r, pl, hz⟩ := I.list hx
      have hlen := r.length
      exact wpAny_truthy_list pl.isList (by simp only [List.size_toArray]; omega) ⟨H, I.tok _, by rw [isEmpty_of r]; exact q⟩
    · subst e'
      obtain ⟨its, r, pl, hz⟩ := I.tuple hx
      have hlen := r.length
      exact truthy_tuple pl (by simp only [List.size_toArray]; omega) ⟨H, I.tok _, by rw [isEmpty_of r]; exact q⟩
    · subst e'
      obtain ⟨hz, hS, vs, r, m⟩ : kvs.length ≤ sizeLine ∧ (p == sysModules) = false ∧ ∃ vs, KV kvs vs ∧ s.heap.DictOf (mixKind X.prog X.w) p vs := I.hok p _ hx
      have hlen : kvs.length = vs.length := Paired.length r
      exact wpAny_truthy_dict hS m (by omega) ⟨H, I.tok _, by rw [isEmpty_kv r]; exact q⟩
  | _ => exact (show False from e).elim
/-- any expression whose test is its value's truth (a name, a call, a subscript, a field ..: he by fun _ => rfl) -/
theorem pt_truth (ha : PE X a ta) (he : ∀ whole, isTrue a X.env whole = (do let v ← whole; standAt a.pos; holding [v] (truthy v))) :
    PT X a (fun σ H Q => ta σ H fun x H' => ∃ k, TruV X.K x H' k ∧ Q k H') := by
  intro pins s σ H Q I h
  exact isTrue_plain (thn (ha pins s σ H _ I h) fun v s1 ⟨x, H1, I1, r1, q1⟩ => tru_ok pins s1 σ H1 x v Q I1 r1 q1) (he _)

/-! ### strs and bytes -/
theorem op_add_str : OpR X (binaryOp .Add) (fun x y H Q => ∃ i j, x = .str i ∧ y = .str j ∧ i.length + j.length ≤ sizeLine ∧ Q (.str (i ++ j)) H) := by
  intro pins s σ H x y v u Q I rx ry h
  obtain ⟨i, j, rfl, rfl, hz, q⟩ := h
  obtain ⟨t, rfl⟩ := rx
  obtain ⟨t', rfl⟩ := ry
  exact add_str (fun t' tk => ⟨.str (i ++ j), H, I.tok _, ⟨_, rfl⟩, q⟩) hz

def PlainIxT (b : Expr) : Prop := ∀ o i, subscripted b false o i = operate [o, i] (getItem o i)

/-! ### scalar builtins, by CallR -/
theorem vals1 {x : V} {us : List Value} (r : Vals [x] us) : ∃ u, us = [u] ∧ RelV x u := by
  cases r with
  | cons r1 r2 => cases r2; exact ⟨_, rfl, r1⟩
theorem call_str_int : CallR X (.type "str") (fun xs H Q => ∃ i, xs = [.int i] ∧ i.natAbs.log2 < 1920 ∧ Q (.str (toString i)) H) := by
  intro pins s σ H xs us Q I r h
  obtain ⟨i, rfl, hz, q⟩ := h
  obtain ⟨u, rfl, t, rfl⟩ := vals1 r
  exact PySem.P.str_of_int hz ⟨.str _, H, I.tok _, ⟨_, rfl⟩, q⟩
/-- len of a str, a bytes, a list, a tuple -/
def LenV (K : PySem.W.Frag) (x : V) (H : Hp) (n : Nat) : Prop :=
  match x with
  | .str y => y.length ≤ sizeLine ∧ n = y.length
  | .byt y => y.size ≤ sizeLine ∧ n = y.size
  | .ref p => (∃ xs, SqL K H p xs ∧ n = xs.length) ∨ ∃ xs, SqT K H p xs ∧ n = xs.length
  | _ => False
end
end L2

namespace L2
open PySem PySem.Spec PyProof.Rows

/-! ### an instance, its attributes a map -/
structure ObjM (h : Heap) (x dx C : Addr) (mA : Str → Option Value) : Prop where
  obj : h.get? x = some (PySem.W.instObj C dx)
  ns : h.Ns1 dx mA
  ne : dx ≠ x

theorem lookIn_ns {h : Heap} {dx : Addr} {mA : Str → Option Value} (n : h.Ns1 dx mA) : ∃ od, h.get? dx = some od ∧ ∀ name, PySem.W.lookIn name od = some (mA name) := by
  obtain ⟨o, es, ep, ho, hd, hk, _, hm⟩ := n
  refine ⟨o, ho, fun name => ?_⟩
  have e := hm name
  unfold nsFind findBy at e
  rw [← Array.find?_toList] at e
  unfold PySem.W.lookIn
  rw [hd]
  dsimp only
  split
  · rename_i y q
    rw [q] at e
    exact congrArg some e
  · rename_i q
    rw [q] at e
    have a : es.toList.any (·.refKey) = false := by
      rw [List.any_eq_false]
      intro y hy
      obtain ⟨z, t, hkey⟩ := hk y (Array.mem_toList_iff.mp hy)
      simp [DictEntry.refKey, hkey]
    have a' : ¬ es.toList.any (·.refKey) = true := by rw [a]; exact Bool.false_ne_true
    rw [if_neg a']
    exact congrArg some e

theorem ObjM.look {h : Heap} {x dx C : Addr} {mA : Str → Option Value} (I : ObjM h x dx C mA) : ∃ od, PySem.W.InstAt h x (PySem.W.instObj C dx) C (some od) ∧ ∀ name, PySem.W.lookIn name od = some (mA name) :=
  let ⟨od, ho, hl⟩ := lookIn_ns I.ns
  ⟨od, ⟨I.obj, rfl, rfl, ho⟩, hl⟩

section
variable {prog : Program} {w : World} {A : Around} {E : Value → Shared → Prop} {s : Shared} {K : PySem.W.Frag} {x dx C f : Addr} {mA : Str → Option Value} {name : Str} {v : Value}





end

/-! ### the attributes as a list of pairs -/
def putF (f : Str) (v : V) : List (Str × V) → List (Str × V)
  | [] => [(f, v)]
  | (g, x) :: r => if g = f then (g, v) :: r else (g, x) :: putF f v r

theorem RelO.some_of {v : V} {o : Option Value} (r : RelO (some v) o) : ∃ u, o = some u ∧ RelV v u := by
  cases o with
  | none => exact (show False from r).elim
  | some u => exact ⟨u, rfl, r⟩
theorem handed_of {v : V} {u : Value} (r : RelV v u) : PySem.W.handedIn u = true := by
  cases v with
  | non => cases (show u = Value.none from r); rfl
  | bl b => cases (show u = Value.bool b from r); rfl
  | int i => obtain ⟨t, e⟩ := (show ∃ t, u = Value.int i t from r); cases e; rfl
  | str x => obtain ⟨t, e⟩ := (show ∃ t, u = Value.str x t from r); cases e; rfl
  | byt b => obtain ⟨t, e⟩ := (show ∃ t, u = Value.bytes b t from r); cases e; rfl
  | flt b => obtain ⟨t, e⟩ := (show ∃ t, u = Value.float b t from r); cases e; rfl
  | ref a => cases (show u = Value.ref a from r); rfl
  | ty n => cases (show u = Value.type n from r); rfl

section
variable {P : Program} {w : World} {H H' : Hp} {h h' : Heap} {a C dx : Addr} {fs fs' : List (Str × V)}
theorem ins_get (hok : HOk P w H h) (e : H a = some (.ins C dx fs)) : ∃ mA, ObjM h a dx C mA ∧ (∀ f, RelO (fs.lookup f) (mA f)) ∧ PySem.Within mA (fs.map (·.1)) ∧ fs.length ≤ 1000 ∧ H dx = some (.own a) := by
  obtain ⟨d, z, ne, ob, mA, n, r, q⟩ := (show ObjOk P w H h a (.ins C dx fs) from hok a _ e)
  exact ⟨mA, ⟨ob, n, ne⟩, r, q, z, d⟩
end

/-! ### what of the text a class must have -/
structure Cls (K : PySem.W.Frag) (C : Addr) : Prop where
  pg : PySem.W.plainGet K C Str.empty = true
  hd : PySem.W.hasDictIn K C = true
  po : PySem.W.plainOver K C = true
  sa : PySem.W.findIn K (.ref C) "__setattr__" = some (some (.builtin "object.__setattr__"))
theorem Cls.get {K : PySem.W.Frag} {C : Addr} (c : Cls K C) (f : Str) : PySem.W.plainGet K C f = true := c.pg
/-- no class of it has the name -/
def NoAttr (K : PySem.W.Frag) (C : Addr) (f : Str) : Prop := PySem.W.findIn K (.ref C) f = some none
/-- a constant of the class -/
structure Con (K : PySem.W.Frag) (C : Addr) (f : Str) (v : V) (u : Value) : Prop where
  at_ : PySem.W.findIn K (.ref C) f = some (some u)
  rel : RelV v u
  get : PySem.W.specialIn K u "__get__" = some none
  cp : PySem.W.copiedNames.contains f = false
/-- a method: a plain def of the class or of one above it -/
structure Meth (K : PySem.W.Frag) (C : Addr) (m : Str) (f : Addr) : Prop where
  at_ : PySem.W.findIn K (.ref C) m = some (some (.ref f))
  fn : PySem.W.isFn K (.ref f) = true
  kp : PySem.W.keepIn K (.ref f) = true

section
variable {X : Cx} {pins : List (Addr × Obj)} {σ : St} {H : Hp} {s : Shared} {a C dx : Addr} {fs : List (Str × V)} {f : Str} {v : V} {A : Around} {E : Value → Shared → Prop}






/-- e.f where nothing but the object is asked: through attributeBase (super) and the last hold -/
theorem attr_of {prog : Program} {w : World} {env : Env} {e : Expr} {f : Str} {pos : Pos} {s : Shared} {Q : Value → Shared → Prop} (hb : attributeBase e f env (eval e env) = eval e env)
    (h : wpAny (model prog w) A (eval e env) (fun o s₁ => wpAny (model prog w) A (getAttr o f true) Q E s₁) E s) : wpAny (model prog w) A (eval (.Attribute e f pos) env) Q E s :=
  Attribute_any_ h (by rw [arm_eval_Attribute, hb])
end

/-! ### readings and rules -/
/-- e.f, an attribute of the instance -/
def tFld (K : PySem.W.Frag) (ta : TE) (f : Str) : TE := fun σ H Q => ta σ H fun x H1 => ∃ a C dx fs v, x = .ref a ∧ H1 a = some (.ins C dx fs) ∧ Cls K C ∧ NoAttr K C f ∧ fs.lookup f = some v ∧ Q v H1
/-- e.f, a constant of the class -/
def tCon (K : PySem.W.Frag) (ta : TE) (f : Str) : TE := fun σ H Q => ta σ H fun x H1 => ∃ a C dx fs v u, x = .ref a ∧ H1 a = some (.ins C dx fs) ∧ Cls K C ∧ Con K C f v u ∧ fs.lookup f = none ∧ Q v H1
/-- e.f = value -/
def sFld (K : PySem.W.Frag) (ta tv : TE) (f : Str) : TS := fun D σ H => tv σ H fun y H1 => ta σ H1 fun x H2 => ∃ a C dx fs, x = .ref a ∧ H2 a = some (.ins C dx fs) ∧ Cls K C ∧ NoAttr K C f ∧ fs.length < 1000 ∧
  D.nx σ (upd H2 a (.ins C dx (putF f y fs)))
/-- an augmented operator on two values -/
def InOp (X : Cx) (op : Operator) (rd : V → V → Hp → VK → Prop) : Prop :=
  ∀ (pins : List (Addr × Obj)) (s : Shared) (σ : St) (H : Hp) (x y : V) (u v : Value) (Q : VK), Inv X pins σ H s → RelV x u → RelV y v → rd x y H Q → wpAny (model X.prog X.w) X.A (inplaceOp op u v) (EP X pins σ Q) X.xe s
/-- e.f op= value -/
def sFldAug (K : PySem.W.Frag) (ta tv : TE) (rd : V → V → Hp → VK → Prop) (f : Str) : TS := fun D σ H => ta σ H fun x H1 => ∃ a C dx fs v, x = .ref a ∧ H1 a = some (.ins C dx fs) ∧ Cls K C ∧ NoAttr K C f ∧ fs.lookup f = some v ∧
  tv σ H1 fun y H2 => rd v y H2 fun z H3 => ∃ dx' fs', H3 a = some (.ins C dx' fs') ∧ fs'.length < 1000 ∧ D.nx σ (upd H3 a (.ins C dx' (putF f z fs')))

section
variable {X : Cx} {o e value : Expr} {f : Str} {pos pos' tpos : Pos} {ta tv : TE}
def rAdd : V → V → Hp → VK → Prop := fun x y H Q => ∃ i j, x = .int i ∧ y = .int j ∧ Q (.int (i + j)) H
def rSub : V → V → Hp → VK → Prop := fun x y H Q => ∃ i j, x = .int i ∧ y = .int j ∧ Q (.int (i - j)) H

end

/-! ### isinstance -/
section
variable {X : Cx} {pins : List (Addr × Obj)} {σ : St} {H : Hp} {s : Shared} {A : Around} {E : Value → Shared → Prop} {Q : Value → Shared → Prop} {c : Value} {b : Bool}
/-- the type of a value, as the fragment's deciders take it; for an instance its class -/
inductive TyOf (K : PySem.W.Frag) (H : Hp) : V → Value → Prop where
  | non : TyOf K H .non (.type "NoneType")
  | bl (x : Bool) : TyOf K H (.bl x) (.type "bool")
  | int (i : Int) : TyOf K H (.int i) (.type "int")
  | str (x : Str) : TyOf K H (.str x) (.type "str")
  | flt (x : UInt64) : TyOf K H (.flt x) (.type "float")
  | lst {a : Addr} {xs : List V} (e : H a = some (.lst xs)) : TyOf K H (.ref a) (.type "list")
  | frz {a : Addr} {o : Obj} {xs : List V} (e : H a = some (.frz o (.lst xs))) : TyOf K H (.ref a) (.type "list")
  | tup {a : Addr} {xs : List V} (e : H a = some (.tup xs)) : TyOf K H (.ref a) (.type "tuple")
  | dK {a : Addr} {kvs : List (Key × V)} (e : H a = some (.dK kvs)) : TyOf K H (.ref a) (.type "dict")
  | dT {a : Addr} {kvs : List (List Key × V)} (e : H a = some (.dT kvs)) : TyOf K H (.ref a) (.type "dict")
  | ins {a C dx : Addr} {fs : List (Str × V)} (e : H a = some (.ins C dx fs)) (cl : Cls K C) (ha : PySem.W.findIn K (.ref C) "__class__" = some (some (.builtin "object.__class__")))
      (hn : PySem.W.specialIn K (.builtin "object.__class__") "__get__" = some (some (.builtin "getset_descriptor.__get__"))) (htk : PySem.W.takesIn K (.builtin "object.__class__") = some true)
      (hm : PySem.W.mroIn K C (.type "object") = some true) : TyOf K H (.ref a) (.ref C)
/-- isinstance(x, c) for one class c, a built-in or an own one: kitOne's answer -/
theorem isinst_ok {x : V} {u t : Value} (I : Inv X pins σ H s) (rx : RelV x u) (ty : TyOf X.K H x t) (e : PySem.W.kitOne X.K t c = some b) (h : ∀ tk, Q (.bool b) { s with toks := tk }) :
    wpAny (model X.prog X.w) A (call (.builtin "isinstance") [u, c]) Q E s := by
  cases ty with
  | non => cases (show u = Value.none from rx); exact PySem.W.kia_one PySem.W.kitx_none I.kIn True.intro e (fun z => nomatch z) h
  | bl y => cases (show u = Value.bool y from rx); exact PySem.W.kia_one PySem.W.kitx_bool I.kIn True.intro e (fun z => nomatch z) h
  | int i => obtain ⟨t, q⟩ := (show ∃ t, u = Value.int i t from rx); cases q; exact PySem.W.kia_one PySem.W.kitx_int I.kIn True.intro e (fun z => nomatch z) h
  | str y => obtain ⟨t, q⟩ := (show ∃ t, u = Value.str y t from rx); cases q; exact PySem.W.kia_one PySem.W.kitx_str I.kIn True.intro e (fun z => nomatch z) h
  | flt y => obtain ⟨t, q⟩ := (show ∃ t, u = Value.float y t from rx); cases q; exact PySem.W.kia_one PySem.W.kitx_float I.kIn True.intro e (fun z => nomatch z) h
  | @lst a xs ea =>
    cases (show u = Value.ref a from rx)
    obtain ⟨_, _, n, _, h1⟩ := (show ObjOk X.prog X.w H s.heap a (.lst xs) from I.hok a _ ea)
    exact PySem.W.kia_one PySem.W.kitx_list I.kIn ⟨_, h1, rfl⟩ e (fun z => nomatch z) h
  | @frz a ob xs ea =>
    cases (show u = Value.ref a from rx)
    obtain ⟨_, _, _, n, _, h1⟩ := (show ObjOk X.prog X.w H s.heap a (.frz ob (.lst xs)) from I.hok a _ ea)
    exact PySem.W.kia_one PySem.W.kitx_list I.kIn ⟨_, h1, rfl⟩ e (fun z => nomatch z) h
  | @tup a xs ea =>
    cases (show u = Value.ref a from rx)
    obtain ⟨_, _, _, p⟩ := (show ObjOk X.prog X.w H s.heap a (.tup xs) from I.hok a _ ea)
    obtain ⟨o, h1, h2, _⟩ := p
    exact PySem.W.kia_one PySem.W.kitx_tuple I.kIn ⟨o, h1, h2⟩ e (fun z => nomatch z) h
  | @dK a kvs ea =>
    cases (show u = Value.ref a from rx)
    obtain ⟨_, _, vs, _, p⟩ := (show ObjOk X.prog X.w H s.heap a (.dK kvs) from I.hok a _ ea)
    obtain ⟨o, es, ep, h1, h2, _⟩ := p
    exact PySem.W.kia_one PySem.W.kitx_dict I.kIn ⟨o, h1, h2.1⟩ e (fun z => nomatch z) h
  | @dT a kvs ea =>
    cases (show u = Value.ref a from rx)
    obtain ⟨_, _, xs, _, o, es, ep, h1, h2, _⟩ := (show ObjOk X.prog X.w H s.heap a (.dT kvs) from I.hok a _ ea)
    exact PySem.W.kia_one PySem.W.kitx_dict I.kIn ⟨o, h1, h2.1⟩ e (fun z => nomatch z) h
  | @ins a C dx fs ea cl ha hn htk hm =>
    cases (show u = Value.ref a from rx)
    obtain ⟨mA, O, _⟩ := ins_get I.hok ea
    obtain ⟨od, J, _⟩ := O.look
    exact PySem.W.kia_one (PySem.W.kitx_own (cl.get _) cl.hd ha hn htk hm) I.kIn J e (fun z => nomatch z) h
end
end L2

namespace L2
open PySem PySem.Spec PyProof.Rows

/-! ### room -/
structure Room (k : Nat) (A : Around) : Prop where
  hd : A.handled = none
  dp : A.depth + 3 * k + 5 < recursionLimit
  un : A.units + 16 * k + 200 < cLine
  gd : A.guards = some []
theorem Room.mono {j k : Nat} {A : Around} (r : Room k A) (h : j ≤ k) : Room j A := ⟨r.hd, by have := r.dp; omega, by have := r.un; omega, r.gd⟩
theorem Room.deeper {k : Nat} {A : Around} (r : Room (k + 1) A) (env : Env) : Room k (A.deeper env) :=
  ⟨r.hd, by have := r.dp; show A.depth + 1 + 3 * k + 5 < _; omega, by have := r.un; show A.units + 3 + 16 * k + 200 < _; omega, r.gd⟩
theorem make_depth {A : Around} {C : Addr} {us : List Value} {kw : List (Str × Value)} : (A.under (.builtin "type.__call__" ⟨.ref C :: us, kw⟩)).depth = A.depth + 1 := by
  first | rfl | simp [Around.under, Code.weight, Code.isCreation, Code.isGuard, Code.isCaller, Code.frames, Code.isFrame, guardIds]
theorem make_units {A : Around} {C : Addr} {us : List Value} {kw : List (Str × Value)} : (A.under (.builtin "type.__call__" ⟨.ref C :: us, kw⟩)).units = A.units + 1 := by
  first | rfl | simp [Around.under, Code.cUnits, Code.frames, Code.isFrame]
theorem make_guards {A : Around} {C : Addr} {us : List Value} {kw : List (Str × Value)} : (A.under (.builtin "type.__call__" ⟨.ref C :: us, kw⟩)).guards = A.guards := by
  first | rfl | (cases h : A.guards <;> simp [Around.under, Code.guards, Code.isGuard, guardIds, h]; done)
theorem Room.make {k : Nat} {A : Around} (r : Room (k + 1) A) (C : Addr) (us : List Value) (kw : List (Str × Value)) : Room k (A.under (.builtin "type.__call__" ⟨.ref C :: us, kw⟩)) :=
  ⟨r.hd, by have := r.dp; rw [make_depth]; omega, by have := r.un; rw [make_units]; omega, make_guards.trans r.gd⟩
theorem Room.depth {k : Nat} {A : Around} (r : Room k A) : A.depth < recursionLimit := by have := r.dp; omega
theorem Room.units {k : Nat} {A : Around} (r : Room k A) : A.units + 64 < cLine := by have := r.un; omega

/-! ### argument lists and displays -/
def tNil : TA := fun _ H Q => Q [] H
def tCons (ta : TE) (tr : TA) : TA := fun σ H Q => ta σ H fun x H1 => tr σ H1 fun xs H2 => Q (x :: xs) H2
section
variable {X : Cx} {e : Expr} {es : List Expr} {te : TE} {t : TA} {pos : Pos}
theorem pa_nil : PA X [] tNil := fun _ _ _ _ H Q I h => Calls.spliced_nil ⟨[], H, I, .nil, h⟩
theorem pa_cons (ha : PE X e te) (hr : PA X es t) (hs : starEach (e :: es) X.env = (false, eval e X.env) :: starEach es X.env := by rfl) : PA X (e :: es) (tCons te t) := by
  intro pos pins s σ H Q I h
  rw [hs]
  show wpAny _ _ (spliced ((false, eval e X.env) :: backTo pos (starEach es X.env))) _ _ s
  refine Calls.spliced_cons (thn (ha pins s σ H _ I h) fun u s1 ⟨x, H1, I1, r1, q1⟩ => ?_)
  exact thn (hr pos pins s1 σ H1 _ I1 q1) fun us s2 ⟨xs, H2, I2, r2, q2⟩ => ⟨x :: xs, H2, I2, .cons r1 r2, q2⟩

/-- a tuple, a list of written items -/
def tTup (t : TA) : TE := fun σ H Q => t σ H fun xs H1 => xs.length ≤ sizeLine ∧ ∀ p, H1 p = none → Q (.ref p) (upd H1 p (.tup xs))
def tLst (t : TA) : TE := fun σ H Q => t σ H fun xs H1 => xs.length ≤ sizeLine ∧ ∀ p, H1 p = none → Q (.ref p) (upd H1 p (.lst xs))
theorem pe_tup {x1} (h : PA X es t) : PE X (.Tuple es x1 pos) (tTup t) := by
  intro pins s σ H Q I hq
  refine wpAny_Tuple_spliced (thn (h pos pins s σ H _ I hq) fun us s1 ⟨xs, H1, I1, r, z, q⟩ => ⟨by rw [← r.length]; exact z, ?_⟩)
  have hf : H1 s1.heap.objs.size = none := I1.hok.fresh (Nat.le_refl _)
  refine ⟨.ref s1.heap.objs.size, upd H1 s1.heap.objs.size (.tup xs), I1.laid (t' := s1.toks) (fun b u e => Heap.get?_push_of_some _ e) (Nat.le_refl _) ?_, rfl, q _ hf⟩
  exact ⟨z, us, r, ⟨_, Heap.get?_push_size _ rfl, rfl, _, rfl⟩⟩
theorem pe_lst (h : PA X es t) : PE X (.List es pos) (tLst t) := by
  intro pins s σ H Q I hq
  refine wpAny_List_spliced (thn (h pos pins s σ H _ I hq) fun us s1 ⟨xs, H1, I1, r, z, q⟩ => ⟨by rw [← r.length]; exact z, ?_⟩)
  have hf : H1 s1.heap.objs.size = none := I1.hok.fresh (Nat.le_refl _)
  refine ⟨.ref s1.heap.objs.size, upd H1 s1.heap.objs.size (.lst xs), I1.laid (t' := s1.toks) (fun b u e => Heap.get?_push_of_some _ e) (Nat.le_refl _) ?_, rfl, q _ hf⟩
  exact ⟨z, us, 0, r, Heap.get?_push_size _ rfl⟩
end

/-! ### what a def promises -/
/-- a def's promise: the bound arguments in the parameters' order, the heap, the wanted end, the wanted exception -/
abbrev Sp := List V → Hp → VK → XK → Prop
/-- how an exception lies behind a call (file 08 gives it): the callers' frames, abstract heap and state ahead of the call, the wish, the exception, the state -/
abbrev CXT := List Env → Hp → Shared → XK → Value → Shared → Prop

/-- the state at a call -/
structure Env0 (P : Program) (w : World) (K : PySem.W.Frag) (mg : Str → Option Value) (base : Heap) (A : Around) (outer : List Env) (s : Shared) (H : Hp) : Prop where
  frames : A.frames = some outer
  mod : Mod K mg base
  bs : ∀ b o, base.get? b = some o → s.heap.get? b = some o ∧ H b = none
  bsz : base.objs.size ≤ s.heap.objs.size
  funs : s.heap.FunFrames base outer
  frf : ∀ b ∈ frs outer, H b = none
  hok : HOk P w H s.heap
  bare : AllBare s.gens
/-- a call's end -/
def CE (outer : List Env) (P : Program) (w : World) (H : Hp) (s : Shared) (Q : VK) (u : Value) (s' : Shared) : Prop :=
  ∃ v H', s'.os = s.os ∧ AllBare s'.gens ∧ Un (frs outer) [] H H' s.heap s'.heap ∧ HOk P w H' s'.heap ∧ RelV v u ∧ Q v H'
def CR (CX : CXT) (outer : List Env) (P : Program) (w : World) (H : Hp) (s : Shared) (Q : VK) (E : XK) (r : Result) (s' : Shared) : Prop :=
  match r with
  | .ok (.ret u) => CE outer P w H s Q u s'
  | .ok _ => False
  | .error e => CX outer H s E e s'
structure FnOk (P : Program) (w : World) (K : PySem.W.Frag) (mg : Str → Option Value) (base : Heap) (CX : CXT) (k : Nat) (f : Addr) (fd : FuncData) (ps : List Str) (sp : Sp) : Prop where
  len : ∀ vs H Q E, sp vs H Q E → vs.length = ps.length
  run : ∀ (A : Around) (outer : List Env) (s : Shared) (H : Hp) (args : Args) (us : List Value) (vs : List V) (Q : VK) (E : XK), Room k A → Env0 P w K mg base A outer s H → BindsTo s fd args (ps.zip us) → Vals vs us → sp vs H Q E →
    codeAny (model P w) A (.call (.ref f) args) (CR CX outer P w H s Q E) s
theorem FnOk.mono {P : Program} {w : World} {K : PySem.W.Frag} {mg : Str → Option Value} {base : Heap} {CX : CXT} {j k : Nat} {f : Addr} {fd : FuncData} {ps : List Str} {sp : Sp} (F : FnOk P w K mg base CX j f fd ps sp) (h : j ≤ k) :
    FnOk P w K mg base CX k f fd ps sp := ⟨F.len, fun A outer s H args us vs Q E hr => F.run A outer s H args us vs Q E (hr.mono h)⟩

theorem Env0.make {P : Program} {w : World} {K : PySem.W.Frag} {mg : Str → Option Value} {base : Heap} {A : Around} {outer : List Env} {s : Shared} {H : Hp} (e : Env0 P w K mg base A outer s H) (C : Addr) (us : List Value) (kw : List (Str × Value)) :
    Env0 P w K mg base (A.under (.builtin "type.__call__" ⟨.ref C :: us, kw⟩)) outer s H := ⟨by first | exact e.frames | (simpa [Around.under, Code.envs, Code.isFrame, pushEnvs] using e.frames), e.mod, e.bs, e.bsz, e.funs, e.frf, e.hok, e.bare⟩

section
variable {X : Cx} {pins : List (Addr × Obj)} {σ : St} {H : Hp} {s s' : Shared}
/-- from a body: what a callee wants -/
theorem Inv.env0 (I : Inv X pins σ H s) : Env0 X.prog X.w X.K X.mg X.base X.A X.stack s H :=
  ⟨I.ok.frames, I.ok.mod, I.bs, Nat.le_trans I.ok.bsz I.sz, I.stack, I.stkFree, I.hok, I.bare⟩
/-- behind a call -/
theorem Inv.after {Q : VK} {u : Value} (I : Inv X pins σ H s) (h : CE X.stack X.prog X.w H s Q u s') : EP X pins σ Q u s' := by
  obtain ⟨v, H', os, bare, un, hok, r, q⟩ := h
  obtain ⟨hh, g, d, t, os'⟩ := s'
  obtain rfl : os' = s.os := os
  exact ⟨v, H', I.call (h' := hh) (g' := g) (d' := d) (t' := t) (ch := []) un hok bare (fun b z => absurd z (by simp)), r, q⟩
end

/-! ### calls -/
/-- f(..): the written arguments, then the defaults dvs; E: what is wanted of an exception -/
def tCall (sp : Sp) (dvs : List V) (E : XK) (t : TA) : TE := fun σ H Q => t σ H fun vs H1 => sp (vs ++ dvs) H1 Q E
/-- o.m(..) of an instance of the class at C -/
def tMeth (C : Addr) (m : Str) (sp : Sp) (dvs : List V) (E : XK) (ta : TE) (t : TA) : TE := fun σ H Q => ta σ H fun x H1 => ∃ a dx fs, x = .ref a ∧ H1 a = some (.ins C dx fs) ∧ fs.lookup m = none ∧
  t σ H1 fun vs H2 => sp (x :: (vs ++ dvs)) H2 Q E
/-- C(..): a new instance and its dict, then __init__ -/
def tMake (C : Addr) (sp : Sp) (dvs : List V) (E : XK) (t : TA) : TE := fun σ H Q => t σ H fun vs H1 => ∀ x dx, H1 x = none → H1 dx = none → dx ≠ x →
  sp (.ref x :: (vs ++ dvs)) (upd (upd H1 dx (.own x)) x (.ins C dx [])) (fun v H2 => v = .non ∧ Q (.ref x) H2) E

/-- how the parameters are bound: us the positional arguments, kw the keywords' values by name, ds the defaults that fill up -/
def Binds (K : PySem.W.Frag) (fd : FuncData) (ps : List Str) (ds : List Value) : Prop :=
  ∀ (s : Shared) (us : List Value), K.In s.heap → (us ++ ds).length = ps.length → BindsTo s fd ⟨us, []⟩ (ps.zip (us ++ ds))
/-- every parameter is given -/
theorem Binds.all {K : PySem.W.Frag} {fd : FuncData} {ps : List Str} (h : ∀ us : List Value, us.length = ps.length → bindArgs fd ⟨us, []⟩ = pure (ps.zip us)) : Binds K fd ps [] := fun s us _ hl => by
  rw [List.append_nil] at hl ⊢
  exact .of_eq (h us hl)

/-- an exception of a callee reaches what this body wants of exceptions -/
def Passes (CX : CXT) (X : Cx) (E : XK) : Prop := ∀ (pins : List (Addr × Obj)) (σ : St) (H : Hp) (s : Shared) (e : Value) (s' : Shared), Inv X pins σ H s → CX X.stack H s E e s' → X.xe e s'

section
variable {X : Cx} {CX : CXT} {k : Nat} {f C : Addr} {fd : FuncData} {ps : List Str} {sp : Sp} {dvs : List V} {ds : List Value} {E : XK} {x m : Str} {p pos apos : Pos} {e o : Expr} {es : List Expr} {ta : TE} {t : TA}

/-- the callee runs -/
theorem run_fn {pins : List (Addr × Obj)} {σ : St} {H : Hp} {s : Shared} {Q : VK} {us : List Value} {vs : List V} (F : FnOk X.prog X.w X.K X.mg X.base CX k f fd ps sp) (hr : Room k X.A) (hb : Binds X.K fd ps ds) (hd : Vals dvs ds) (hx : Passes CX X E)
    (I : Inv X pins σ H s) (r : Vals vs us) (h : sp (vs ++ dvs) H Q E) : wpAny (model X.prog X.w) X.A (call (.ref f) us) (EP X pins σ Q) X.xe s := by
  have r2 : Vals (vs ++ dvs) (us ++ ds) := r.append hd
  have hl : (us ++ ds).length = ps.length := by rw [← r2.length]; exact F.len _ _ _ _ h
  refine wpAny_call (codeAny_mono (F.run X.A X.stack s H ⟨us, []⟩ (us ++ ds) (vs ++ dvs) Q E hr I.env0 (hb s us I.kIn hl) r2 h) fun r s' hq => ?_)
  cases r with
  | error e => exact hx pins σ H s e s' I hq
  | ok fl =>
    cases fl with
    | ret u => exact I.after hq
    | next => exact False.elim hq
    | brk => exact False.elim hq
    | cont => exact False.elim hq

theorem pe_call (F : FnOk X.prog X.w X.K X.mg X.base CX k f fd ps sp) (hr : Room k X.A) (hg : Gl X x) (hm : X.mg x = some (.ref f)) (hk : PySem.W.keepIn X.K (.ref f) = true) (hb : Binds X.K fd ps ds) (hd : Vals dvs ds) (hx : Passes CX X E)
    (ha : PA X (e :: es) t) (hdb : (x == ("__debug__" : Str)) = false := by decide) (he : starEach (e :: es) X.env = (false, eval e X.env) :: starEach es X.env := by rfl) (hpl : (backTo pos (starEach es X.env)).any (·.1) = false := by rfl) :
    PE X (.Call (.Name x p) (e :: es) [] pos) (tCall sp dvs E t) := by
  intro pins s σ H Q I h
  refine wpAny_Call_Name_kw (ld_glob I hg hm ?_ hdb)
  refine PySem.W.callWith_K (h₀ := X.base) I.ok.mod.kin hk (thn (ha pos pins s σ H _ I h) fun us s1 ⟨vs, H1, I1, r, q⟩ => ⟨I1.kIn, ?_⟩) he hpl
  exact run_fn F hr hb hd hx I1 r q
theorem pe_call0 (F : FnOk X.prog X.w X.K X.mg X.base CX k f fd ps sp) (hr : Room k X.A) (hg : Gl X x) (hm : X.mg x = some (.ref f)) (hk : PySem.W.keepIn X.K (.ref f) = true) (hb : Binds X.K fd ps ds) (hd : Vals dvs ds) (hx : Passes CX X E)
    (hdb : (x == ("__debug__" : Str)) = false := by decide) : PE X (.Call (.Name x p) [] [] pos) (tCall sp dvs E tNil) := by
  intro pins s σ H Q I h
  refine wpAny_Call_Name_kw (ld_glob I hg hm ?_ hdb)
  exact PySem.W.callWith_K0 I.kIn hk (run_fn (us := []) F hr hb hd hx I .nil h)


/-- what a class must have to be made -/
structure Mk (K : PySem.W.Frag) (C f : Addr) : Prop where
  makes : PySem.W.makesIn K C = true
  init : PySem.W.findIn K (.ref C) "__init__" = some (some (.ref f))
  fn : PySem.W.isFn K (.ref f) = true
  kp : PySem.W.keepIn K (.ref C) = true

end

/-! ### keywords -/
/-- the values of the keywords, from the left -/
def PK (X : Cx) (kws : List Keyword) (t : TA) : Prop :=
  ∀ (pos : Pos) (pins : List (Addr × Obj)) (s : Shared) (σ : St) (H : Hp) (Q : List V → Hp → Prop), Inv X pins σ H s → t σ H Q → wpAny (model X.prog X.w) X.A (evalAll ((backToKw pos (keywordEach kws X.env)).map (·.2))) (AP X pins σ Q) X.xe s
section
variable {X : Cx} {CX : CXT} {k : Nat} {f C : Addr} {fd : FuncData} {ps ks : List Str} {sp : Sp} {E : XK} {x m : Str} {p pos apos kpos : Pos} {e o : Expr} {es : List Expr} {kws : List Keyword} {te ta : TE} {t tk : TA} {nm : Option Str}

/-- how a call with keywords binds: g puts the positional values us and the keywords' values ws (names ks) in the parameters' order, defaults among them -/
structure KBinds (K : PySem.W.Frag) (fd : FuncData) (ps ks : List Str) (g : List Value → List Value → List Value) (gV : List V → List V → List V) : Prop where
  to : ∀ (s : Shared) (us ws : List Value), K.In s.heap → (g us ws).length = ps.length → BindsTo s fd ⟨us, ks.zip ws⟩ (ps.zip (g us ws))
  rel : ∀ {vs : List V} {us : List Value} {zs : List V} {ws : List Value}, Vals vs us → Vals zs ws → Vals (gV vs zs) (g us ws)
def tCallK (sp : Sp) (gV : List V → List V → List V) (E : XK) (t tk : TA) : TE := fun σ H Q => t σ H fun vs H1 => tk σ H1 fun zs H2 => sp (gV vs zs) H2 Q E
variable {g : List Value → List Value → List Value} {gV : List V → List V → List V}
end

/-! ### a def's body keeps its promise -/
/-- names: the parameters first -/
structure FnScope (N P : List Str) (sc : Scope) : Prop where
  kind : sc.kind = .function
  co : sc.isCoroutine = false
  gen : sc.isGenerator = false
  nd : N.Nodup
  pre : N.take P.length = P
  par : ∀ x ∈ P, sc.names.lookup x = some .local ∨ sc.names.lookup x = some .cell
  nofree : ∀ y ∈ sc.names, y.2 ≠ .free

theorem bindL_out {kindOf : Str → Option NameKind} {x : Str} : ∀ {binds : List (Str × Value)} {m : Str → Option Value}, (∀ v, (x, v) ∉ binds) → bindL kindOf binds m x = m x
  | [], _, _ => rfl
  | (n, v) :: r, m, h => by
    unfold bindL
    rw [bindL_out fun w hw => h w (List.mem_cons_of_mem _ hw)]
    split
    · have : x ≠ n := by rintro rfl; exact h v List.mem_cons_self
      simp [this]
    · rfl
theorem bindC_out {kindOf : Str → Option NameKind} {x : Str} : ∀ {binds : List (Str × Value)} {m : Str → Option Value}, (∀ v, (x, v) ∉ binds) → bindC kindOf binds m x = m x
  | [], _, _ => rfl
  | (n, v) :: r, m, h => by
    unfold bindC
    rw [bindC_out fun w hw => h w (List.mem_cons_of_mem _ hw)]
    split
    · rfl
    · have : x ≠ n := by rintro rfl; exact h v List.mem_cons_self
      simp [this]
theorem bindL_get {kindOf : Str → Option NameKind} {x : Str} {v : Value} : ∀ {P : List Str} {vs : List Value} {i : Nat} {m : Str → Option Value}, P.Nodup → P[i]? = some x → vs[i]? = some v → kindOf x = some .local →
    bindL kindOf (P.zip vs) m x = some v
  | [], _, _, _, _, h, _, _ => by simp at h
  | _ :: _, [], _, _, _, _, h, _ => by simp at h
  | p :: P, w :: vs, 0, m, nd, h1, h2, hk => by
    simp at h1 h2; subst h1; subst h2
    show bindL kindOf ((p, w) :: P.zip vs) m p = _
    unfold bindL
    rw [bindL_out fun v hv => (List.nodup_cons.mp nd).1 (List.of_mem_zip hv).1, if_pos hk]
    simp
  | p :: P, w :: vs, i + 1, m, nd, h1, h2, hk => by
    show bindL kindOf ((p, w) :: P.zip vs) m x = _
    unfold bindL
    exact bindL_get (i := i) (List.nodup_cons.mp nd).2 (by simpa using h1) (by simpa using h2) hk
theorem bindC_get {kindOf : Str → Option NameKind} {x : Str} {v : Value} : ∀ {P : List Str} {vs : List Value} {i : Nat} {m : Str → Option Value}, P.Nodup → P[i]? = some x → vs[i]? = some v → kindOf x ≠ some .local →
    bindC kindOf (P.zip vs) m x = some v
  | [], _, _, _, _, h, _, _ => by simp at h
  | _ :: _, [], _, _, _, _, h, _ => by simp at h
  | p :: P, w :: vs, 0, m, nd, h1, h2, hk => by
    simp at h1 h2; subst h1; subst h2
    show bindC kindOf ((p, w) :: P.zip vs) m p = _
    unfold bindC
    rw [bindC_out fun v hv => (List.nodup_cons.mp nd).1 (List.of_mem_zip hv).1, if_neg hk]
    simp
  | p :: P, w :: vs, i + 1, m, nd, h1, h2, hk => by
    show bindC kindOf ((p, w) :: P.zip vs) m x = _
    unfold bindC
    exact bindC_get (i := i) (List.nodup_cons.mp nd).2 (by simpa using h1) (by simpa using h2) hk

/-- the names' values at the entry -/
def start (N : List Str) (vs : List V) : St := vs.map some ++ List.replicate (N.length - vs.length) none

/-- the context of a def's body, at its entry; an exception leaves the frame, then lies as CX says -/
def cxOf (CX : CXT) (P : Program) (w : World) (K : PySem.W.Frag) (mg : Str → Option Value) (base : Heap) (N : List Str) (qual : Str) (scope : Scope) (f : Addr) (cd : Value) (A : Around) (outer : List Env) (s : Shared) (H : Hp) (E : XK) : Cx where
  prog := P
  w := w
  K := K
  mg := mg
  base := base
  A := A.deeper (envOfC qual scope s.heap.objs.size f cd)
  N := N
  s_0 := s
  H_0 := H
  env := envOfC qual scope s.heap.objs.size f cd
  outer := outer
  stack := envOfC qual scope s.heap.objs.size f cd :: outer
  ex := []
  calm := true
  fn := fun _ => true
  pn := []
  xe := fun e s' => wpAny (model P w) (A.deeper (envOfC qual scope s.heap.objs.size f cd)) (leaving (envOfC qual scope s.heap.objs.size f cd) e) (fun _ s'' => CX outer H s E e s'') (fun e' s'' => CX outer H s E e' s'') s'

theorem cell_has {sc : Scope} {n : Nat} {x : Str} (h : sc.names.lookup x = some .cell) : ∃ c, (cellsFrom n sc.names []).lookup x = some c := by
  have q := PySem.W.cellsFrom_some sc.names n [] (.inl h)
  exact Option.isSome_iff_exists.mp q

theorem inv_start {CX : CXT} {P : Program} {w : World} {K : PySem.W.Frag} {mg : Str → Option Value} {base : Heap} {N ps : List Str} {qual : Str} {scope : Scope} {f : Addr} {cd : Value} {A : Around} {outer : List Env} {s s1 : Shared} {H : Hp} {E : XK} {us : List Value} {vs : List V}
    (S : FnScope N ps scope) (hd : A.handled = none) (e0 : Env0 P w K mg base A outer s H) (hl : vs.length = ps.length) (r : Vals vs us)
    (x : InCallC s s.heap.objs.size (bindL (envOfC qual scope s.heap.objs.size f cd).kindOf (ps.zip us) fun _ => none) (cellsFrom (s.heap.objs.size + 1) scope.names []) (bindC (envOfC qual scope s.heap.objs.size f cd).kindOf (ps.zip us) fun _ => none) s1) :
    Inv (cxOf CX P w K mg base N qual scope f cd A outer s H E) [] (start N vs) H s1 := by
  have hpl : ps.length ≤ N.length := by have := congrArg List.length S.pre; rw [List.length_take] at this; omega
  obtain ⟨h1, tk, rfl, hk⟩ := x.done
  have noA : ∀ b : Addr, b ∉ (cxOf CX P w K mg base N qual scope f cd A outer s H E).ex := fun b z => absurd (show b ∈ ([] : List Addr) from z) (by simp)
  refine ⟨⟨e0.mod, S.kind, rfl, rfl, Nat.le_refl _, fun y z c h1 h2 => ?_, fun y hy => ?_, fun y c _ h => ?_, fun _ => hd, Around.frames_deeper e0.frames, .inr ⟨rfl, rfl⟩, fun b z => absurd z (noA b), e0.bs, e0.bsz, fun b _ _ => noA b, fun b z => absurd z (noA b), e0.funs, e0.frf⟩,
    rfl, e0.bare, Un.kept hk, ⟨_, x.toInCall.ns, fun i y v h1 h2 h3 => ?_⟩, fun y c h => ⟨_, x.cell y c h⟩, e0.hok.fresh (Nat.le_refl _), fun y c h => ?_, fun p hp => absurd (show p ∈ ([] : List (Addr × Obj)) from hp) (by simp), e0.hok.kept hk, ?_⟩
  · exact name_of_addr x.apart (PySem.mem_of_lookup h1) (PySem.mem_of_lookup h2)
  · have hy : scope.names.lookup y = some .cell ∨ scope.names.lookup y = some .free := hy
    rcases hy with hy | hy
    · exact cell_has hy
    · exact absurd rfl (S.nofree _ (PySem.mem_of_lookup hy))
  · exact Nat.le_of_lt (x.above y c (PySem.mem_of_lookup h))
  · have hi : i < vs.length := by
      unfold start at h2
      by_cases hi : i < vs.length
      · exact hi
      · rw [List.getElem?_append_right (by simpa using hi)] at h2
        rw [List.getElem?_replicate] at h2
        split at h2 <;> cases h2
    have ha : vs[i]? = some v := by
      unfold start at h2
      rw [List.getElem?_append_left (by simpa using hi), List.getElem?_map] at h2
      cases e : vs[i]? with
      | none => rw [e] at h2; cases h2
      | some a => rw [e] at h2; cases h2; rfl
    obtain ⟨u, hu, rv⟩ := r.get ha
    have hp : ps[i]? = some y := by
      rw [← S.pre, List.getElem?_take_of_lt (by omega)]; exact h1
    have ndP : ps.Nodup := by rw [← S.pre]; exact S.nd.sublist (List.take_sublist _ _)
    refine ⟨u, rv, ?_⟩
    rcases S.par y (List.mem_of_getElem? hp) with k | k
    · exact .inl ⟨k, bindL_get ndP hp hu k⟩
    · obtain ⟨c, e⟩ := cell_has (n := s.heap.objs.size + 1) k
      refine .inr ⟨.inl k, c, e, ?_⟩
      have q := x.cell y c e
      rw [bindC_get ndP hp hu (by show scope.names.lookup y ≠ _; rw [k]; decide)] at q
      exact q
  · exact e0.hok.fresh (Nat.le_of_lt (x.above y c (PySem.mem_of_lookup h)))
  · unfold start
    show _ = N.length
    rw [List.length_append, List.length_map, List.length_replicate]
    omega

/-- THE RULE: a def (or a method) of the text, by its body. The body's reading t is chosen for each entry; it is run at the parameters' values -/
theorem fn_of {CX : CXT} {P : Program} {w : World} {K : PySem.W.Frag} {mg : Str → Option Value} {base : Heap} {k : Nat} {f : Addr} {name qual : Str} {params : Arguments} {body : List Stmt} {scope : Scope} {dV kV doc pm cdv ct oc : Value} {an od : Option Addr}
    {osl : Array (Option Value)} {N ps : List Str} {sp : Sp} (lk : K.lookup f = some ⟨oc, od, .func (PySem.W.fnOf name qual params body scope dV kV doc pm an cdv ct), osl⟩) (hcd : PySem.W.codeIn K cdv qual = true) (S : FnScope N ps scope)
    (len : ∀ vs H Q E, sp vs H Q E → vs.length = ps.length)
    (hbody : ∀ (A : Around) (outer : List Env) (s : Shared) (H : Hp) (vs : List V) (Q : VK) (E : XK), Room k (A.deeper (envOfC qual scope s.heap.objs.size f cdv)) → sp vs H Q E →
      ∃ t, PSs (cxOf CX P w K mg base N qual scope f cdv A outer s H E) body t ∧ t { nx := fun _ H' => Q .non H', rt := Q } (start N vs) H) :
    FnOk P w K mg base CX (k + 1) f (PySem.W.fnOf name qual params body scope dV kV doc pm an cdv ct) ps sp := by
  refine ⟨len, fun A outer s H args us vs Q E hr e0 hb r hsp => ?_⟩
  have hl := len _ _ _ _ hsp
  have KX : K.In s.heap := e0.mod.kin.keeps fun b o e => (e0.bs b o e).1
  have lim : s.heap.NoLimit := e0.mod.nolimit.keeps fun b o e => (e0.bs b o e).1
  have hkind : ∀ y ∈ ps.zip us, scope.names.lookup y.1 = some .local ∨ (scope.names.lookup y.1 = some .cell ∧ ((cellsFrom (s.heap.objs.size + 1) scope.names []).lookup y.1).isSome = true) := fun ⟨n, v⟩ hy => by
    rcases S.par n (List.of_mem_zip hy).1 with q | q
    · exact .inl q
    · exact .inr ⟨q, PySem.W.cellsFrom_some _ _ _ (.inl q)⟩
  refine codeAny_call_function hr.depth (KX _ _ lk) rfl S.co S.gen rfl (PySem.W.codeRec_of KX hcd) (hb _ _ _ _ ?_)
  refine wpAny_newFunctionEnv_cells S.kind hkind fun env he s1 x => ?_
  subst he
  refine ⟨lim.keeps x.toInCall.keep, codeAny_func ?_⟩
  obtain ⟨t, ht, hq⟩ := hbody A outer s H vs Q E (hr.deeper _) hsp
  have I : Inv (cxOf CX P w K mg base N qual scope f cdv A outer s H E) [] (start N vs) H s1 := inv_start S hr.hd e0 hl r x
  refine wpAny_mono (ht [] s1 (start N vs) H _ I hq) (fun fl s' hs => ?_) fun e s' hs => hs
  have fin : ∀ {σ' : St} {H' : Hp} {v : V} {u : Value}, Inv (cxOf CX P w K mg base N qual scope f cdv A outer s H E) [] σ' H' s' → RelV v u → Q v H' → CE outer P w H s Q u s' :=
    fun {σ' H' v u} J rv q => ⟨v, H', J.os, J.bare, J.base, J.hok, rv, q⟩
  cases fl with
  | ret u =>
    obtain ⟨v, σ', H', J, rv, q⟩ := hs
    exact fin J rv q
  | next =>
    obtain ⟨σ', H', J, q⟩ := hs
    exact fin (v := V.non) (u := Value.none) J rfl q
  | brk =>
    obtain ⟨_, _, _, q⟩ := hs
    exact False.elim q
  | cont =>
    obtain ⟨_, _, _, q⟩ := hs
    exact False.elim q
end L2

namespace L2
open PySem PySem.Spec PyProof.Rows
section
variable {X : Cx} {x : Str} {p pos : Pos} {e : Expr} {es : List Expr} {t : TA} {id T : String} {r : List V → Hp → VK → Prop}

def tCB (r : List V → Hp → VK → Prop) (t : TA) : TE := fun σ H Q => t σ H fun vs H1 => r vs H1 Q
/-- f(e, ..), f a built-in function -/
theorem pe_callB (hc : CallR X (.builtin id) r) (hg : Gl X x) (hm : X.mg x = none) (hv : bootBuiltins x = some (.builtin id)) (ha : PA X (e :: es) t) (hn : x ≠ "__name__" := by decide) (hdb : (x == ("__debug__" : Str)) = false := by decide)
    (he : starEach (e :: es) X.env = (false, eval e X.env) :: starEach es X.env := by rfl) (hpl : (backTo pos (starEach es X.env)).any (·.1) = false := by rfl) : PE X (.Call (.Name x p) (e :: es) [] pos) (tCB r t) := by
  intro pins s σ H Q I h
  refine wpAny_Call_Name_kw (ld_blt I hg hm hv ?_ hn hdb)
  exact PyProof.Rows.callWith_builtin1 (thn (ha pos pins s σ H _ I h) fun us s1 ⟨vs, H1, I1, r1, q1⟩ => hc pins s1 σ H1 vs us Q I1 r1 q1) he hpl
/-- T(e, ..), T a built-in type -/
theorem pe_callTy (hc : CallR X (.type T) r) (hg : Gl X x) (hm : X.mg x = none) (hv : bootBuiltins x = some (.type T)) (ha : PA X (e :: es) t) (hn : x ≠ "__name__" := by decide) (hdb : (x == ("__debug__" : Str)) = false := by decide)
    (he : starEach (e :: es) X.env = (false, eval e X.env) :: starEach es X.env := by rfl) (hpl : (backTo pos (starEach es X.env)).any (·.1) = false := by rfl) : PE X (.Call (.Name x p) (e :: es) [] pos) (tCB r t) := by
  intro pins s σ H Q I h
  refine wpAny_Call_Name_kw (ld_blt I hg hm hv ?_ hn hdb)
  exact PyProof.Rows.callWith_type1 (thn (ha pos pins s σ H _ I h) fun us s1 ⟨vs, H1, I1, r1, q1⟩ => hc pins s1 σ H1 vs us Q I1 r1 q1) he hpl
end
end L2

namespace HT
open PySem PyProof.Rows

/-- t < u of tuples of ints -/
def lexLt : List Int → List Int → Bool
  | [], [] => false
  | [], _ :: _ => true
  | _ :: _, [] => false
  | x :: xs, y :: ys => if x = y then lexLt xs ys else decide (x < y)


section
open PySem.SeqAt
open PySem.AutoSeq1 (wpAny_loadPart')
open PySem.MeetsSeq PySem.MeetsSeq2 PySem.MeetsSeq3

end

section
variable {prog : Program} {w : World} {A : Around} {E : Value → Shared → Prop} {s : Shared}



/-! ### t[a:b], not the whole -/
/-- a slice's bound as a place among n (d where it is left out) -/
def sIx (n d : Nat) : Option Int → Nat
  | none => d
  | some v => if v < 0 then (v + (n : Int)).toNat else min v.toNat n
theorem sIx_none (n d : Nat) : sIx n d none = d := rfl
theorem sIx_nat (n d k : Nat) : sIx n d (some (k : Int)) = min k n := by
  show (if (k : Int) < 0 then ((k : Int) + (n : Int)).toNat else min (k : Int).toNat n) = min k n
  rw [if_neg (by omega), Int.toNat_natCast]
theorem sIx_le (n d : Nat) (hd : d ≤ n) (o : Option Int) : sIx n d o ≤ n := by
  cases o with
  | none => exact hd
  | some v =>
    show (if v < 0 then (v + (n : Int)).toNat else min v.toNat n) ≤ n
    by_cases hv : v < 0
    · rw [if_pos hv]; omega
    · rw [if_neg hv]; exact Nat.min_le_right _ _

end
end HT

namespace L2
open PySem PySem.Spec PyProof.Rows

/-! ### the parts of a slice -/
abbrev TO := St → Hp → (Option Int → Hp → Prop) → Prop
/-- a slice's part (left out, or an int) -/
def PO (X : Cx) (e : Option Expr) (t : TO) : Prop :=
  ∀ (pins : List (Addr × Obj)) (s : Shared) (σ : St) (H : Hp) (Q : Option Int → Hp → Prop), Inv X pins σ H s → t σ H Q →
    wpAny (model X.prog X.w) X.A (evalPart e X.env) (fun u s' => ∃ o H', Inv X pins σ H' s' ∧ IsPart u o ∧ Q o H') X.xe s
def tNoPart : TO := fun _ H Q => Q none H
def tPart (t : TE) : TO := fun σ H Q => t σ H fun x H1 => ∃ i, x = .int i ∧ Q (some i) H1


section
variable {X : Cx} {e : Expr} {te : TE} {lo hi : Option Expr} {tl th : TO} {pos p2 : Pos}

theorem po_none : PO X none tNoPart := by
  intro pins s σ H Q I h
  rw [evalPart_none]
  exact wpAny_pure ⟨none, H, I, .none, h⟩
theorem po_some (h : PE X e te) : PO X (some e) (tPart te) := by
  intro pins s σ H Q I hw
  rw [evalPart_some]
  refine thn (h pins s σ H _ I hw) fun u s1 ⟨x, H1, I1, r1, q1⟩ => ?_
  obtain ⟨i, rfl, q⟩ := q1
  obtain ⟨t, rfl⟩ := r1
  exact ⟨some i, H1, I1, .int i t, q⟩

/-- what a slice of a value is, by values: the slice object stands at sl -/
def SlR (X : Cx) (r : V → Option Int → Option Int → Hp → VK → Prop) : Prop :=
  ∀ (pins : List (Addr × Obj)) (s : Shared) (σ : St) (H : Hp) (x : V) (v vl vu : Value) (lo hi : Option Int) (sl : Addr) (Q : VK), Inv X pins σ H s → RelV x v → s.heap.IsSliceOf sl vl vu .none → IsPart vl lo → IsPart vu hi → r x lo hi H Q →
    ∃ T id, typeLookup (.type T) "__getitem__" = pure (some (.builtin id)) ∧ s.TypeIs v T ∧ wpAny (model X.prog X.w) X.A (getItem v (.ref sl)) (EP X pins σ Q) X.xe s
def tSl (r : V → Option Int → Option Int → Hp → VK → Prop) (te : TE) (tl th : TO) : TE := fun σ H Q => te σ H fun x H1 => tl σ H1 fun l H2 => th σ H2 fun u H3 => r x l u H3 Q
/-- a[lo:hi], any a -/
theorem pe_slice {r : V → Option Int → Option Int → Hp → VK → Prop} (hr : SlR X r) (he : PE X e te) (hl : PO X lo tl) (hu : PO X hi th) : PE X (.Subscript e (.Slice lo hi none p2) pos) (tSl r te tl th) := by
  intro pins s σ H Q I h
  refine Subscript_ (thn (he pins s σ H _ I h) fun v s1 ⟨x, H1, I1, r1, q1⟩ => ?_)
  refine wpAny_Slice (thn (hl pins s1 σ H1 _ I1 q1) fun vl s2 ⟨l, H2, I2, pl, q2⟩ => thn (hu pins s2 σ H2 _ I2 q2) fun vu s3 ⟨u, H3, I3, pu, q3⟩ => ?_)
  rw [evalPart_none]
  refine wpAny_pure ?_
  have I4 : Inv X pins σ H3 { s3 with heap := s3.heap.push { cls := .type "slice", data := .fields #[vl, vu, .none] } } := I3.kept (t' := s3.toks) fun b ob q => Heap.get?_push_of_some _ q
  obtain ⟨T, id, hT, ht, hg⟩ := hr pins { s3 with heap := s3.heap.push { cls := .type "slice", data := .fields #[vl, vu, .none] } } σ H3 x v vl vu l u s3.heap.objs.size Q I4 r1 (Heap.IsSliceOf.new ..) pl pu q3
  show wpAny (model X.prog X.w) X.A (subscriptTail e (.Slice lo hi none p2) v (.ref s3.heap.objs.size)) (EP X pins σ Q) X.xe { s3 with heap := s3.heap.push { cls := .type "slice", data := .fields #[vl, vu, .none] } }
  exact tail_any (ops := [.ref s3.heap.objs.size, v]) ht hT hg (by with_unfolding_all rfl)

/-- the items of xs[lo:hi] -/
def cutV (xs : List V) (lo hi : Option Int) : List V := (xs.drop (HT.sIx xs.length 0 lo)).take (HT.sIx xs.length xs.length hi - HT.sIx xs.length 0 lo)
theorem cutV_length (xs : List V) (lo hi : Option Int) : (cutV xs lo hi).length ≤ xs.length := by
  unfold cutV
  rw [List.length_take, List.length_drop]
  omega
/-- t[lo:hi], not the whole of it (the whole would be t itself) -/
def rSlT (K : PySem.W.Frag) : V → Option Int → Option Int → Hp → VK → Prop := fun x lo hi H Q => ∃ a xs, x = .ref a ∧ SqT K H a xs ∧
  ¬ (HT.sIx xs.length 0 lo = 0 ∧ HT.sIx xs.length xs.length hi = xs.length) ∧ ∀ p, H p = none → Q (.ref p) (upd H p (.tup (cutV xs lo hi)))

/-! ### t < u, t + u -/
def rLtT (K : PySem.W.Frag) : R2 := fun x y H Q => ∃ a b ns ms, x = .ref a ∧ y = .ref b ∧ SqT K H a (ns.map V.int) ∧ SqT K H b (ms.map V.int) ∧ Q (.bl (HT.lexLt ns ms)) H
/-- t + u, t not empty: u empty gives t itself -/
def rCatT (K : PySem.W.Frag) : R2 := fun x y H Q => ∃ a b xs ys, x = .ref a ∧ y = .ref b ∧ SqT K H a xs ∧ SqT K H b ys ∧ xs ≠ [] ∧ xs.length + ys.length ≤ sizeLine ∧
  (ys = [] → Q (.ref a) H) ∧ (ys ≠ [] → ∀ p, H p = none → Q (.ref p) (upd H p (.tup (xs ++ ys))))
end
end L2

namespace L2
open PySem PySem.Spec PyProof.Rows

/-! ### places -/
/-- the place that an index of any sign means -/
def ixN (n : Nat) (i : Int) : Option Nat := if 0 ≤ i then (if i < n then some i.toNat else none) else if -(n : Int) ≤ i then some (i + n).toNat else none
def atI {α : Type} (xs : List α) (i : Int) : Option α := (ixN xs.length i).bind fun j => xs[j]?
theorem ixN_seq {n : Nat} {i : Int} {j : Nat} (h : ixN n i = some j) : seqIndex? i n = some j ∧ j < n ∧ -(n : Int) ≤ i ∧ i < n := by
  unfold ixN at h
  by_cases h0 : 0 ≤ i
  · rw [if_pos h0] at h
    by_cases h1 : i < n
    · rw [if_pos h1] at h
      have e : i.toNat = j := Option.some.inj h
      exact ⟨by rw [seqIndex_of h0 h1, e], by omega, by omega, h1⟩
    · rw [if_neg h1] at h; cases h
  · rw [if_neg h0] at h
    by_cases h1 : -(n : Int) ≤ i
    · rw [if_pos h1] at h
      have e : (i + n).toNat = j := Option.some.inj h
      exact ⟨by rw [seqIndex_neg (by omega) h1, e], by omega, h1, by omega⟩
    · rw [if_neg h1] at h; cases h
theorem atI_get {α : Type} {xs : List α} {i : Int} {v : α} (h : atI xs i = some v) : ∃ j, seqIndex? i xs.length = some j ∧ xs[j]? = some v ∧ j < xs.length ∧ -(xs.length : Int) ≤ i ∧ i < xs.length := by
  unfold atI at h
  cases e : ixN xs.length i with
  | none => rw [e] at h; cases h
  | some j =>
    rw [e] at h
    obtain ⟨h1, h2, h3, h4⟩ := ixN_seq e
    exact ⟨j, h1, h, h2, h3, h4⟩
theorem atI_nat {α : Type} {xs : List α} {j : Nat} {v : α} (h : xs[j]? = some v) : atI xs (j : Int) = some v := by
  have hj : j < xs.length := (List.getElem?_eq_some_iff.mp h).1
  have e : ixN xs.length (j : Int) = some j := by
    unfold ixN
    rw [if_pos (by omega), if_pos (by omega)]; simp
  unfold atI; rw [e]; exact h

/-! ### what may be subscripted -/
/-- what stands as an index of a plain subscript -/
def PlainIx (b : Expr) : Prop := ∀ o i, subscripted b false o i = operate [o, i] (getItem o i)
/-- a subscript by values -/
def IxR (X : Cx) (r : R2) : Prop :=
  ∀ (value slice : Expr) (pins : List (Addr × Obj)) (s : Shared) (σ : St) (H : Hp) (x y : V) (v u : Value) (Q : VK), Inv X pins σ H s → RelV x v → RelV y u → r x y H Q →
    subscripted slice false v u = operate [v, u] (getItem v u) → wpAny (model X.prog X.w) X.A (subscriptTail value slice v u) (EP X pins σ Q) X.xe s
/-- a call of a builtin's method by values: the receiver, the arguments -/
def MtR (X : Cx) (id : String) (r : V → List V → Hp → VK → Prop) : Prop :=
  ∀ (pins : List (Addr × Obj)) (s : Shared) (σ : St) (H : Hp) (x : V) (xs : List V) (v : Value) (us : List Value) (Q : VK), Inv X pins σ H s → RelV x v → Vals xs us → r x xs H Q →
    wpAny (model X.prog X.w) X.A (call (.builtin id) (v :: us)) (EP X pins σ Q) X.xe s
section
variable {X : Cx} {a b : Expr} {ta tb : TE} {pos : Pos}
/-- a[b] -/
theorem pe_ix {r : R2} (hr : IxR X r) (ha : PE X a ta) (hb : PE X b tb) (hs : PlainIx b) : PE X (.Subscript a b pos) (tOp r ta tb) := by
  intro pins s σ H Q I h
  exact Subscript_ (binT ha hb I h fun v u s2 x y H2 I2 rx ry q => hr a b pins s2 σ H2 x y v u Q I2 rx ry q (hs _ _))

def rIxL (K : PySem.W.Frag) : R2 := fun x y H Q => ∃ p xs i v, x = .ref p ∧ y = .int i ∧ SqL K H p xs ∧ atI xs i = some v ∧ Q v H
def rIxT (K : PySem.W.Frag) : R2 := fun x y H Q => ∃ p xs i v, x = .ref p ∧ y = .int i ∧ SqT K H p xs ∧ atI xs i = some v ∧ Q v H
def rIxS : R2 := fun x y H Q => ∃ z i c, x = .str z ∧ y = .int i ∧ z.length ≤ sizeLine ∧ atI z.cps.toList i = some c ∧ Q (.str ⟨#[c]⟩) H
theorem ix_list : IxR X (rIxL X.K) := by
  intro value slice pins s σ H x y v u Q I rx ry h hs
  obtain ⟨p, xs, i, z, rfl, rfl, hq, he, q⟩ := h
  cases rx
  obtain ⟨t, rfl⟩ := ry
  obtain ⟨its, r, pl, hz⟩ := I.list hq
  obtain ⟨j, h1, h2, h3, h4, h5⟩ := atI_get he
  obtain ⟨w, ew, rw'⟩ := r.get h2
  have hl := r.length
  have hn := line63
  have fin : EP X pins σ Q w s := ⟨z, H, I, rw', q⟩
  by_cases h0 : 0 ≤ i
  · have hj : i.toNat = j := by
      rw [seqIndex_of h0 h5] at h1
      exact Option.some.inj h1
    exact item_listR pl.isList h0 (by omega) (by rw [hj]; simpa using ew) fin hs
  · have hj : (i + (its.toArray.size : Int)).toNat = j := by
      rw [seqIndex_neg (by omega) h4] at h1
      rw [List.size_toArray, ← hl]
      exact Option.some.inj h1
    exact subscriptTail_builtinR (x := w) pl.isList.typeIs slot_list_getitem.lookup
      (wpAny_getItem_list_neg (Q := fun r s' => r = w ∧ EP X pins σ Q r s') pl.isList (by omega) (by rw [List.size_toArray] <;> omega) (by omega) (by rw [hj]; simpa using ew) ⟨rfl, fin⟩) hs
theorem ix_tup : IxR X (rIxT X.K) := by
  intro value slice pins s σ H x y v u Q I rx ry h hs
  obtain ⟨p, xs, i, z, rfl, rfl, hq, he, q⟩ := h
  cases rx
  obtain ⟨t, rfl⟩ := ry
  obtain ⟨its, r, pl, hz⟩ := I.tuple hq
  obtain ⟨j, h1, h2, h3, h4, h5⟩ := atI_get he
  obtain ⟨w, ew, rw'⟩ := r.get h2
  have hl := r.length
  have hn := line63
  have fin : EP X pins σ Q w s := ⟨z, H, I, rw', q⟩
  exact subscriptTail_builtinR (x := w) pl.typeIs slot_tuple_getitem.lookup
    (getItem_tuple (j := j) (Q := fun r s' => r = w ∧ EP X pins σ Q r s') pl (by omega) (by omega) (by rw [List.size_toArray, ← hl]; exact h1) (by simpa using ew) ⟨rfl, fin⟩) hs
theorem ix_str : IxR X rIxS := by
  intro value slice pins s σ H x y v u Q I rx ry h hs
  obtain ⟨z, i, c, rfl, rfl, hz, he, q⟩ := h
  obtain ⟨t, rfl⟩ := rx
  obtain ⟨t', rfl⟩ := ry
  obtain ⟨j, h1, h2, h3, h4, h5⟩ := atI_get he
  have hl : z.cps.toList.length = z.length := by simp [Str.length]
  rw [hl] at h1 h4 h5
  have hn := line63
  exact tail_any (typeIs_str s z t) slot_str_getitem.lookup (getItem_str (c := c) (by
    have e1 : decide (i < -(2 ^ 63 : Int)) = false := decide_eq_false (by omega)
    have e2 : decide (i ≥ 2 ^ 63) = false := decide_eq_false (by omega)
    rw [e1, e2, Bool.or_false]) (by rw [h1]; simpa using h2) ⟨.str ⟨#[c]⟩, H, I.tok _, ⟨_, rfl⟩, q⟩) hs
/-- list, tuple or str -/
def rIx (K : PySem.W.Frag) : R2 := fun x y H Q => rIxL K x y H Q ∨ rIxT K x y H Q ∨ rIxS x y H Q

/-! ### xs[i] = v, any sign -/
/-- the list's object behind a store -/
theorem mapSeq_set (its : List Value) (n j : Nat) (u : Value) : Obj.mapSeq (·.setIfInBounds j u) { cls := .type "list", data := .seq its.toArray n } = { cls := .type "list", data := .seq (its.set j u).toArray n } := by
  simp [Obj.mapSeq]
theorem Inv.lst {pins : List (Addr × Obj)} {σ : St} {H : Hp} {s : Shared} {p : Addr} {xs : List V} (I : Inv X pins σ H s) (h : H p = some (.lst xs)) :
    ∃ (its : List Value) (n : Nat), Vals xs its ∧ s.heap.get? p = some { cls := .type "list", data := .seq its.toArray n } ∧ xs.length ≤ sizeLine := by
  obtain ⟨z, its, n, r, e⟩ := I.hok p _ h
  exact ⟨its, n, r, e, z⟩
/-- the list at p is written by an update of its object -/
theorem Inv.lstUpd {pins : List (Addr × Obj)} {σ : St} {H : Hp} {s : Shared} {p : Addr} {xs ys : List V} {its its' : List Value} {n n' : Nat} {f : Obj → Obj} (I : Inv X pins σ H s) (h : H p = some (.lst xs))
    (ho : s.heap.get? p = some { cls := .type "list", data := .seq its.toArray n }) (hf : f { cls := .type "list", data := .seq its.toArray n } = { cls := .type "list", data := .seq its'.toArray n' }) (r : Vals ys its') (hz : ys.length ≤ sizeLine) (t : Nat) :
    Inv X pins σ (upd H p (.lst ys)) { s with heap := s.heap.update p f, toks := t } := by
  have e : (s.heap.update p f).get? p = some { cls := .type "list", data := .seq its'.toArray n' } := by
    rw [Heap.get?_update_self f ho (by rw [hf] <;> rfl), hf]
  refine I.write (x := p) (e := p) (by rw [h]; trivial) (.inl rfl) (fun b u hb q => (Heap.get?_update_other _ _ (Ne.symm hb)).trans q) ⟨_, e⟩ ?_
  exact ⟨hz, its', n', r, e⟩
def rSetL : V → V → V → Hp → (Hp → Prop) → Prop := fun o i v H Q => ∃ p xs k j, o = .ref p ∧ i = .int k ∧ H p = some (.lst xs) ∧ ixN xs.length k = some j ∧ Q (upd H p (.lst (xs.set j v)))
theorem set_list : PSet X rSetL := by
  intro pins s σ H o i v ov iv u Q I ro ri rv h
  obtain ⟨p, xs, k, j, rfl, rfl, hp, hj, q⟩ := h
  cases ro
  obtain ⟨t, rfl⟩ := ri
  obtain ⟨its, n, r, ho, hz⟩ := I.lst hp
  obtain ⟨h1, h2, h3, h4⟩ := ixN_seq hj
  have hl := r.length
  have hn := line63
  have I' : Inv X pins σ (upd H p (.lst (xs.set j v))) { s with heap := s.heap.update p (Obj.mapSeq (·.setIfInBounds j u)) } :=
    I.lstUpd hp ho (mapSeq_set its n j u) (r.set rv j) (by rw [List.length_set]; exact hz) s.toks
  by_cases h0 : 0 ≤ k
  · have hk : k.toNat = j := by
      rw [seqIndex_of h0 h4] at h1
      exact Option.some.inj h1
    exact PySem.W.ki_setAt ho h0 (by omega) (by rw [List.size_toArray, ← hl]; exact h4) (by rw [hk]; exact ⟨_, I', q⟩)
  · have hk : (k + (its.toArray.size : Int)).toNat = j := by
      rw [seqIndex_neg (by omega) h3] at h1
      rw [List.size_toArray, ← hl]
      exact Option.some.inj h1
    exact PySem.W.ki_setBack ho (by omega) (by rw [List.size_toArray, ← hl]; exact h3) (by omega) (by rw [hk]; exact ⟨_, I', q⟩)

/-! ### slices -/
theorem slice_bounds (lo hi : Option Int) (n : Nat) : (sliceBounds lo hi none n).1 = ((HT.sIx n 0 lo : Nat) : Int) ∧ (sliceBounds lo hi none n).2.1 = ((HT.sIx n n hi : Nat) : Int) ∧ (sliceBounds lo hi none n).2.2 = 1 := by
  refine ⟨?_, ?_, rfl⟩
  · cases lo with
    | none => simp [sliceBounds, HT.sIx]
    | some i =>
      simp only [sliceBounds, HT.sIx, Option.getD_none, show (1 : Int) > 0 by decide, if_true]
      by_cases h : i < 0
      · simp only [h, if_true] <;> omega
      · simp only [h, if_false] <;> omega
  · cases hi with
    | none => simp [sliceBounds, HT.sIx]
    | some i =>
      simp only [sliceBounds, HT.sIx, Option.getD_none, show (1 : Int) > 0 by decide, if_true]
      by_cases h : i < 0
      · simp only [h, if_true] <;> omega
      · simp only [h, if_false] <;> omega
theorem slicePick_cut (its : List Value) (lo hi : Option Int) : slicePick its.toArray lo hi none = ((its.drop (HT.sIx its.length 0 lo)).take (HT.sIx its.length its.length hi - HT.sIx its.length 0 lo)).toArray := by
  obtain ⟨h1, h2, h3⟩ := slice_bounds lo hi its.toArray.size
  unfold slicePick
  rw [h1, h2, h3]
  simp only [sliceRange_one, pick_run, List.size_toArray] <;> rfl
/-- xs[lo:hi] of a list: a new list -/
def rSlL (K : PySem.W.Frag) : V → Option Int → Option Int → Hp → VK → Prop := fun x lo hi H Q => ∃ a xs, x = .ref a ∧ SqL K H a xs ∧ ∀ p, H p = none → Q (.ref p) (upd H p (.lst (cutV xs lo hi)))
theorem sl_list : SlR X (rSlL X.K) := by
  intro pins s σ H x v vl vu lo hi sl Q I rx hs pl pu h
  obtain ⟨a, xs, rfl, hx, q⟩ := h
  cases rx
  obtain ⟨its, r, ht, hz⟩ := I.list hx
  have hlen := r.length
  refine ⟨"list", _, slot_list_getitem.lookup, ht.isList.typeIs, ?_⟩
  refine wpAny_getItem_list_slice ht.isList hs pl pu .none (by simp) ?_ (by rw [List.size_toArray] <;> omega)
  rw [slicePick_cut, ← hlen]
  refine ⟨.ref s.heap.objs.size, _, I.laid (t' := s.toks) (o := .lst (cutV xs lo hi)) (fun b ob q => Heap.get?_push_of_some _ q) (Nat.le_refl _) ?_, rfl, q _ (I.hok.fresh (Nat.le_refl _))⟩
  exact ⟨Nat.le_trans (cutV_length xs lo hi) hz, _, 0, (r.drop (HT.sIx xs.length 0 lo)).take (HT.sIx xs.length xs.length hi - HT.sIx xs.length 0 lo), Heap.get?_push_size _ rfl⟩

/-! ### in, not in: flat items -/
def flatV : V → Bool
  | .non => true
  | .bl _ => true
  | .int _ => true
  | .str _ => true
  | _ => false
/-- == of flat values -/
def eqV : V → V → Bool
  | .non, .non => true
  | .bl a, .bl b => a == b
  | .bl a, .int b => (if a then 1 else 0) == b
  | .int a, .bl b => a == (if b then 1 else 0)
  | .int a, .int b => a == b
  | .str a, .str b => a == b
  | _, _ => false
theorem eqAt_V {A : Around} {s : Shared} {y x : V} {u v : Value} (ry : RelV y u) (rx : RelV x v) (fy : flatV y = true) (fx : flatV x = true) : SeqAt.EqAt A s u v (eqV y x) := by
  cases y with
  | non =>
    cases ry
    cases x with
    | non => cases rx; exact SeqAt.EqAt.same _
    | bl b => cases rx; exact SeqAt.EqAt.none_bool b
    | int b => obtain ⟨t, rfl⟩ := rx; exact SeqAt.EqAt.none_int b t
    | str b => obtain ⟨t, rfl⟩ := rx; exact SeqAt.EqAt.none_str b t
    | _ => exact absurd (show false = true from fx) Bool.false_ne_true
  | bl a =>
    cases ry
    cases x with
    | non => cases rx; exact SeqAt.EqAt.bool_none a
    | bl b => cases rx; exact SeqAt.EqAt.bool_bool a b
    | int b => obtain ⟨t, rfl⟩ := rx; exact SeqAt.EqAt.bool_int a b t
    | str b => obtain ⟨t, rfl⟩ := rx; exact SeqAt.EqAt.bool_str a b t
    | _ => exact absurd (show false = true from fx) Bool.false_ne_true
  | int a =>
    obtain ⟨t', rfl⟩ := ry
    cases x with
    | non => cases rx; exact SeqAt.EqAt.int_none a t'
    | bl b => cases rx; exact SeqAt.EqAt.int_bool a t' b
    | int b => obtain ⟨t, rfl⟩ := rx; exact SeqAt.EqAt.int_int a t' b t
    | str b => obtain ⟨t, rfl⟩ := rx; exact SeqAt.EqAt.int_str a t' b t
    | _ => exact absurd (show false = true from fx) Bool.false_ne_true
  | str a =>
    obtain ⟨t', rfl⟩ := ry
    cases x with
    | non => cases rx; exact SeqAt.EqAt.str_none a t'
    | bl b => cases rx; exact SeqAt.EqAt.str_bool a t' b
    | int b => obtain ⟨t, rfl⟩ := rx; exact SeqAt.EqAt.str_int a t' b t
    | str b => obtain ⟨t, rfl⟩ := rx; exact SeqAt.EqAt.str_str a t' b t
    | _ => exact absurd (show false = true from fx) Bool.false_ne_true
  | _ => exact absurd (show false = true from fy) Bool.false_ne_true
/-- the items' answers, read off the values (a value's own answer does not lean on its token) -/
def eqU (x : V) (u : Value) : Bool := match u with
  | .none => eqV .non x
  | .bool b => eqV (.bl b) x
  | .int i _ => eqV (.int i) x
  | .str z _ => eqV (.str z) x
  | _ => false
theorem eqU_of {x y : V} {u : Value} (r : RelV y u) (f : flatV y = true) : eqU x u = eqV y x := by
  cases y with
  | non => cases r; rfl
  | bl b => cases r; rfl
  | int i => obtain ⟨t, rfl⟩ := r; rfl
  | str z => obtain ⟨t, rfl⟩ := r; rfl
  | _ => exact absurd (show false = true from f) Bool.false_ne_true
theorem any_eqU {x : V} : ∀ {xs : List V} {us : List Value}, Vals xs us → xs.all flatV = true → us.any (eqU x) = xs.any fun y => eqV y x
  | _, _, .nil, _ => rfl
  | y :: xs, u :: us, .cons r t, f => by
    rw [List.all_cons, Bool.and_eq_true] at f
    rw [List.any_cons, List.any_cons, eqU_of r f.1, any_eqU t f.2]
theorem mem_eqAt {A : Around} {s : Shared} {x : V} {v : Value} (rx : RelV x v) (fx : flatV x = true) : ∀ {xs : List V} {us : List Value}, Vals xs us → xs.all flatV = true → ∀ u ∈ us, SeqAt.EqAt A s u v (eqU x u)
  | _, _, .nil, _ => fun u hu => by cases hu
  | y :: xs, u :: us, .cons r t, f => fun u' hu => by
    rw [List.all_cons, Bool.and_eq_true] at f
    rcases List.mem_cons.mp hu with rfl | hu
    · rw [eqU_of r f.1]; exact eqAt_V r rx f.1 fx
    · exact mem_eqAt rx fx t f.2 u' hu
def inV (x : V) (xs : List V) : Bool := xs.any fun y => eqV y x
/-- x in a list or tuple of flat items -/
def rIn (K : PySem.W.Frag) (neg : Bool) : R2 := fun x y H Q => ∃ p xs, y = .ref p ∧ (SqL K H p xs ∨ SqT K H p xs) ∧ flatV x = true ∧ xs.all flatV = true ∧ Q (.bl (if neg then !inV x xs else inV x xs)) H
theorem op_in_seq : OpR X (compareOp .In) (rIn X.K false) := by
  intro pins s σ H x y v u Q I rx ry h
  obtain ⟨p, xs, rfl, hq, fx, fs, q⟩ := h
  cases ry
  rcases hq with hq | hq
  · obtain ⟨its, r, pl, hz⟩ := I.list hq
    refine SeqAt.in_listAt (eqU x) pl.isList (fun w hw => mem_eqAt rx fx r fs w (by simpa using hw)) ⟨.bl _, H, I, rfl, ?_⟩
    rw [show its.toArray.any (eqU x) = its.any (eqU x) by simp, any_eqU r fs]
    exact q
  · obtain ⟨its, r, pl, hz⟩ := I.tuple hq
    refine SeqAt.in_tupleAt (eqU x) pl (fun w hw => mem_eqAt rx fx r fs w (by simpa using hw)) ⟨.bl _, H, I, rfl, ?_⟩
    rw [show its.toArray.any (eqU x) = its.any (eqU x) by simp, any_eqU r fs]
    exact q

/-! ### len, list(x), tuple(x) of any list or tuple that is read -/
theorem call_len_seq : CallR X (.builtin "len") (fun xs H Q => ∃ p ys, xs = [.ref p] ∧ (SqL X.K H p ys ∨ SqT X.K H p ys) ∧ Q (.int ys.length) H) := by
  intro pins s σ H xs us Q I r h
  obtain ⟨p, ys, rfl, hq, q⟩ := h
  obtain ⟨u, rfl, rx⟩ := vals1 r
  cases rx
  have hn := line63
  rcases hq with hq | hq
  · obtain ⟨its, r', pl, hz⟩ := I.list hq
    have hlen := r'.length
    exact Calls.call_len_list pl.isList (by simp only [List.size_toArray] <;> omega) ⟨.int ys.length, H, I.tok _, ⟨s.toks + 1, by rw [List.size_toArray, hlen]⟩, q⟩
  · obtain ⟨its, r', pl, hz⟩ := I.tuple hq
    have hlen := r'.length
    exact len_tuple pl (by simp only [List.size_toArray] <;> omega) ⟨.int ys.length, H, I.tok _, ⟨s.toks + 1, by rw [List.size_toArray, hlen]⟩, q⟩
theorem call_len_str : CallR X (.builtin "len") (fun xs H Q => ∃ z, xs = [.str z] ∧ z.length ≤ sizeLine ∧ Q (.int z.length) H) := by
  intro pins s σ H xs us Q I r h
  obtain ⟨z, rfl, hz, q⟩ := h
  obtain ⟨u, rfl, t, rfl⟩ := vals1 r
  have hn := line63
  exact len_str (by omega) ⟨.int z.length, H, I.tok _, ⟨_, rfl⟩, q⟩
theorem call_list_of : CallR X (.type "list") (fun xs H Q => ∃ p ys, xs = [.ref p] ∧ (SqL X.K H p ys ∨ SqT X.K H p ys) ∧ ∀ l, H l = none → Q (.ref l) (upd H l (.lst ys))) := by
  intro pins s σ H xs us Q I r h
  obtain ⟨p, ys, rfl, hq, q⟩ := h
  obtain ⟨u, rfl, rx⟩ := vals1 r
  cases rx
  have fin : ∀ (its : List Value), Vals ys its → ys.length ≤ sizeLine → ∀ (h' : Heap) (c' : Nat), (∀ b o', s.heap.get? b = some o' → h'.get? b = some o') →
      h'.get? s.heap.objs.size = some { cls := .type "list", dict := none, data := .seq its.toArray c', slots := #[] } → EP X pins σ Q (.ref s.heap.objs.size) { s with heap := h' } := fun its r' hz h' c' kp e =>
    ⟨.ref s.heap.objs.size, _, I.laid (t' := s.toks) kp (Nat.le_refl _) (show ObjOk X.prog X.w _ h' _ (.lst ys) from ⟨hz, its, c', r', e⟩), rfl, q _ (I.hok.fresh (Nat.le_refl _))⟩
  rcases hq with hq | hq
  · obtain ⟨its, r', pl, hz⟩ := I.list hq
    have hlen := r'.length
    obtain ⟨o, ho, hc, n, hd⟩ := pl.isList
    exact call_list_seq p (.inl rfl) ho hc hd (fun h' c' kp e => fin its r' hz h' c' kp e) (by simp only [List.size_toArray] <;> omega)
  · obtain ⟨its, r', pl, hz⟩ := I.tuple hq
    have hlen := r'.length
    obtain ⟨o, ho, hc, n, hd⟩ := pl
    exact call_list_seq p (.inr rfl) ho hc hd (fun h' c' kp e => fin its r' hz h' c' kp e) (by simp only [List.size_toArray] <;> omega)
theorem call_tuple_of : CallR X (.type "tuple") (fun xs H Q => ∃ p ys, xs = [.ref p] ∧ ((SqL X.K H p ys ∧ ∀ l, H l = none → Q (.ref l) (upd H l (.tup ys))) ∨ (SqT X.K H p ys ∧ Q (.ref p) H))) := by
  intro pins s σ H xs us Q I r h
  obtain ⟨p, ys, rfl, h⟩ := h
  obtain ⟨u, rfl, rx⟩ := vals1 r
  cases rx
  rcases h with ⟨hq, q⟩ | ⟨hq, q⟩
  · obtain ⟨its, r', pl, hz⟩ := I.list hq
    have hlen := r'.length
    refine call_tuple_list pl.isList (fun h' kp => ?_) (by simp only [List.size_toArray] <;> omega)
    have I1 : Inv X pins σ H { s with heap := h' } := I.kept (t' := s.toks) kp
    have I2 : Inv X pins σ (upd H h'.objs.size (.tup ys)) { s with heap := h'.push { cls := .type "tuple", data := .seq its.toArray } } :=
      I1.laid (t' := s.toks) (fun b o e => Heap.get?_push_of_some _ e) (Nat.le_refl _) (show ObjOk X.prog X.w _ _ _ (.tup ys) from ⟨hz, its, r', IsTup.new _ _⟩)
    exact ⟨.ref h'.objs.size, _, I2, rfl, q _ (I1.hok.fresh (Nat.le_refl _))⟩
  · obtain ⟨its, r', pl, hz⟩ := I.tuple hq
    exact call_tuple_same pl ⟨.ref p, H, I, rfl, q⟩

/-! ### the call of a builtin's method: o.m(..) -/
/-- the value is of that builtin type -/
def tyV (K : PySem.W.Frag) (T : String) (x : V) (H : Hp) : Prop := match x with
  | .str _ => T = "str"
  | .int _ => T = "int"
  | .ref p => (T = "list" ∧ ∃ xs, SqL K H p xs) ∨ (T = "tuple" ∧ ∃ o, K.lookup p = some o ∧ o.cls = .type "tuple" ∧ o.dict = none) ∨
      (T = "dict" ∧ ((∃ kvs, H p = some (.dK kvs)) ∨ ∃ kvs, H p = some (.dT kvs))) ∨ (T = "set" ∧ ∃ S n, H p = some (.set S n))
  | _ => False
theorem tyV_is {pins : List (Addr × Obj)} {σ : St} {H : Hp} {s : Shared} {T : String} {x : V} {v : Value} (I : Inv X pins σ H s) (r : RelV x v) (ty : tyV X.K T x H) :
    s.TypeIs v T ∧ ∀ a, v = .ref a → ∃ ob, s.heap.get? a = some ob ∧ ob.dict = none := by
  cases x with
  | str z =>
    obtain ⟨t, rfl⟩ := r
    cases (show T = "str" from ty)
    exact ⟨typeIs_str s z t, fun _ e => nomatch e⟩
  | int i =>
    obtain ⟨t, rfl⟩ := r
    cases (show T = "int" from ty)
    exact ⟨typeIs_int s i t, fun _ e => nomatch e⟩
  | ref p =>
    cases r
    rcases ty with ⟨rfl, xs, hq⟩ | ⟨rfl, o, hk, hc, hd⟩ | ⟨rfl, hk⟩ | ⟨rfl, S, n, hk⟩
    · obtain ⟨its, _, pl, _⟩ := I.list hq
      refine ⟨pl.isList.typeIs, fun a e => ?_⟩
      cases e
      obtain ⟨o, n, e, c, hd, _⟩ := pl
      exact ⟨o, e, hd⟩
    · refine ⟨⟨o, I.kIn p o hk, hc⟩, fun a e => ?_⟩
      cases e
      exact ⟨o, I.kIn _ o hk, hd⟩
    · have z : ∃ o, s.heap.get? p = some o ∧ o.ExactDict := by
        rcases hk with ⟨kvs, hk⟩ | ⟨kvs, hk⟩
        · obtain ⟨_, _, _, _, o, _, _, e, ex, _⟩ := I.hok p _ hk
          exact ⟨o, e, ex⟩
        · obtain ⟨_, _, _, _, o, _, _, e, ex, _⟩ := I.hok p _ hk
          exact ⟨o, e, ex⟩
      obtain ⟨o, e, ex⟩ := z
      refine ⟨⟨o, e, ex.1⟩, fun a e2 => ?_⟩
      cases e2
      exact ⟨o, e, ex.2.1⟩
    · obtain ⟨o, _, _, _, e, ex, _⟩ := I.hok p _ hk
      refine ⟨⟨o, e, ex.1⟩, fun a e2 => ?_⟩
      cases e2
      exact ⟨o, e, ex.2.1⟩
  | _ => exact False.elim ty
def tBM0 (K : PySem.W.Frag) (T : String) (r : V → List V → Hp → VK → Prop) (to : TE) : TE := fun σ H Q => to σ H fun x H1 => tyV K T x H1 ∧ r x [] H1 Q
def tBM (K : PySem.W.Frag) (T : String) (r : V → List V → Hp → VK → Prop) (to : TE) (t : TA) : TE := fun σ H Q => to σ H fun x H1 => tyV K T x H1 ∧ t σ H1 fun xs H2 => r x xs H2 Q
variable {o e : Expr} {es : List Expr} {to : TE} {t : TA} {name : Str} {apos cpos : Pos} {T id : String} {r : V → List V → Hp → VK → Prop}
theorem pe_bm (pa : PlainAttrs T) (slot : Slot T name id) (hty : typeOf (.builtin id) = pure (.type "method_descriptor")) (hm : MtR X id r) (ho : PE X o to) (ha : PA X (e :: es) t)
    (hbase : attributeBase o name X.env (eval o X.env) = eval o X.env := by rfl)
    (hfew : ((backTo cpos (starEach (e :: es) X.env)).all (fun x => !x.1) && (backToKw cpos (keywordEach [] X.env)).all (fun x => x.1.isSome)
      && decide ((e :: es).length + ([] : List Keyword).length + (if ([] : List Keyword).isEmpty then 0 else 1) < 30)) = true := by rfl)
    (hline : (apos.endLine == cpos.line) = true := by rfl) (hs : starEach (e :: es) X.env = (false, eval e X.env) :: starEach es X.env := by rfl) (hplain : (backTo cpos (starEach es X.env)).any (·.1) = false := by rfl) :
    PE X (.Call (.Attribute o name apos) (e :: es) [] cpos) (tBM X.K T r to t) := by
  intro pins s σ H Q I h
  refine wpAny_Call_method_late hbase hfew hline rfl (thn (ho pins s σ H _ I h) fun v s1 ⟨x, H1, I1, r1, ty, q1⟩ => ?_)
  obtain ⟨h1, h2⟩ := tyV_is I1 r1 ty
  refine ⟨T, id, pa, slot, hty, h1, h2, ?_⟩
  have hA := ha cpos pins s1 σ H1 _ I1 q1
  rw [hs] at hA ⊢
  refine Calls.callWith_builtin (by show (false || (backTo cpos (starEach es X.env)).any (·.1)) = false; rw [hplain] <;> rfl) (Calls.evalArgs_plain ?_)
  exact thn hA fun us s2 ⟨vs, H2, I2, r2, q2⟩ => hm pins s2 σ H2 x vs v us Q I2 r1 r2 q2
/- xs.append(e), list.index on a module's tuple .. are MtR facts of 06m -/
end
end L2

namespace L2
open PySem PySem.Spec PyProof.Rows

def MtM (X : Cx) (id : String) (r : V → List V → Hp → VK → Prop) : Prop :=
  ∀ (pins : List (Addr × Obj)) (s : Shared) (σ : St) (H : Hp) (x : V) (xs : List V) (v : Value) (us : List Value) (Q : VK), Inv X pins σ H s → RelV x v → Vals xs us → r x xs H Q →
    wpAny (model X.prog X.w) X.A (call (.builtin id) (v :: us)) (EP X pins σ Q) X.xe s

/-! ### lists of values -/
theorem Vals.one : ∀ {x : V} {us : List Value}, Vals [x] us → ∃ u, us = [u] ∧ RelV x u
  | _, _, .cons r .nil => ⟨_, rfl, r⟩

section
variable {X : Cx} {pins : List (Addr × Obj)} {σ : St} {H : Hp} {s : Shared} {l b : Addr} {xs ys zs : List V}

/-! ### the two steps: a tracked list is rewritten, a new list is laid -/
theorem Inv.lset {its its' : List Value} {n : Nat} {f : Array Value → Array Value} {t' : Nat} (I : Inv X pins σ H s) (hH : H l = some (.lst xs))
    (e : s.heap.get? l = some { cls := .type "list", data := .seq its.toArray n }) (hf : f its.toArray = its'.toArray) (hv : Vals ys its') (hz : ys.length ≤ sizeLine) :
    Inv X pins σ (upd H l (.lst ys)) { s with heap := s.heap.update l (Obj.mapSeq f), toks := t' } := by
  have q := PySem.IsL.update e f
  rw [hf] at q
  refine I.write (x := l) (e := l) (by rw [hH]; exact trivial) (.inl rfl) (fun b' u hb hu => (Heap.get?_update_other s.heap (Obj.mapSeq f) (Ne.symm hb)).trans hu) ⟨_, q⟩ ?_
  exact ⟨hz, its', _, hv, q⟩
theorem Inv.lnew {its : List Value} {t' : Nat} (I : Inv X pins σ H s) (hv : Vals ys its) (hz : ys.length ≤ sizeLine) :
    Inv X pins σ (upd H s.heap.objs.size (.lst ys)) { s with heap := s.heap.push { cls := .type "list", data := .seq its.toArray }, toks := t' } :=
  I.laid (fun _ _ q => Heap.get?_push_of_some _ q) (Nat.le_refl _) ⟨hz, its, 0, hv, Heap.get?_push_size _ rfl⟩
theorem Inv.fresh (I : Inv X pins σ H s) : H s.heap.objs.size = none := I.hok.fresh (Nat.le_refl _)
theorem Inv.lstM (I : Inv X pins σ H s) (hH : H l = some (.lst xs)) : xs.length ≤ sizeLine ∧ ∃ (its : List Value) (n : Nat), Vals xs its ∧ xs.length = its.length ∧ s.heap.get? l = some { cls := .type "list", data := .seq its.toArray n } := by
  obtain ⟨z, its, n, r, e⟩ := I.hok l _ hH
  exact ⟨z, its, n, r, r.length, e⟩

end

section
variable {X : Cx}

/-! ### methods -/
def rAppend : V → List V → Hp → VK → Prop := fun x vs H Q => ∃ l xs y, x = .ref l ∧ vs = [y] ∧ H l = some (.lst xs) ∧ xs.length < sizeLine ∧ Q .non (upd H l (.lst (xs ++ [y])))
theorem mt_append : MtM X "list.append" rAppend := by
  intro pins s σ H x vs v us Q I rx rv h
  obtain ⟨l, xs, y, rfl, rfl, hH, hz, q⟩ := h
  cases rx
  obtain ⟨u, rfl, ru⟩ := rv.one
  obtain ⟨z, its, n, r, hl, e⟩ := I.lstM hH
  refine call_meets F.slot_list_append ⟨_, e, rfl⟩ F.entry_list_append (F.args_list_append_2 _ _) (PySem.list_append l its.toArray n u (by rw [List.size_toArray]; omega)) ⟨e, ?_⟩
  refine ⟨.non, _, I.lset (its' := its ++ [u]) hH e (by simp) (r.append (.cons ru .nil)) ?_, rfl, q⟩
  rw [List.length_append, List.length_singleton]
  omega

def rExtend : V → List V → Hp → VK → Prop := fun x vs H Q => ∃ l b xs zs, x = .ref l ∧ vs = [.ref b] ∧ H l = some (.lst xs) ∧ H b = some (.lst zs) ∧ xs.length + zs.length ≤ sizeLine ∧ Q .non (upd H l (.lst (xs ++ zs)))

def rPop : V → List V → Hp → VK → Prop := fun x vs H Q => ∃ l xs y, x = .ref l ∧ vs = [] ∧ H l = some (.lst xs) ∧ xs[xs.length - 1]? = some y ∧ Q y (upd H l (.lst xs.dropLast))

def rPopAt : V → List V → Hp → VK → Prop := fun x vs H Q => ∃ l xs i k y, x = .ref l ∧ vs = [.int i] ∧ H l = some (.lst xs) ∧ -(2 ^ 63) ≤ i ∧ i < 2 ^ 63 ∧ seqIndex? i xs.length = some k ∧ xs[k]? = some y ∧ Q y (upd H l (.lst (xs.eraseIdx k)))

def rReverse : V → List V → Hp → VK → Prop := fun x vs H Q => ∃ l xs, x = .ref l ∧ vs = [] ∧ H l = some (.lst xs) ∧ Q .non (upd H l (.lst xs.reverse))

def rClear : V → List V → Hp → VK → Prop := fun x vs H Q => ∃ l xs, x = .ref l ∧ vs = [] ∧ H l = some (.lst xs) ∧ Q .non (upd H l (.lst []))

/-! ### list + list, list += list, list * int -/
def rCat : R2 := fun x y H Q => ∃ l b xs zs, x = .ref l ∧ y = .ref b ∧ H l = some (.lst xs) ∧ H b = some (.lst zs) ∧ xs.length + zs.length ≤ sizeLine ∧ ∀ p, H p = none → Q (.ref p) (upd H p (.lst (xs ++ zs)))
theorem op_cat : OpR X (binaryOp .Add) rCat := by
  intro pins s σ H x y v u Q I rx ry h
  obtain ⟨l, b, xs, zs, rfl, rfl, hH, hB, hz, q⟩ := h
  cases rx
  cases ry
  obtain ⟨z, its, n, r, hl, e⟩ := I.lstM hH
  obtain ⟨z2, its2, n2, r2, hl2, e2⟩ := I.lstM hB
  refine PySem.P.add_list e e2 ?_ (by rw [List.size_toArray, List.size_toArray]; omega)
  have ea : its.toArray ++ its2.toArray = (its ++ its2).toArray := by simp
  rw [ea]
  exact ⟨.ref _, _, I.lnew (t' := s.toks) (r.append r2) (by rw [List.length_append]; omega), rfl, q _ I.fresh⟩
/-- a list times an int (a negative one is nothing) -/
def rRep : R2 := fun x y H Q => ∃ l k xs, x = .ref l ∧ y = .int k ∧ H l = some (.lst xs) ∧ -(2 ^ 63) ≤ k ∧ k < 2 ^ 63 ∧ xs.length * k.toNat ≤ sizeLine ∧
  ∀ p, H p = none → Q (.ref p) (upd H p (.lst (List.replicate k.toNat xs).flatten))

/-! ### del xs[i] -/
end

/-! ### xs[a:b] = ys -/
section
variable {prog : Program} {w : World} {A : Around} {E : Value → Shared → Prop} {s : Shared}
end

section
variable {X : Cx}
end
end L2

namespace L2
open PySem PySem.Spec PyProof.Rows

theorem Vals.strs : ∀ {xs : List Str} {us : List Value}, Vals (xs.map V.str) us → StrsAre us xs
  | [], us, h => by
    rw [List.map_nil] at h
    cases h
    exact StrsAre.nil
  | x :: xs, us, h => by
    rw [List.map_cons] at h
    cases h with
    | cons r t =>
      obtain ⟨k, rfl⟩ := r
      exact StrsAre.cons x k (Vals.strs t)
theorem vals_of_strs : ∀ {us : List Value} {xs : List Str}, StrsAre us xs → Vals (xs.map V.str) us
  | _, _, .nil => by rw [List.map_nil]; exact Paired.nil
  | _, _, .cons x t h => by rw [List.map_cons]; exact Paired.cons (show RelV (V.str x) (Value.str x t) from ⟨t, rfl⟩) (vals_of_strs h)
theorem Vals.bls : ∀ {bs : List Bool} {us : List Value}, Vals (bs.map V.bl) us → us = bs.map Value.bool
  | [], us, h => by
    rw [List.map_nil] at h
    cases h
    rfl
  | b :: bs, us, h => by
    rw [List.map_cons] at h
    cases h with
    | cons r t =>
      cases r
      rw [Vals.bls t, List.map_cons]
theorem Vals.ref1 {a : Addr} {us : List Value} (r : Vals [V.ref a] us) : us = [Value.ref a] := by
  cases r with
  | cons r t =>
    cases t
    cases r
    rfl

/-! ### the library's walks over a list of ints, kept objects alone -/
section
variable {prog : Program} {w : World} {A : Around} {E : Value → Shared → Prop} {s : Shared} {l : Addr} {its : List Value} {ns : List Int} {Q : Value → Shared → Prop}
end

/-! ### the calls, by values (CallR of 03t; MtR of 06l) -/
section
variable {X : Cx}
/-- sum(xs) of a list of ints -/
def rSum (K : PySem.W.Frag) : List V → Hp → VK → Prop := fun vs H Q => ∃ (a : Addr) (ns : List Int), vs = [V.ref a] ∧ SqL K H a (ns.map V.int) ∧ Q (.int ns.sum) H
/-- max(xs), min(xs) of a list of ints -/
def rMax (K : PySem.W.Frag) : List V → Hp → VK → Prop := fun vs H Q => ∃ (a : Addr) (ns : List Int), vs = [V.ref a] ∧ SqL K H a (ns.map V.int) ∧ 0 < ns.length ∧ ∀ m, m ∈ ns → (∀ y, y ∈ ns → y ≤ m) → Q (.int m) H
def rMin (K : PySem.W.Frag) : List V → Hp → VK → Prop := fun vs H Q => ∃ (a : Addr) (ns : List Int), vs = [V.ref a] ∧ SqL K H a (ns.map V.int) ∧ 0 < ns.length ∧ ∀ m, m ∈ ns → (∀ y, y ∈ ns → m ≤ y) → Q (.int m) H

/-! sorted, sort (fewer than 64 items: the library's own bound) -/
def rSorted (K : PySem.W.Frag) : List V → Hp → VK → Prop := fun vs H Q => ∃ (a : Addr) (ns : List Int), vs = [V.ref a] ∧ SqL K H a (ns.map V.int) ∧ ns.length < 64 ∧
  ∀ (ns' : List Int) (p : Addr), ns'.Perm ns → ns'.Pairwise (· ≤ ·) → H p = none → Q (.ref p) (upd H p (.lst (ns'.map V.int)))
def rSortedS (K : PySem.W.Frag) : List V → Hp → VK → Prop := fun vs H Q => ∃ (a : Addr) (xs : List Str), vs = [V.ref a] ∧ SqL K H a (xs.map V.str) ∧ xs.length < 64 ∧
  ∀ (ys : List Str) (p : Addr), ys.Perm xs → sortedS ys = true → H p = none → Q (.ref p) (upd H p (.lst (ys.map V.str)))
/-- xs.sort(), ints -/
def rSort : V → List V → Hp → VK → Prop := fun x xs H Q => ∃ (a : Addr) (ns : List Int), x = V.ref a ∧ xs = [] ∧ H a = some (.lst (ns.map V.int)) ∧ ns.length < 64 ∧
  ∀ ns' : List Int, ns'.Perm ns → ns'.Pairwise (· ≤ ·) → Q .non (upd H a (.lst (ns'.map V.int)))
end

/-! ### list.index, flat items -/
section
variable {X : Cx}
def rIndex (K : PySem.W.Frag) : V → List V → Hp → VK → Prop := fun x xs H Q => ∃ (a : Addr) (ys : List V) (y : V) (j : Nat) (z : V), x = V.ref a ∧ xs = [y] ∧ SqL K H a ys ∧ flatV y = true ∧ ys.all flatV = true ∧ ys[j]? = some z ∧ eqV z y = true ∧
  (∀ (m : Nat) (z' : V), m < j → ys[m]? = some z' → eqV z' y = false) ∧ Q (.int (j : Nat)) H
end

/-! ### type(x) of an own instance; is, is not of a module's class -/
section
variable {X : Cx}
end

/-! ### any(xs), all(xs) of a list of bools -/
theorem iter_any {prog : Program} {w : World} {A : Around} {E : Value → Shared → Prop} {s : Shared} {l : Addr} {items : Array Value} {Q : Value → Shared → Prop} (hl : s.heap.IsList l items)
    (h : ∀ s₂ : Shared, s₂ = { s with heap := s.heap.push { cls := .type "list_iterator", data := .fields #[.ref l, .int 0 0] } } →
      (s₂.heap.IsListIter s.heap.objs.size l 0 ∧ s₂.heap.IsList l items) → l ≠ s.heap.objs.size → Q (.ref s.heap.objs.size) s₂) : wpAny (model prog w) A (pyIter (.ref l)) Q E s := by
  have hlt : l < s.heap.objs.size := by obtain ⟨_, e, _⟩ := hl; exact Heap.lt_size e
  exact wpAny_pyIter_list hl (h _ rfl ⟨⟨_, Heap.get?_push_size _ rfl, rfl, rfl⟩, hl.push _⟩ (Nat.ne_of_lt hlt))
theorem truth_bools {prog : Program} {w : World} {A : Around} {bs : List Bool} {its : List Value} (e : its = bs.map Value.bool) :
    TruthOf prog w A (fun i v => its.toArray[i]? = some v) (fun i => bs.getD i false) := fun i v s Q E hv hq => by
  have hv' : its[i]? = some v := by simpa using hv
  rw [e, List.getElem?_map] at hv'
  obtain ⟨b, hb, rfl⟩ := Option.map_eq_some_iff.mp hv'
  have hg : bs.getD i false = b := by rw [List.getD_eq_getElem?_getD, hb] <;> rfl
  have hq' : Q (bs.getD i false) s := hq
  rw [hg] at hq'
  exact wpAny_truthy_bool hq'
theorem all_range : ∀ bs : List Bool, (List.range bs.length).all (fun i => bs.getD i false) = bs.all id
  | [] => rfl
  | b :: bs => by
    rw [List.length_cons, List.range_succ_eq_map, List.all_cons, List.all_map, List.all_cons, ← all_range bs]
    all_goals rfl
section
variable {X : Cx}
def rAny (K : PySem.W.Frag) : List V → Hp → VK → Prop := fun vs H Q => ∃ (a : Addr) (bs : List Bool), vs = [V.ref a] ∧ SqL K H a (bs.map V.bl) ∧ Q (.bl (bs.any id)) H
def rAll (K : PySem.W.Frag) : List V → Hp → VK → Prop := fun vs H Q => ∃ (a : Addr) (bs : List Bool), vs = [V.ref a] ∧ SqL K H a (bs.map V.bl) ∧ Q (.bl (bs.all id)) H
theorem cr_all (hc : X.calm = true) : CallR X (.builtin "all") (rAll X.K) := by
  intro pins s σ H vs us Q I r h
  obtain ⟨a, bs, rfl, hs, q⟩ := h
  obtain ⟨its, rv, hl, _⟩ := I.list hs
  rw [Vals.ref1 r]
  have hb := rv.bls
  refine call_all_walk (iter_any hl.isList fun s₂ e2 st hne => ?_)
  subst e2
  refine ⟨_, _, _, _, _, _, _, rfl, Walks.list (A := X.A.in1) (I.ok.hd hc) _ a hne its.toArray, st, truth_bools hb, fun h' tk hk => ?_⟩
  refine ⟨.bl _, H, I.kept fun b o eo => hk b o (fun hmem => ?_) (Heap.get?_push_of_some _ eo), ?_, q⟩
  · rcases List.mem_cons.mp hmem with e1 | hmem
    · exact absurd (e1 ▸ Heap.lt_size eo) (Nat.lt_irrefl _)
    · cases hmem
  · show Value.bool _ = Value.bool _
    rw [← all_range, hb, List.size_toArray, List.length_map]
end

/-! ### == and != of data at any depth: none, bools, ints, texts, lists, tuples -/
mutual
inductive Dp (K : PySem.W.Frag) (H : Hp) : V → PyData → Prop
  | non : Dp K H .non .none
  | bl (b : Bool) : Dp K H (.bl b) (.bool b)
  | int (i : Int) : Dp K H (.int i) (.int i)
  | str (x : Str) : Dp K H (.str x) (.str x)
  | lst {a : Addr} {xs : List V} {ds : List PyData} : SqL K H a xs → DpAll K H xs ds → Dp K H (.ref a) (.list ds)
  | tup {a : Addr} {xs : List V} {ds : List PyData} : SqT K H a xs → DpAll K H xs ds → Dp K H (.ref a) (.tuple ds)
inductive DpAll (K : PySem.W.Frag) (H : Hp) : List V → List PyData → Prop
  | nil : DpAll K H [] []
  | cons {v : V} {vs : List V} {d : PyData} {ds : List PyData} : Dp K H v d → DpAll K H vs ds → DpAll K H (v :: vs) (d :: ds)
end
section
variable {X : Cx} {pins : List (Addr × Obj)} {σ : St} {H : Hp} {s : Shared}
mutual
theorem Dp.reads (I : Inv X pins σ H s) : ∀ (d : PyData) (v : V) (u : Value), Dp X.K H v d → RelV v u → ∃ as, Reads s.heap u d as
  | .none, _, _, h, r => by
    cases h
    cases r
    exact ⟨_, Reads.none⟩
  | .bool b, _, _, h, r => by
    cases h
    cases r
    exact ⟨_, Reads.bool b⟩
  | .int i, _, _, h, r => by
    cases h
    obtain ⟨t, rfl⟩ := r
    exact ⟨_, Reads.int i t⟩
  | .str x, _, _, h, r => by
    cases h
    obtain ⟨t, rfl⟩ := r
    exact ⟨_, Reads.str x t⟩
  | .list ds, _, _, h, r => by
    cases h with
    | lst hs ha =>
      cases r
      obtain ⟨its, rv, ⟨o, n, ho, hc, _, hd⟩, _⟩ := I.list hs
      obtain ⟨as, hr⟩ := Dp.readsAll I ds _ its ha rv
      exact ⟨_, Reads.list ho hc hd hr⟩
  | .tuple ds, _, _, h, r => by
    cases h with
    | tup hs ha =>
      cases r
      obtain ⟨its, rv, ⟨o, ho, hc, n, hd⟩, _⟩ := I.tuple hs
      obtain ⟨as, hr⟩ := Dp.readsAll I ds _ its ha rv
      exact ⟨_, Reads.tuple ho hc hd hr⟩
  | .dict _, _, _, h, _ => by cases h
theorem Dp.readsAll (I : Inv X pins σ H s) : ∀ (ds : List PyData) (vs : List V) (us : List Value), DpAll X.K H vs ds → Vals vs us → ∃ as, ReadsAll s.heap us ds as
  | [], _, _, h, r => by
    cases h
    cases r
    exact ⟨_, ReadsAll.nil⟩
  | d :: ds, _, _, h, r => by
    cases h with
    | cons h1 h2 =>
      cases r with
      | cons r1 r2 =>
        obtain ⟨as, q1⟩ := Dp.reads I d _ _ h1 r1
        obtain ⟨bs, q2⟩ := Dp.readsAll I ds _ _ h2 r2
        exact ⟨_, ReadsAll.cons q1 q2⟩
end
end
section
variable {X : Cx}
def rEqD (K : PySem.W.Frag) : R2 := fun x y H Q => ∃ d e, Dp K H x d ∧ Dp K H y e ∧ SeqAt.shaped d = true ∧ SeqAt.shaped e = true ∧ Q (.bl (PyData.eqv d e)) H
def rNeD (K : PySem.W.Frag) : R2 := fun x y H Q => ∃ d e, Dp K H x d ∧ Dp K H y e ∧ SeqAt.shaped d = true ∧ SeqAt.shaped e = true ∧ Q (.bl (!PyData.eqv d e)) H
theorem op_eqD (hu : X.A.units + 64 < cLine) : OpR X (compareOp .Eq) (rEqD X.K) := by
  intro pins s σ H x y v u Q I rx ry h
  obtain ⟨d, e, hd, he, sd, se, q⟩ := h
  obtain ⟨as, r1⟩ := Dp.reads I d x v hd rx
  obtain ⟨bs, r2⟩ := Dp.reads I e y u he ry
  exact SeqAt.compareEq_shaped r1 r2 sd se hu ⟨.bl _, H, I, rfl, q⟩
theorem op_neD (hu : X.A.units + 64 < cLine) : OpR X (compareOp .NotEq) (rNeD X.K) := by
  intro pins s σ H x y v u Q I rx ry h
  obtain ⟨d, e, hd, he, sd, se, q⟩ := h
  obtain ⟨as, r1⟩ := Dp.reads I d x v hd rx
  obtain ⟨bs, r2⟩ := Dp.reads I e y u he ry
  exact SeqAt.compareNe_shaped r1 r2 sd se hu ⟨.bl _, H, I, rfl, q⟩
end
end L2

namespace L2
open PySem PySem.Spec PyProof.Rows
abbrev CellAt (h : Heap) (c : Addr) (v : Option Value) : Prop := h.IsCell c v
def relS (scope sc : Scope) : Scope :=
  { scope with names := scope.names.map fun (n, k) => if (k == .free && sc.kind == .function && sc.names.lookup n == some .cell) then (n, .cell) else (n, k) }

def cloFrom (cells : List (Str × Addr)) : List (Str × NameKind) → List (Str × Addr) → List (Str × Addr)
  | [], acc => acc
  | (n, k) :: r, acc => if k == .free then cloFrom cells r ((n, (cells.lookup n).getD 0) :: acc) else cloFrom cells r acc

theorem closure_loop (env : Env) (f : Str × NameKind → List (Str × Addr) → Sem (ForInStep (List (Str × Addr))))
    (hf : ∀ n k c, f (n, k) c = if k == .free then (do let a ← cellOf env n; pure (.yield ((n, a) :: c))) else pure (.yield c)) :
    ∀ (names : List (Str × NameKind)) (acc : List (Str × Addr)), (∀ y ∈ names, y.2 = .free → ∃ c, env.cells.lookup y.1 = some c) → forIn names acc f = pure (cloFrom env.cells names acc)
  | [], acc, _ => by rw [List.forIn_nil]; rfl
  | (n, k) :: r, acc, h => by
    rw [List.forIn_cons, hf]
    have ih := fun acc => closure_loop env f hf r acc fun y hy => h y (List.mem_cons_of_mem _ hy)
    unfold cloFrom
    by_cases hk : (k == NameKind.free) = true
    · rw [if_pos hk, if_pos hk]
      obtain ⟨c, hc⟩ := h (n, k) List.mem_cons_self (by simpa using hk)
      have e : cellOf env n = pure c := by unfold cellOf; rw [hc]
      rw [e]
      have e2 : (env.cells.lookup n).getD 0 = c := by rw [hc]; rfl
      rw [e2]
      exact ih _
    · rw [if_neg hk, if_neg hk]
      exact ih _
theorem closure_ok {scope : Scope} {env : Env} (h : ∀ y ∈ scope.names, y.2 = .free → ∃ c, env.cells.lookup y.1 = some c) : closureFor scope env = pure (cloFrom env.cells scope.names []) := by
  simp only [closureFor]
  rw [closure_loop env _ (fun n k c => rfl) scope.names [] h]
  rfl

theorem mem_lookup {α : Type} : ∀ {l : List (Str × α)} {n : Str} {c : α}, (n, c) ∈ l → ∃ c', l.lookup n = some c'
  | (k, v) :: r, n, c, h => by
    rw [List.lookup_cons]
    cases hb : n == k with
    | true => exact ⟨_, rfl⟩
    | false =>
      rcases List.mem_cons.mp h with e | h
      · cases e; simp at hb
      · exact mem_lookup h

theorem cloFrom_mem {cells : List (Str × Addr)} : ∀ {names : List (Str × NameKind)} {acc : List (Str × Addr)} {n : Str} {c : Addr}, (n, c) ∈ cloFrom cells names acc → (n, c) ∈ acc ∨ ((n, .free) ∈ names ∧ c = (cells.lookup n).getD 0)
  | [], _, _, _, h => .inl h
  | (m, k) :: r, acc, n, c, h => by
    unfold cloFrom at h
    split at h
    · rename_i hk
      have hk : k = .free := by simpa using hk
      rcases cloFrom_mem h with h | ⟨h1, h2⟩
      · rcases List.mem_cons.mp h with e | h
        · cases e; exact .inr ⟨hk ▸ List.mem_cons_self, rfl⟩
        · exact .inl h
      · exact .inr ⟨List.mem_cons_of_mem _ h1, h2⟩
    · rcases cloFrom_mem h with h | ⟨h1, h2⟩
      · exact .inl h
      · exact .inr ⟨List.mem_cons_of_mem _ h1, h2⟩
theorem cloFrom_acc {cells : List (Str × Addr)} : ∀ {names : List (Str × NameKind)} {acc : List (Str × Addr)} {p : Str × Addr}, p ∈ acc → p ∈ cloFrom cells names acc
  | [], _, _, h => h
  | (m, k) :: r, acc, p, h => by
    unfold cloFrom
    split
    · exact cloFrom_acc (List.mem_cons_of_mem _ h)
    · exact cloFrom_acc h
theorem cloFrom_has {cells : List (Str × Addr)} : ∀ {names : List (Str × NameKind)} {acc : List (Str × Addr)} {n : Str}, (n, .free) ∈ names → (n, (cells.lookup n).getD 0) ∈ cloFrom cells names acc
  | (m, k) :: r, acc, n, h => by
    unfold cloFrom
    rcases List.mem_cons.mp h with e | h
    · cases e
      exact cloFrom_acc List.mem_cons_self
    · split
      · exact cloFrom_has h
      · exact cloFrom_has h

theorem cells_mem : ∀ {names : List (Str × NameKind)} {h : Heap} {acc : List (Str × Addr)} {x : Str} {c : Addr}, (x, c) ∈ cellsFrom h.objs.size names acc →
    (x, c) ∈ acc ∨ ((x, .cell) ∈ names ∧ h.objs.size ≤ c ∧ CellAt (pushCells h names) c none)
  | [], _, _, _, _, h => .inl h
  | (n, k) :: r, h, acc, x, c, hm => by
    unfold cellsFrom at hm
    unfold pushCells
    split at hm
    · rename_i hk
      rw [if_pos hk]
      have hk : k = .cell := by simpa using hk
      rw [← Heap.size_push h { cls := .type "cell", data := .cell none }] at hm
      rcases cells_mem hm with hm | ⟨h1, h2, h3⟩
      · rcases List.mem_cons.mp hm with e | hm
        · cases e
          exact .inr ⟨hk ▸ List.mem_cons_self, Nat.le_refl _, _, pushCells_keeps r _ _ _ (Heap.get?_push_size _ rfl), rfl⟩
        · exact .inl hm
      · rw [Heap.size_push] at h2
        exact .inr ⟨List.mem_cons_of_mem _ h1, Nat.le_of_succ_le h2, h3⟩
    · rename_i hk
      rw [if_neg hk]
      rcases cells_mem hm with hm | ⟨h1, h2, h3⟩
      · exact .inl hm
      · exact .inr ⟨List.mem_cons_of_mem _ h1, h2, h3⟩
theorem cells_acc : ∀ {names : List (Str × NameKind)} {n : Nat} {acc : List (Str × Addr)} {p : Str × Addr}, p ∈ acc → p ∈ cellsFrom n names acc
  | [], _, _, _, h => h
  | (m, k) :: r, n, acc, p, h => by
    unfold cellsFrom
    split
    · exact cells_acc (List.mem_cons_of_mem _ h)
    · exact cells_acc h
theorem cells_has : ∀ {names : List (Str × NameKind)} {n : Nat} {acc : List (Str × Addr)} {x : Str}, (x, .cell) ∈ names → ∃ c, (x, c) ∈ cellsFrom n names acc
  | (m, k) :: r, n, acc, x, h => by
    unfold cellsFrom
    rcases List.mem_cons.mp h with e | h
    · cases e
      exact ⟨n, cells_acc List.mem_cons_self⟩
    · split
      · exact cells_has h
      · exact cells_has h
theorem cells_inj : ∀ {names : List (Str × NameKind)} {h : Heap} {acc : List (Str × Addr)} {x y : Str} {c : Addr}, (∀ p ∈ acc, p.2 < h.objs.size) → (∀ x y c, (x, c) ∈ acc → (y, c) ∈ acc → x = y) →
    (x, c) ∈ cellsFrom h.objs.size names acc → (y, c) ∈ cellsFrom h.objs.size names acc → x = y
  | [], _, _, _, _, _, _, hi, h1, h2 => hi _ _ _ h1 h2
  | (n, k) :: r, h, acc, x, y, c, hl, hi, h1, h2 => by
    unfold cellsFrom at h1 h2
    split at h1
    · rename_i hk
      rw [if_pos hk] at h2
      rw [← Heap.size_push h { cls := .type "cell", data := .cell none }] at h1 h2
      refine cells_inj (h := h.push _) (fun p hp => ?_) (fun x y c a b => ?_) h1 h2
      · rw [Heap.size_push]
        rcases List.mem_cons.mp hp with rfl | hp
        · exact Nat.lt_succ_self _
        · exact Nat.lt_succ_of_lt (hl p hp)
      · rcases List.mem_cons.mp a with e | a <;> rcases List.mem_cons.mp b with e' | b
        · cases e; cases e'; rfl
        · cases e; exact absurd (hl _ b) (Nat.lt_irrefl _)
        · cases e'; exact absurd (hl _ a) (Nat.lt_irrefl _)
        · exact hi _ _ _ a b
    · rename_i hk
      rw [if_neg hk] at h2
      exact cells_inj hl hi h1 h2

theorem newEnv_comp {M : Model} {A : Around} {E : Value → Shared → Prop} {s : Shared} {scope : Scope} {globals : Addr} {closure : List (Str × Addr)} {qual : Str} {func : Option Addr} {code : Value} {around : Env} {builtins : Addr} {Q : Env → Shared → Prop}
    (h : Q (newEnv scope s.heap.objs.size globals (cellsFrom (s.heap.objs.size + 1) scope.names closure) qual func code (some around) builtins)
      { s with heap := pushCells (s.heap.push { cls := .type "dict", data := .dict #[] }) scope.names }) :
    wpAny M A (newFunctionEnv scope globals closure [] qual func code (some around) builtins) Q E s := by
  simp only [newFunctionEnv, Option.isSome_some, if_true]
  refine wpAny_bind (wpAny_alloc ?_)
  refine wpAny_bind (wpAny_layCells _ (fun n k c => rfl) scope.names closure _ _ ?_)
  rw [show ({ s with heap := s.heap.push { cls := .type "dict", data := .dict #[] } } : Shared).heap.objs.size = s.heap.objs.size + 1 from Heap.size_push ..]
  rw [List.forIn_nil]
  exact wpAny_bind (wpAny_pure (wpAny_pure h))

/-- every name of the written scope, in the scope that runs -/
theorem lookup_relS {sc : Scope} : ∀ {names : List (Str × NameKind)} {x : Str} {k : NameKind},
    (names.map fun (n, k) => if (k == NameKind.free && sc.kind == .function && sc.names.lookup n == some .cell) then (n, NameKind.cell) else (n, k)).lookup x = some k →
    ∃ k', names.lookup x = some k' ∧ (k = k' ∨ (k' = .free ∧ k = .cell))
  | [], _, _, h => by simp at h
  | (n, k₀) :: r, x, k, h => by
    have ih := @lookup_relS sc r x k
    have h' : List.lookup x ((if (k₀ == NameKind.free && sc.kind == .function && sc.names.lookup n == some .cell) = true then (n, NameKind.cell) else (n, k₀)) :: (r.map _)) = some k := h
    cases hx : x == n with
    | true =>
      simp only [List.lookup_cons, hx]
      by_cases hc : (k₀ == NameKind.free && sc.kind == .function && sc.names.lookup n == some .cell) = true
      · rw [if_pos hc] at h'
        simp only [List.lookup_cons, hx] at h'
        cases h'
        simp only [Bool.and_eq_true, beq_iff_eq] at hc
        exact ⟨k₀, rfl, .inr ⟨hc.1.1, rfl⟩⟩
      · rw [if_neg hc] at h'
        simp only [List.lookup_cons, hx] at h'
        cases h'
        exact ⟨_, rfl, .inl rfl⟩
    | false =>
      simp only [List.lookup_cons, hx]
      by_cases hc : (k₀ == NameKind.free && sc.kind == .function && sc.names.lookup n == some .cell) = true
      · rw [if_pos hc] at h'
        simp only [List.lookup_cons, hx] at h'
        exact ih h'
      · rw [if_neg hc] at h'
        simp only [List.lookup_cons, hx] at h'
        exact ih h'



/-- the names of a comprehension's block: its own (with their places in N), or captured -/
structure BlkOk (N : List Str) (sc scope : Scope) (own : List (Str × Nat)) : Prop where
  kind : scope.kind = .function
  uniq : ∀ y ∈ scope.names, scope.names.lookup y.1 = some y.2
  ix : ∀ p ∈ own, N[p.2]? = some p.1
  free : ∀ y ∈ scope.names, y.2 = .free → sc.names.lookup y.1 = some .cell ∨ sc.names.lookup y.1 = some .free
  own : ∀ y ∈ scope.names, y.2 = .local ∨ y.2 = .cell → y.1 ∈ own.map (·.1) ∨ y.1 ∉ N
/-- the slots of the block's own names forgotten -/
def wipe (σ : St) : List Nat → St
  | [] => σ
  | v :: vs => (wipe σ vs).set v none
theorem wipe_length (σ : St) : ∀ vs : List Nat, (wipe σ vs).length = σ.length
  | [] => rfl
  | v :: vs => by unfold wipe; rw [List.length_set, wipe_length σ vs]
theorem wipe_some {σ : St} {i : Nat} {x : V} : ∀ {vs : List Nat}, (wipe σ vs)[i]? = some (some x) → σ[i]? = some (some x) ∧ i ∉ vs
  | [], h => ⟨h, by simp⟩
  | v :: vs, h => by
    unfold wipe at h
    by_cases hi : v = i
    · subst hi
      by_cases hv : v < (wipe σ vs).length
      · rw [List.getElem?_set_self hv] at h; cases h
      · rw [List.getElem?_eq_none (by simpa using hv)] at h; cases h
    · rw [List.getElem?_set_ne hi] at h
      obtain ⟨h1, h2⟩ := wipe_some h
      exact ⟨h1, by simp only [List.mem_cons, not_or]; exact ⟨fun e => hi e.symm, h2⟩⟩

/-- the context of a block that starts at s, its iterator's objects at fp -/
abbrev Cx.blk (X : Cx) (s : Shared) (H : Hp) (scope : Scope) (cenv : Env) (fp : List Addr) : Cx := { X with s_0 := s, H_0 := H, env := cenv, outer := X.stack, ex := fp, fn := fun x => scope.names.lookup x == some .cell, pn := [], xe := fun _ _ => False }
section
variable {X : Cx} {pins : List (Addr × Obj)} {σ : St} {H : Hp} {s : Shared}
theorem block_start {scope : Scope} {own : List (Str × Nat)} {fp : List Addr} (I : Inv X pins σ H s) (ok : BlkOk X.N X.env.scope scope own) (hN : X.N.Nodup) (hfp : ∀ b ∈ fp, FpOk X pins H b ∧ b < s.heap.objs.size) :
    Inv (X.blk s H scope (compEnvC scope (cellsFrom (s.heap.objs.size + 1) scope.names (cloFrom X.env.cells scope.names [])) s.heap.objs.size X.env) fp) [] (wipe σ (own.map (·.2))) H { s with heap := pushCells (s.heap.push { cls := .type "dict", data := .dict #[] }) scope.names } := by
  have hfree : ∀ y ∈ scope.names, y.2 = .free → ∃ c, X.env.cells.lookup y.1 = some c := fun y hy e => by
    rcases ok.free y hy e with k | k
    · exact I.ok.has _ (.inl k)
    · exact I.ok.has _ (.inr k)
  generalize hcenv : compEnvC scope (cellsFrom (s.heap.objs.size + 1) scope.names (cloFrom X.env.cells scope.names [])) s.heap.objs.size X.env = cenv
  have kp : ∀ b o, s.heap.get? b = some o → (pushCells (s.heap.push { cls := .type "dict", data := .dict #[] }) scope.names).get? b = some o := fun b o e => pushCells_keeps _ _ _ _ (Heap.get?_push_of_some _ e)
  have hL : cenv.locals = s.heap.objs.size := by rw [← hcenv]; rfl
  have hcl : cenv.cells = cellsFrom (s.heap.objs.size + 1) scope.names (cloFrom X.env.cells scope.names []) := by rw [← hcenv]; rfl
  have hsc : cenv.scope = relS scope X.env.scope := by rw [← hcenv]; rfl
  rw [← Heap.size_push s.heap { cls := .type "dict", data := .dict #[] }] at hcl
  have cm : ∀ {y c}, (y, c) ∈ cloFrom X.env.cells scope.names [] → X.env.cells.lookup y = some c ∧ c < s.heap.objs.size := fun {y c} hm => by
    rcases cloFrom_mem hm with hm | ⟨h1, rfl⟩
    · cases hm
    · obtain ⟨c, hc⟩ := hfree _ h1 rfl
      rw [hc]
      obtain ⟨w, z⟩ := I.cell _ _ hc
      exact ⟨rfl, z.lt⟩
  have mem : ∀ {y c}, cenv.cells.lookup y = some c → (X.env.cells.lookup y = some c ∧ c < s.heap.objs.size) ∨ (s.heap.objs.size + 1 ≤ c ∧ CellAt (pushCells (s.heap.push { cls := .type "dict", data := .dict #[] }) scope.names) c none) := fun {y c} e => by
    rw [hcl] at e
    rcases cells_mem (PySem.mem_of_lookup e) with hm | ⟨_, h2, h3⟩
    · exact .inl (cm hm)
    · rw [Heap.size_push] at h2; exact .inr ⟨h2, h3⟩
  have look : ∀ {y}, scope.names.lookup y = some .free → ∃ c, cenv.cells.lookup y = some c ∧ X.env.cells.lookup y = some c := fun {y} hl => by
    have hy : (y, NameKind.free) ∈ scope.names := PySem.mem_of_lookup hl
    obtain ⟨c', e'⟩ := mem_lookup (cells_acc (names := scope.names) (n := (s.heap.push { cls := .type "dict", data := .dict #[] }).objs.size) (cloFrom_has (cells := X.env.cells) (acc := []) hy))
    rw [← hcl] at e'
    refine ⟨c', e', ?_⟩
    rw [hcl] at e'
    rcases cells_mem (PySem.mem_of_lookup e') with hm | ⟨h1, _, _⟩
    · exact (cm hm).1
    · have := ok.uniq _ h1
      rw [hl] at this; cases this
  have okB : (X.blk s H scope cenv fp).Ok := by
    refine ⟨I.ok.mod, by show cenv.scope.kind = _; rw [hsc]; exact ok.kind, by show cenv.globals = _; rw [← hcenv]; exact I.ok.glob, by show cenv.builtins = _; rw [← hcenv]; exact I.ok.blt, by show s.heap.objs.size ≤ cenv.locals; rw [hL]; exact Nat.le_refl _,
      fun y z c e1 e2 => ?_, fun y hy => ?_, fun y c z e => ?_, I.ok.hd, I.ok.frames, .inl rfl, fun b hb => ⟨?_, fun y c e z => ?_⟩, I.bs, Nat.le_trans I.ok.bsz I.sz, fun b o e hb => ?_, fun b hb z => ?_, I.stack, I.stkFree⟩
    · have e1 : cenv.cells.lookup y = some c := e1
      have e2 : cenv.cells.lookup z = some c := e2
      rw [hcl] at e1 e2
      refine cells_inj (fun p hp => ?_) (fun y z c a b => I.ok.inj y z c (cm a).1 (cm b).1) (PySem.mem_of_lookup e1) (PySem.mem_of_lookup e2)
      rw [Heap.size_push]
      exact Nat.lt_succ_of_lt (cm (y := p.1) (c := p.2) hp).2
    · show ∃ c, cenv.cells.lookup y = some c
      have key : ∀ k, cenv.kindOf y = some k → (k = .cell ∨ k = .free) → ∃ c, cenv.cells.lookup y = some c := fun k hk hk' => by
        unfold Env.kindOf at hk
        rw [hsc] at hk
        obtain ⟨k', e, r⟩ := lookup_relS hk
        have : k' = .cell ∨ k' = .free := by
          rcases r with rfl | ⟨rfl, _⟩
          · exact hk'
          · exact .inr rfl
        rcases this with rfl | rfl
        · obtain ⟨c, hm⟩ := cells_has (n := (s.heap.push { cls := .type "dict", data := .dict #[] }).objs.size) (acc := cloFrom X.env.cells scope.names []) (PySem.mem_of_lookup e)
          obtain ⟨c', e'⟩ := mem_lookup hm
          exact ⟨c', by rw [hcl]; exact e'⟩
        · obtain ⟨c, h1, _⟩ := look e
          exact ⟨c, h1⟩
      rcases hy with hy | hy
      · exact key _ hy (.inl rfl)
      · exact key _ hy (.inr rfl)
    · have z : (scope.names.lookup y == some NameKind.cell) = true := z
      have z : scope.names.lookup y = some .cell := by simpa using z
      have e : cenv.cells.lookup y = some c := e
      rw [hcl] at e
      rcases cells_mem (PySem.mem_of_lookup e) with hm | ⟨_, h2, _⟩
      · rcases cloFrom_mem hm with hm | ⟨h1, _⟩
        · cases hm
        · have q := ok.uniq _ h1
          rw [z] at q; cases q
      · rw [Heap.size_push] at h2
        exact Nat.le_of_succ_le h2
    · show b ≠ cenv.locals
      rw [hL]; exact Nat.ne_of_lt (hfp b hb).2
    · have e : cenv.cells.lookup y = some c := e
      rcases mem e with ⟨h1, _⟩ | ⟨h1, _⟩
      · exact (hfp b hb).1.2.2.2.2.1 y c h1 z
      · have h2 : s.heap.objs.size + 1 ≤ b := by rw [← z]; exact h1
        exact absurd (Nat.lt_of_lt_of_le (hfp b hb).2 (Nat.le_of_succ_le h2)) (Nat.lt_irrefl _)
    · rcases (hfp b hb).1.2.2.2.1 with z | z
      · exact I.ok.noex b o e z
      · exact absurd (Nat.lt_of_lt_of_le (Heap.lt_size e) (Nat.le_trans I.ok.bsz z)) (Nat.lt_irrefl _)
    · rcases List.mem_cons.mp (I.stkSub b z) with z | z
      · exact (hfp b hb).1.2.1 z
      · exact (hfp b hb).1.2.2.1 z
  refine ⟨okB, rfl, I.bare, Un.kept kp, ⟨fun _ => none, ?_, fun i y av e1 e2 e3 => ?_⟩, fun y c e => ?_, ?_, fun y c e => ?_, fun p hp => ?_, I.hok.kept kp, by rw [wipe_length]; exact I.len⟩
  · show Heap.Ns _ cenv.locals _
    rw [hL]
    exact Heap.Ns.keeps (Heap.Ns.new ..) fun b o e => pushCells_keeps _ _ _ _ e
  · obtain ⟨e2, hne⟩ := wipe_some e2
    have hfr : scope.names.lookup y = some .free ∧ (cenv.kindOf y = some .cell ∨ cenv.kindOf y = some .free) := by
      have key : ∀ k, cenv.scope.names.lookup y = some k → k = .local ∨ k = .cell ∨ k = .free → scope.names.lookup y = some .free ∧ (cenv.kindOf y = some .cell ∨ cenv.kindOf y = some .free) := fun k hk hk' => by
        have hk0 := hk
        rw [hsc] at hk
        obtain ⟨k', e, r⟩ := lookup_relS hk
        have no : ¬ (k' = .local ∨ k' = .cell) := fun hh => by
          rcases ok.own _ (PySem.mem_of_lookup e) hh with e' | e'
          · obtain ⟨p, hp, hpy⟩ := List.mem_map.mp e'
            have e3 := ok.ix p hp
            have : p.1 = y := hpy
            rw [this] at e3
            exact hne (List.mem_map.mpr ⟨p, hp, nodup_ix hN e3 e1⟩)
          · exact e' (List.mem_of_getElem? e1)
        rcases r with rfl | ⟨rfl, rfl⟩
        · rcases hk' with rfl | rfl | rfl
          · exact absurd (.inl rfl) no
          · exact absurd (.inr rfl) no
          · exact ⟨e, .inr hk0⟩
        · exact ⟨e, .inl hk0⟩
      have e3 : Vis cenv.scope y := e3
      rcases e3 with e3 | e3 | e3
      · exact key _ e3 (.inl rfl)
      · exact key _ e3 (.inr (.inl rfl))
      · exact key _ e3 (.inr (.inr rfl))
    obtain ⟨m, hn, hl⟩ := I.loc
    have hvis : Vis X.env.scope y := (ok.free _ (PySem.mem_of_lookup hfr.1) rfl).elim (fun k => .inr (.inl k)) (fun k => .inr (.inr k))
    obtain ⟨w, r, q⟩ := hl i y av e1 e2 hvis
    refine ⟨w, r, .inr ⟨hfr.2, ?_⟩⟩
    obtain ⟨c, h1, h2⟩ := look hfr.1
    rcases q with ⟨k, _⟩ | ⟨_, c', e', z⟩
    · have k : X.env.scope.names.lookup y = some .local := k
      rcases ok.free _ (PySem.mem_of_lookup hfr.1) rfl with k' | k' <;> rw [show X.env.scope.names.lookup y = _ from k'] at k <;> cases k
    · rw [h2] at e'; cases e'
      exact ⟨c, h1, z.keeps kp⟩
  · have e : cenv.cells.lookup y = some c := e
    rcases mem e with ⟨h1, _⟩ | ⟨_, z⟩
    · obtain ⟨w, z⟩ := I.cell y c h1
      exact ⟨w, z.keeps kp⟩
    · exact ⟨_, z⟩
  · show H cenv.locals = none
    rw [hL]; exact I.hok.fresh (Nat.le_refl _)
  · have e : cenv.cells.lookup y = some c := e
    rcases mem e with ⟨h1, _⟩ | ⟨h1, _⟩
    · exact I.freeC y c h1
    · exact I.hok.fresh (Nat.le_of_succ_le h1)
  · exact absurd (show p ∈ ([] : List (Addr × Obj)) ++ [] from hp) (by simp)

/-- an item appended to a tracked list -/
theorem app_ok {E : Value → Shared → Prop} {D : Addr} {xs : List V} {y : V} {v : Value} {Q : Value → Shared → Prop} (I : Inv X pins σ H s) (hD : H D = some (.lst xs)) (hz : xs.length < sizeLine) (r : RelV y v)
    (h : ∀ s', Inv X pins σ (upd H D (.lst (xs ++ [y]))) s' → Q .none s') : wpAny (model X.prog X.w) X.A (call (.builtin "list.append") [.ref D, v]) Q E s := by
  obtain ⟨hz', its, n, ri, e⟩ := I.hok D _ hD
  have hl := ri.length
  refine append_at (hsz := by rw [List.size_toArray]; omega) e fun h' sb ho' => ?_
  refine h { s with heap := h' } (I.write (t' := s.toks) (by rw [hD]; trivial) (.inl rfl) (fun b u hb q => (sb.2 b hb).trans q) ⟨_, ho'⟩ ⟨by rw [List.length_append]; exact hz, its ++ [v], n + 1, ri.append (.cons r .nil), ?_⟩)
  rw [ho']
  simp

/-- a clause's tests -/
def PTs (X : Cx) (ifs : List Expr) (t : TT) : Prop :=
  ∀ (pins : List (Addr × Obj)) (s : Shared) (σ : St) (H : Hp) (Q : Bool → Hp → Prop), Inv X pins σ H s → t σ H Q →
    wpAny (model X.prog X.w) X.A (forIn ifs true fun c r => if r = true then do let ok ← isTrue c X.env (eval c X.env); pure (ForInStep.yield ok) else pure (ForInStep.yield r)) (TP X pins σ Q) X.xe s
def tYes : TT := fun _ H Q => Q true H
theorem pts_nil : PTs X [] tYes := fun _ _ _ H _ I h => wpAny_tests_nil ⟨H, I, h⟩
theorem pts_one {c : Expr} {t : TT} (h : PT X c t) : PTs X [c] t := fun pins s σ H Q I hw => wpAny_tests_one (h pins s σ H Q I hw)
end

theorem thnF {α : Type} {t : Sem α} {Q Q' : α → Shared → Prop} {M : Model} {A : Around} {E : Value → Shared → Prop} {s : Shared} (h : wpAny M A t Q (fun _ _ => False) s) (hQ : ∀ a s, Q a s → Q' a s) : wpAny M A t Q' E s := wpAny_mono h hQ fun _ _ z => False.elim z

/-- the loop of a list comprehension's block, the target of any form (codeAny_compLoop_tests asks a target that no tuple goes to; statement and proof follow it, PyProof/CompMap.lean:41-61, with the step letOwnedTupleGo kept) -/
theorem compLoop_any {prog : Program} {w : World} {A : Around} {R : Result → Shared → Prop} {s : Shared} {elt target iter : Expr} {ifs : List Expr} {scope : Scope} {pos : Pos} {it acc : Value} {env : Env} (I : Nat → Shared → Prop)
    (turn : ∀ n s, I n s → wpAny (model prog w) A (pyNext it) (fun r s₁ => match r with
      | none => R (.ok .next) s₁
      | some v => wpAny (model prog w) A (letOwnedTupleGo target it v) (fun _ s₁' => wpAny (model prog w) A (assign target env v) (fun _ s₂ =>
          wpAny (model prog w) A (forIn ifs true fun c r => if r = true then do let ok ← isTrue c env (eval c env); pure (ForInStep.yield ok) else pure (ForInStep.yield r)) (fun ok s₃ =>
            if ok = true then wpAny (model prog w) A (eval elt env) (fun x s₄ =>
              wpAny (model prog w) A (call (.builtin "list.append") [acc, x]) (fun _ s₅ => ∃ m, m < n ∧ I m s₅) (notedBy (model prog w) A env fun e s' => R (.error e) s') s₄) (notedBy (model prog w) A env fun e s' => R (.error e) s') s₃
            else ∃ m, m < n ∧ I m s₃) (notedBy (model prog w) A env fun e s' => R (.error e) s') s₂) (notedBy (model prog w) A env fun e s' => R (.error e) s') s₁') (notedBy (model prog w) A env fun e s' => R (.error e) s') s₁) (notedBy (model prog w) A env fun e s' => R (.error e) s') s)
    (n : Nat) (h : I n s) :
    codeAny (model prog w) A (.compLoop (.ListComp elt [⟨target, iter, ifs, 0⟩] scope pos) 0 it acc env) R s := by
  refine codeAny_loop rfl I (fun n s hI => ?_) n h
  show wpAny _ A ((compTurn (.ListComp elt [⟨target, iter, ifs, 0⟩] scope pos) 0 it acc env).onRaise (fun x => do noteFrame x env; theTreesLotGoes x)) _ _ s
  refine wpAny_noted ?_
  rw [compTurn_list]
  refine wpAny_bind (wpAny_standAt (wpAny_bind (wpAny_mono (turn n s hI) (fun r s₁ h₁ => ?_) fun _ _ h' => h')))
  cases r with
  | none => exact wpAny_pure h₁
  | some v =>
    refine wpAny_bind (wpAny_mono h₁ (fun _ s₁' h₁' => ?_) fun _ _ h' => h')
    refine wpAny_bind (wpAny_mono h₁' (fun _ s₂ h₂ => wpAny_bind (wpAny_mono h₂ (fun ok s₃ h₃ => ?_) fun _ _ h' => h')) fun _ _ h' => h')
    cases ok with
    | false => exact wpAny_pure ⟨rfl, h₃⟩
    | true =>
      exact wpAny_bind (wpAny_bind (wpAny_mono h₃ (fun x s₄ h₄ => wpAny_bind (wpAny_mono h₄ (fun _ s₅ h₅ => wpAny_pure (wpAny_pure ⟨rfl, h₅⟩)) fun _ _ h' => h')) fun _ _ h' => h'))

section
variable {X : Cx}
/-- [elt for target in iter if ..]: D the new list; W by the turn and a measure, Nx what a turn is to reach -/
def tLc (wi : TI) (g : TG) (tt : TT) (te : TE) (vs : List Nat) : TE := fun σ H Q => wi σ H fun J H1 => ∀ D, H1 D = none → ∃ W : Nat → Nat → Hp → Prop, (∃ m, W 0 m (upd H1 D (.lst []))) ∧ ∀ i m H, W i m H →
  (J.stop i H ∧ Q (.ref D) H) ∨ (J.go i H ∧ ∃ Nx : Hp → Prop, (∀ H', Nx H' → ∃ m', m' < m ∧ W (i + 1) m' H') ∧ ∀ x H', J.yld i H x H' → g x (wipe σ vs) H' fun σ2 H2 => wipe σ2 vs = wipe σ vs ∧ tt σ2 H2 fun b H3 =>
    if b = true then te σ2 H3 fun y H4 => ∃ acc, H4 D = some (.lst acc) ∧ acc.length < sizeLine ∧ Nx (upd H4 D (.lst (acc ++ [y]))) else Nx H3)
theorem lc_core {pins : List (Addr × Obj)} {s : Shared} {σ : St} {H : Hp} {Q : VK} {elt tg iter : Expr} {ifs : List Expr} {scope : Scope} {own : List (Str × Nat)} {pos pos' : Pos} {wi : TI} {g : TG} {tt : TT} {te : TE} {use : Option (Value → Sem Unit)} {Qf : Value → Shared → Prop}
    (hc : X.calm = true) (hN : X.N.Nodup) (I : Inv X pins σ H s) (hi : PI X tg iter wi) (ok : BlkOk X.N X.env.scope scope own)
    (hg : ∀ (s : Shared) (H : Hp) (C : Addr) (cl : List (Str × Addr)) (fp : List Addr), PG (X.blk s H scope (compEnvC scope cl C X.env) fp) tg g) (ht : ∀ (s : Shared) (H : Hp) (C : Addr) (cl : List (Str × Addr)) (fp : List Addr), PTs (X.blk s H scope (compEnvC scope cl C X.env) fp) ifs tt)
    (he : ∀ (s : Shared) (H : Hp) (C : Addr) (cl : List (Str × Addr)) (fp : List Addr), PE (X.blk s H scope (compEnvC scope cl C X.env) fp) elt te) (hs : ∀ x, foldedSetIterable iter X.env x = pure x)
    (h : tLc wi g tt te (own.map (·.2)) σ H Q)
    (hRR : ∀ D C s' m H', Inv X pins σ H' s' → Q (.ref D) H' → s'.heap.Ns C m → FpOk X pins H' C → compPost (model X.prog X.w) X.A X.xe use Qf (.ref D) C (.ok .next) s') :
    wpAny (model X.prog X.w) X.A (comprehension (.ListComp elt [⟨tg, iter, ifs, 0⟩] scope pos) scope X.env pos' (newList []) false (eval iter X.env) use) Qf X.xe s := by
  have hfree : ∀ y ∈ scope.names, y.2 = .free → ∃ c, X.env.cells.lookup y.1 = some c := fun y hy e => by
    rcases ok.free y hy e with k | k
    · exact I.ok.has _ (.inl k)
    · exact I.ok.has _ (.inr k)
  refine wpAny_comprehension_free (use := use) rfl hs (closure_ok hfree) ok.kind (fun y hy e => by rw [ok.uniq y hy, e])
    (thn (hi pins s σ H _ I h) fun xv s1 hx => thn hx fun itv s2 h2 => ?_)
  obtain ⟨it, fp, tn, J, H2, e, I2, T, st2, f2, q⟩ := h2
  subst e
  refine wpAny_newObj_type (newEnv_comp ?_) (by show 0 ≤ sizeLine; decide)
  generalize hD : s2.heap.objs.size = D
  have hDn : H2 D = none := I2.hok.fresh (Nat.le_of_eq hD)
  obtain ⟨W, ⟨m0, w0⟩, turn⟩ := q D hDn
  -- the new list
  generalize hs3 : ({ s2 with heap := s2.heap.push { cls := .type "list", data := .seq ([] : List Value).toArray } } : Shared) = s3
  have I3 : Inv X pins σ (upd H2 D (.lst [])) s3 := by
    rw [← hs3]
    refine I2.laid (t' := s2.toks) (fun b o e => Heap.get?_push_of_some _ e) (Nat.le_of_eq hD) ⟨Nat.zero_le _, [], 0, .nil, ?_⟩
    rw [← hD]
    exact Heap.get?_push_size _ rfl
  have h3 : s3.heap = s2.heap.push { cls := .type "list", data := .seq ([] : List Value).toArray } := by rw [← hs3]
  have sz : ∀ b ∈ fp, b < s2.heap.objs.size := fun b hb => by
    obtain ⟨o, e, _⟩ := T.obj _ _ st2 b hb
    exact Heap.lt_size e
  have f3 : ∀ b ∈ fp, FpOk X pins (upd H2 D (.lst [])) b ∧ b < s3.heap.objs.size := fun b hb => by
    have hlt := sz b hb
    refine ⟨⟨?_, (f2 b hb).2⟩, by rw [h3, Heap.size_push]; exact Nat.lt_succ_of_lt hlt⟩
    rw [upd_ne (by rw [← hD]; exact Nat.ne_of_lt hlt)]
    exact (f2 b hb).1
  have st3 : tn 0 s3.heap := T.keep _ _ _ st2 fun b _ o e => by rw [h3]; exact Heap.get?_push_of_some _ e
  have I4 := block_start I3 ok hN f3
  have pg := hg s3 (upd H2 D (.lst [])) s3.heap.objs.size (cellsFrom (s3.heap.objs.size + 1) scope.names (cloFrom X.env.cells scope.names [])) fp
  have pt := ht s3 (upd H2 D (.lst [])) s3.heap.objs.size (cellsFrom (s3.heap.objs.size + 1) scope.names (cloFrom X.env.cells scope.names [])) fp
  have pe := he s3 (upd H2 D (.lst [])) s3.heap.objs.size (cellsFrom (s3.heap.objs.size + 1) scope.names (cloFrom X.env.cells scope.names [])) fp
  show codeAny _ _ (.compStart (.ListComp elt [⟨tg, iter, ifs, 0⟩] scope pos) 0 (.ref it) (.ref D) (compEnvC scope (cellsFrom (s3.heap.objs.size + 1) scope.names (cloFrom X.env.cells scope.names [])) s3.heap.objs.size X.env)) (compPost (model X.prog X.w) X.A X.xe use Qf (.ref D) s3.heap.objs.size) { s3 with heap := pushCells (s3.heap.push { cls := .type "dict", data := .dict #[] }) scope.names }
  have nfp : ∀ b ∈ fp, (upd H2 D (.lst [])) b = none := fun b hb => (f3 b hb).1.1
  generalize hce : compEnvC scope (cellsFrom (s3.heap.objs.size + 1) scope.names (cloFrom X.env.cells scope.names [])) s3.heap.objs.size X.env = ce at I4 pg pt pe ⊢
  have cL : ce.locals = s3.heap.objs.size := by subst hce; rfl
  generalize hH3 : upd H2 D (.lst []) = H3 at I3 I4 pg pt pe w0 nfp f3
  generalize hs4 : ({ s3 with heap := pushCells (s3.heap.push { cls := .type "dict", data := .dict #[] }) scope.names } : Shared) = s4 at I4 ⊢
  have st4 : tn 0 s4.heap := T.keep _ _ _ st3 fun b _ o e => by rw [← hs4]; exact pushCells_keeps _ _ _ _ (Heap.get?_push_of_some _ e)
  have stat : ∀ {σ' : St} {H' : Hp} {s' : Shared}, Inv (X.blk s3 H3 scope ce fp) [] σ' H' s' → (∀ b ∈ fp, H' b = none) → ∀ b ∈ fp, FpOk (X.blk s3 H3 scope ce fp) [] H' b := fun {σ' H' s'} I' hn b hb =>
    ⟨hn b hb, (I'.ok.exf b hb).1, I'.ok.exfs b hb, .inl hb, fun x c e => (I'.ok.exf b hb).2 x c e, fun p hp => absurd (show p ∈ ([] : List (Addr × Obj)) ++ [] from hp) (by simp)⟩
  have loop : codeAny (model X.prog X.w) X.A (.compLoop (.ListComp elt [⟨tg, iter, ifs, 0⟩] scope pos) 0 (.ref it) (.ref D) ce) (compPost (model X.prog X.w) X.A X.xe use Qf (.ref D) s3.heap.objs.size) s4 := by
    refine compLoop_any (fun n s' => ∃ i H', Inv (X.blk s3 H3 scope ce fp) [] (wipe σ (own.map (·.2))) H' s' ∧ tn i s'.heap ∧ (∀ b ∈ fp, H' b = none) ∧ W i n H') ?_ m0 ⟨0, H3, I4, st4, nfp, w0⟩
    rintro n s5 ⟨i, H5, I5, st5, n5, w5⟩
    rcases turn i n H5 w5 with ⟨stop, qq⟩ | ⟨go, Nx, hNx, step⟩
    · have td := T.done (X.blk s3 H3 scope ce fp) rfl rfl rfl hc i [] s5 _ H5 (fun _ _ => False) I5 (stat I5 n5) st5 stop
      refine thnF td fun r s6 ⟨hr, I6⟩ => ?_
      subst hr
      -- back in the def's context
      have I7 : Inv X pins σ H5 s6 := I3.call' (ch := fp) I6.os I6.base I6.hok I6.bare fun b hb => ⟨(f3 b hb).1.2.2.2.1, (f3 b hb).1.2.1, (f3 b hb).1.2.2.2.2.1, (f3 b hb).1.2.2.2.2.2⟩
      have nC : H5 s3.heap.objs.size = none := by
        have z : H5 ce.locals = none := I6.free
        rw [cL] at z
        exact z
      obtain ⟨m, hn, _⟩ := I6.loc
      have hn : s6.heap.Ns ce.locals m := hn
      rw [cL] at hn
      exact hRR D s3.heap.objs.size s6 m H5 I7 qq hn (I3.fpOk (Nat.le_refl _) nC)
    · have ti := T.item (X.blk s3 H3 scope ce fp) rfl rfl rfl hc i [] s5 _ H5 (fun _ _ => False) I5 (stat I5 n5) st5 go
      refine thnF ti fun r s6 ⟨u, hr, h6⟩ => ?_
      subst hr
      refine thnF h6 fun _ s7 ⟨x, H7, I7, r7, y7, st7, n7⟩ => ?_
      have I7' := I7.pinned (stat I7 n7) (T.obj _ _ st7)
      refine thnF (pg _ s7 _ H7 x u _ I7' r7 (step x H7 y7)) fun _ s8 ⟨σ8, H8, I8, hw8, q8⟩ => ?_
      refine thnF (pt _ s8 σ8 H8 _ I8 q8) fun b s9 ⟨H9, I9, q9⟩ => ?_
      -- the turn's end
      have fin : ∀ {s' : Shared} {H' : Hp}, Inv (X.blk s3 H3 scope ce fp) ([] ++ pinsAt fp s7.heap) σ8 H' s' → Nx H' → ∃ m, m < n ∧ ∃ i H', Inv (X.blk s3 H3 scope ce fp) [] (wipe σ (own.map (·.2))) H' s' ∧ tn i s'.heap ∧ (∀ b ∈ fp, H' b = none) ∧ W i m H' := fun {s' H'} I' nx => by
        obtain ⟨m', hm, w'⟩ := hNx H' nx
        have pin' : ∀ b ∈ fp, ∀ o, s7.heap.get? b = some o → s'.heap.get? b = some o ∧ H' b = none := fun b hb o e =>
          let z := I'.pin (b, o) (List.mem_append_right _ (List.mem_append_right _ (mem_pinsAt hb e)))
          ⟨z.1, z.2.1⟩
        have hl : (wipe σ (own.map (·.2))).length = σ8.length := by rw [← hw8, wipe_length]
        refine ⟨m', hm, i + 1, H', (I'.unpinned (pins := [])).weak hl (fun j v e => ?_), T.keep _ _ _ st7 fun b hb o e => (pin' b hb o e).1, fun b hb => ?_, w'⟩
        · rw [← hw8] at e
          exact (wipe_some e).1
        · obtain ⟨o, e, _⟩ := T.obj _ _ st7 b hb
          exact (pin' b hb o e).2
      cases b with
      | false =>
        simp only [Bool.false_eq_true, if_false] at q9 ⊢
        exact fin I9 q9
      | true =>
        simp only [if_true] at q9 ⊢
        refine thnF (pe _ s9 σ8 H9 _ I9 q9) fun z s10 ⟨yv, H10, I10, r10, acc, hD10, hz10, nx⟩ => ?_
        exact app_ok (X := X.blk s3 H3 scope ce fp) I10 hD10 hz10 r10 fun s11 I11 => fin I11 nx
  exact codeAny_compStart_list loop (T.self X.A 0 _ _ _ st4 loop)
/-- as a value -/
theorem pe_lc {elt tg iter : Expr} {ifs : List Expr} {scope : Scope} {own : List (Str × Nat)} {pos : Pos} {wi : TI} {g : TG} {tt : TT} {te : TE} (hc : X.calm = true) (hN : X.N.Nodup) (hi : PI X tg iter wi) (ok : BlkOk X.N X.env.scope scope own)
    (hg : ∀ (s : Shared) (H : Hp) (C : Addr) (cl : List (Str × Addr)) (fp : List Addr), PG (X.blk s H scope (compEnvC scope cl C X.env) fp) tg g) (ht : ∀ (s : Shared) (H : Hp) (C : Addr) (cl : List (Str × Addr)) (fp : List Addr), PTs (X.blk s H scope (compEnvC scope cl C X.env) fp) ifs tt)
    (he : ∀ (s : Shared) (H : Hp) (C : Addr) (cl : List (Str × Addr)) (fp : List Addr), PE (X.blk s H scope (compEnvC scope cl C X.env) fp) elt te) (hs : ∀ x, foldedSetIterable iter X.env x = pure x := by intro _; rfl) :
    PE X (.ListComp elt [⟨tg, iter, ifs, 0⟩] scope pos) (tLc wi g tt te (own.map (·.2))) := by
  intro pins s σ H Q I h
  rw [eval_ListComp]
  refine lc_core hc hN I hi ok hg ht he hs h fun D C s' m H' I' q hn f => ⟨m, hn, fun h'' sb => ?_⟩
  obtain ⟨f0, f1, f2, f3, f4, f5⟩ := f
  exact ⟨.ref D, H', I'.turned (t' := s'.toks) (fun b o hb e => (sb.2 b hb).trans e) f0 f1 f3 f4 f5, rfl, q⟩
theorem sw_true {elt : Expr} {gs : List Comprehension} {scope : Scope} {pos py : Pos} {y : Str} {l : Nat} {env : Env} (hk : env.scope.kind = .function) (hy : env.scope.names.lookup y = some .local) (hl : (py.line == pos.line) = true)
    (ha : (scope.names.any fun (n, k) => n == y && (k == .local || k == .cell)) = false) : swapsWith (.ListComp elt gs scope pos) (some (.Name y py)) l env = pure true := by
  have ky : env.kindOf y = some .local := hy
  have hb : env.blockKind = .function := by unfold Env.blockKind; rw [hk]; rfl
  unfold swapsWith
  simp only [hb, ky, ha, Expr.pos, hl]
  rfl
end

/-! ### the forms one uses -/
/-- over a range: Pv by the turn and the heap (the new list at D within) -/
theorem lc_range {lo : Int} {n : Nat} {g : TG} {tt : TT} {te : TE} {vs : List Nat} {σ : St} {H1 : Hp} {D : Addr} {Qd : Hp → Prop} (Pv : Nat → Hp → Prop) (h0 : Pv 0 (upd H1 D (.lst [])))
    (hs : ∀ i H, i < n → Pv i H → g (.int (lo + i)) (wipe σ vs) H fun σ2 H2 => wipe σ2 vs = wipe σ vs ∧ tt σ2 H2 fun b H3 =>
      if b = true then te σ2 H3 fun y H4 => ∃ acc, H4 D = some (.lst acc) ∧ acc.length < sizeLine ∧ Pv (i + 1) (upd H4 D (.lst (acc ++ [y]))) else Pv (i + 1) H3) (hd : ∀ H, Pv n H → Qd H) :
    ∃ W : Nat → Nat → Hp → Prop, (∃ m, W 0 m (upd H1 D (.lst []))) ∧ ∀ i m H, W i m H →
      ((Itr lo n).stop i H ∧ Qd H) ∨ ((Itr lo n).go i H ∧ ∃ Nx : Hp → Prop, (∀ H', Nx H' → ∃ m', m' < m ∧ W (i + 1) m' H') ∧ ∀ x H', (Itr lo n).yld i H x H' → g x (wipe σ vs) H' fun σ2 H2 => wipe σ2 vs = wipe σ vs ∧ tt σ2 H2 fun b H3 =>
        if b = true then te σ2 H3 fun y H4 => ∃ acc, H4 D = some (.lst acc) ∧ acc.length < sizeLine ∧ Nx (upd H4 D (.lst (acc ++ [y]))) else Nx H3) := by
  refine ⟨fun i m H => m = n - i ∧ i ≤ n ∧ Pv i H, ⟨n, by simp, Nat.zero_le _, h0⟩, ?_⟩
  rintro i m H ⟨rfl, hi, p⟩
  by_cases hlt : i < n
  · refine .inr ⟨hlt, Pv (i + 1), fun H' p' => ⟨n - (i + 1), by omega, rfl, hlt, p'⟩, fun x H' y => ?_⟩
    obtain ⟨e, y⟩ := y
    subst e y
    exact hs i _ hlt p
  · have e : i = n := by omega
    subst e
    exact .inl ⟨Nat.le_refl _, hd H p⟩
/-- over a tuple -/
theorem lc_tup {K : PySem.W.Frag} {a : Addr} {xs : List V} {g : TG} {tt : TT} {te : TE} {vs : List Nat} {σ : St} {H1 : Hp} {D : Addr} {Qd : Hp → Prop} (Pv : Nat → Hp → Prop) (h0 : Pv 0 (upd H1 D (.lst []))) (hl : ∀ i H, i ≤ xs.length → Pv i H → SqT K H a xs)
    (hs : ∀ i x H, xs[i]? = some x → Pv i H → g x (wipe σ vs) H fun σ2 H2 => wipe σ2 vs = wipe σ vs ∧ tt σ2 H2 fun b H3 =>
      if b = true then te σ2 H3 fun y H4 => ∃ acc, H4 D = some (.lst acc) ∧ acc.length < sizeLine ∧ Pv (i + 1) (upd H4 D (.lst (acc ++ [y]))) else Pv (i + 1) H3) (hd : ∀ H, Pv xs.length H → Qd H) :
    ∃ W : Nat → Nat → Hp → Prop, (∃ m, W 0 m (upd H1 D (.lst []))) ∧ ∀ i m H, W i m H →
      ((Itt K a).stop i H ∧ Qd H) ∨ ((Itt K a).go i H ∧ ∃ Nx : Hp → Prop, (∀ H', Nx H' → ∃ m', m' < m ∧ W (i + 1) m' H') ∧ ∀ x H', (Itt K a).yld i H x H' → g x (wipe σ vs) H' fun σ2 H2 => wipe σ2 vs = wipe σ vs ∧ tt σ2 H2 fun b H3 =>
        if b = true then te σ2 H3 fun y H4 => ∃ acc, H4 D = some (.lst acc) ∧ acc.length < sizeLine ∧ Nx (upd H4 D (.lst (acc ++ [y]))) else Nx H3) := by
  refine ⟨fun i m H => m = xs.length - i ∧ i ≤ xs.length ∧ Pv i H, ⟨xs.length, by simp, Nat.zero_le _, h0⟩, ?_⟩
  rintro i m H ⟨rfl, hi, p⟩
  have q := hl i H hi p
  by_cases hlt : i < xs.length
  · refine .inr ⟨⟨xs, xs[i], q, by simp [hlt]⟩, Pv (i + 1), fun H' p' => ⟨xs.length - (i + 1), by omega, rfl, hlt, p'⟩, fun x H' y => ?_⟩
    obtain ⟨e, y⟩ := y
    subst e
    exact hs i x _ (y xs q) p
  · have e : i = xs.length := by omega
    subst e
    exact .inl ⟨⟨xs, q, Nat.le_refl _⟩, hd H p⟩
def blkC (N : List Str) (sc scope : Scope) (own : List (Str × Nat)) : Bool :=
  (match scope.kind with | .function => true | _ => false) && (scope.names.all fun y => decide (scope.names.lookup y.1 = some y.2)) && (own.all fun p => decide (N[p.2]? = some p.1)) &&
    (scope.names.all fun y => match y.2 with
      | .free => (match sc.names.lookup y.1 with | some .cell => true | some .free => true | _ => false)
      | .local => decide (y.1 ∈ own.map (·.1)) || decide (y.1 ∉ N)
      | .cell => decide (y.1 ∈ own.map (·.1)) || decide (y.1 ∉ N)
      | _ => true)
theorem blkOk_by {N : List Str} {sc scope : Scope} {own : List (Str × Nat)} (h : blkC N sc scope own = true) : BlkOk N sc scope own := by
  unfold blkC at h
  simp only [Bool.and_eq_true, List.all_eq_true, decide_eq_true_eq] at h
  obtain ⟨⟨⟨h1, h2⟩, h3⟩, h4⟩ := h
  refine ⟨?_, h2, h3, fun y hy e => ?_, fun y hy e => ?_⟩
  · split at h1
    · assumption
    · cases h1
  · have q := h4 y hy
    simp only [e] at q
    split at q <;> first | exact .inl (by assumption) | exact .inr (by assumption) | cases q
  · have q := h4 y hy
    rcases e with e | e <;> (simp only [e, Bool.or_eq_true, decide_eq_true_eq] at q; exact q)
end L2

namespace L2
open PySem PySem.Spec PyProof.Rows


section
variable {prog : Program} {w : World} {A : Around} {R : Result → Shared → Prop} {s : Shared} {elt t0 i0 t1 i1 : Expr} {ifs0 ifs1 : List Expr} {scope : Scope} {pos : Pos} {it acc : Value} {env : Env}
end

section
variable {X : Cx}
/-- [elt for tg in iter if .. for tg1 in iter1 if ..]: behind the first clause's store and tests the second source's own loop, from which Nx is reached. vs: the block's names; vs1: those of the second target -/
def tLc2 (wi : TI) (g : TG) (tt : TT) (wi1 : TI) (g1 : TG) (tt1 : TT) (te : TE) (vs vs1 : List Nat) : TE := fun σ H Q => wi σ H fun J H1 => ∀ D, H1 D = none → ∃ W : Nat → Nat → Hp → Prop, (∃ m, W 0 m (upd H1 D (.lst []))) ∧ ∀ i m H, W i m H →
  (J.stop i H ∧ Q (.ref D) H) ∨ (J.go i H ∧ ∃ Nx : Hp → Prop, (∀ H', Nx H' → ∃ m', m' < m ∧ W (i + 1) m' H') ∧ ∀ x H', J.yld i H x H' → g x (wipe σ vs) H' fun σ2 H2 => wipe σ2 vs = wipe σ vs ∧ tt σ2 H2 fun b H3 =>
    if b = true then wi1 σ2 H3 fun J1 H4 => ∃ W1 : Nat → Nat → Hp → Prop, (∃ m, W1 0 m H4) ∧ ∀ j k H, W1 j k H →
      (J1.stop j H ∧ Nx H) ∨ (J1.go j H ∧ ∃ Nx1 : Hp → Prop, (∀ H', Nx1 H' → ∃ k', k' < k ∧ W1 (j + 1) k' H') ∧ ∀ x H', J1.yld j H x H' → g1 x (wipe σ2 vs1) H' fun σ3 H5 => wipe σ3 vs1 = wipe σ2 vs1 ∧ tt1 σ3 H5 fun b H6 =>
        if b = true then te σ3 H6 fun y H7 => ∃ acc, H7 D = some (.lst acc) ∧ acc.length < sizeLine ∧ Nx1 (upd H7 D (.lst (acc ++ [y]))) else Nx1 H6)
    else Nx H3)
end
end L2

namespace L2
open PySem PySem.Spec PyProof.Rows

/-! ### lists of pairs as tables -/
section
variable {κ : Type} [DecidableEq κ]
def valV (kvs : List (κ × V)) (k : κ) : Option V := (kvs.find? fun kv => decide (kv.1 = k)).map (·.2)
/-- in its place, or at the end -/
def putK (kvs : List (κ × V)) (k : κ) (v : V) : List (κ × V) :=
  if (kvs.any fun kv => decide (kv.1 = k)) = true then kvs.map (fun kv => if kv.1 = k then (kv.1, v) else kv) else kvs ++ [(k, v)]
def dropK (kvs : List (κ × V)) (k : κ) : List (κ × V) := kvs.filter fun kv => decide (kv.1 ≠ k)

theorem valV_pos {p : κ × V} {r : List (κ × V)} {k : κ} (e : p.1 = k) : valV (p :: r) k = some p.2 := by simp [valV, List.find?_cons, e]
theorem valV_neg {p : κ × V} {r : List (κ × V)} {k : κ} (e : ¬ p.1 = k) : valV (p :: r) k = valV r k := by simp [valV, List.find?_cons, e]
theorem valV_any (k : κ) : ∀ kvs : List (κ × V), (kvs.any fun kv => decide (kv.1 = k)) = (valV kvs k).isSome
  | [] => rfl
  | p :: r => by
    rw [List.any_cons]
    by_cases e : p.1 = k
    · simp only [valV_pos e, decide_eq_true e, Bool.true_or, Option.isSome_some]
    · rw [valV_neg e, decide_eq_false e, Bool.false_or]; exact valV_any k r
theorem length_putK (kvs : List (κ × V)) (k : κ) (v : V) : (putK kvs k v).length ≤ kvs.length + 1 := by
  unfold putK
  split
  · rw [List.length_map]; omega
  · rw [List.length_append, List.length_cons, List.length_nil]; omega

theorem RelO.isSome_eq {o : Option V} {u : Option Value} (r : RelO o u) : o.isSome = u.isSome := by
  cases o with
  | none => cases u with
    | none => rfl
    | some _ => exact (show False from r).elim
  | some _ => cases u with
    | none => exact (show False from r).elim
    | some _ => rfl
theorem RelO.getD {o : Option V} {u : Option Value} {d : V} {d' : Value} (r : RelO o u) (rd : RelV d d') : RelV (o.getD d) (u.getD d') := by
  cases o with
  | none => cases u with
    | none => exact rd
    | some _ => exact (show False from r).elim
  | some _ => cases u with
    | none => exact (show False from r).elim
    | some _ => exact r

/-- raw tables of the same keys -/
theorem KV.val {kvs : List (κ × V)} {vs : List (κ × Value)} (r : KV kvs vs) (k : κ) : RelO (valV kvs k) (valueAt vs k) := by
  unfold KV at r
  induction r with
  | nil => exact True.intro
  | @cons p q ps qs h t ih =>
    obtain ⟨h1, h2⟩ := h
    by_cases e : p.1 = k
    · have e' : q.1 = k := h1.symm.trans e
      have b : valueAt (q :: qs) k = some q.2 := by simp [valueAt, List.find?_cons, e']
      rw [valV_pos e, b]; exact h2
    · have e' : ¬ q.1 = k := fun z => e (h1.trans z)
      have b : valueAt (q :: qs) k = valueAt qs k := by simp [valueAt, List.find?_cons, e']
      rw [valV_neg e, b]; exact ih
theorem KV.any {kvs : List (κ × V)} {vs : List (κ × Value)} (r : KV kvs vs) (k : κ) : (kvs.any fun kv => decide (kv.1 = k)) = vs.any fun kv => decide (kv.1 = k) := by
  unfold KV at r
  induction r with
  | nil => rfl
  | cons h t ih => rw [List.any_cons, List.any_cons, ih, h.1]
theorem KV.repl {kvs : List (κ × V)} {vs : List (κ × Value)} (r : KV kvs vs) (k : κ) {y : V} {u : Value} (ry : RelV y u) :
    KV (kvs.map fun kv => if kv.1 = k then (kv.1, y) else kv) (vs.map fun kv => if kv.1 = k then (kv.1, u) else kv) := by
  unfold KV at r ⊢
  induction r with
  | nil => exact .nil
  | @cons p q ps qs h t ih =>
    rw [List.map_cons, List.map_cons]
    refine .cons ?_ ih
    obtain ⟨h1, h2⟩ := h
    by_cases e : p.1 = k
    · rw [if_pos e, if_pos (h1.symm.trans e)]; exact ⟨h1, ry⟩
    · rw [if_neg e, if_neg (fun z => e (h1.trans z))]; exact ⟨h1, h2⟩
theorem KV.put {kvs : List (κ × V)} {vs : List (κ × Value)} (r : KV kvs vs) (k : κ) {y : V} {u : Value} (ry : RelV y u) : KV (putK kvs k y) (stored vs k u) := by
  unfold putK stored
  rw [r.any k]
  by_cases e : (vs.any fun kv => decide (kv.1 = k)) = true
  · rw [if_pos e, if_pos e]; exact r.repl k ry
  · rw [if_neg e, if_neg e]; exact Paired.snoc r ⟨rfl, ry⟩
theorem KV.length {kvs : List (κ × V)} {vs : List (κ × Value)} (r : KV kvs vs) : kvs.length = vs.length := Paired.length r
end


/-! ### a tracked dict, its keys ints and texts or tuples of these -/
theorem kV_is {P : Program} {w : World} {k : Key} {u : Value} (r : RelV (kV k) u) : (mixKind P w).is k u = true := by
  cases k with
  | inl i => obtain ⟨t, e⟩ := (show ∃ t, u = Value.int i t from r); subst e; exact mixKind_int P w i t
  | inr x => obtain ⟨t, e⟩ := (show ∃ t, u = Value.str x t from r); subst e; exact mixKind_str P w x t
theorem items_are {P : Program} {w : World} : ∀ {ks : List Key} {us : List Value}, Vals (ks.map kV) us → ItemsAre (mixKind P w) ks us
  | [], _, r => by rw [List.map_nil] at r; cases r; exact .nil
  | k :: ks, _, r => by
    rw [List.map_cons] at r
    cases r with
    | cons h t => exact .cons (kV_is h) (items_are t)

/-- raw entries of a dict with tuple keys -/
abbrev KT (H : Hp) : List (List Key × V) → List (List Key × Addr × Value) → Prop := Paired fun p q => p.1 = q.1 ∧ H q.2.1 = some (.tup (p.1.map kV)) ∧ RelV p.2 q.2.2
theorem KT.val {H : Hp} {kvs : List (List Key × V)} {xs : List (List Key × Addr × Value)} (r : KT H kvs xs) (k : List Key) : RelO (valV kvs k) ((atKey xs k).map (·.2)) := by
  induction r with
  | nil => exact True.intro
  | @cons p q ps qs h t ih =>
    obtain ⟨h1, _, h2⟩ := h
    by_cases e : p.1 = k
    · have e' : q.1 = k := h1.symm.trans e
      have b : atKey (q :: qs) k = some q.2 := by simp [atKey, List.find?_cons, e']
      rw [valV_pos e, b]; exact h2
    · have e' : ¬ q.1 = k := fun z => e (h1.trans z)
      have b : atKey (q :: qs) k = atKey qs k := by simp [atKey, List.find?_cons, e']
      rw [valV_neg e, b]; exact ih
theorem KT.repl {H : Hp} {kvs : List (List Key × V)} {xs : List (List Key × Addr × Value)} (r : KT H kvs xs) (k : List Key) {y : V} {u : Value} (ry : RelV y u) :
    KT H (kvs.map fun kv => if kv.1 = k then (kv.1, y) else kv) (xs.map (putAt k u)) := by
  induction r with
  | nil => exact .nil
  | @cons p q ps qs h t ih =>
    rw [List.map_cons, List.map_cons]
    refine .cons ?_ ih
    obtain ⟨h1, h2, h3⟩ := h
    unfold putAt
    by_cases e : p.1 = k
    · rw [if_pos e, if_pos (h1.symm.trans e)]; exact ⟨h1, h2, ry⟩
    · rw [if_neg e, if_neg (fun z => e (h1.trans z))]; exact ⟨h1, h2, h3⟩
theorem KT.put {H : Hp} {kvs : List (List Key × V)} {xs : List (List Key × Addr × Value)} (r : KT H kvs xs) (k : List Key) {b : Addr} {y : V} {u : Value} (hb : H b = some (.tup (k.map kV))) (ry : RelV y u) :
    KT H (putK kvs k y) (storedH xs k b u) := by
  have e : (kvs.any fun kv => decide (kv.1 = k)) = (atKey xs k).isSome := by
    rw [valV_any, (r.val k).isSome_eq, Option.isSome_map]
  unfold putK storedH
  rw [e]
  by_cases q : (atKey xs k).isSome = true
  · rw [if_pos q, if_pos q]; exact r.repl k ry
  · rw [if_neg q, if_neg q]; exact Paired.snoc r ⟨rfl, hb, ry⟩
theorem KT.keeps {H H' : Hp} {kvs : List (List Key × V)} {xs : List (List Key × Addr × Value)} (r : KT H kvs xs) (ht : ∀ b ys, H b = some (.tup ys) → H' b = some (.tup ys)) : KT H' kvs xs :=
  Paired.mapP r fun _ _ z => ⟨z.1, ht _ _ z.2.1, z.2.2⟩

section
variable {P : Program} {w : World} {H : Hp} {h : Heap} {a : Addr}
theorem rd_of {u : HO} (ok : HOk P w H h) (e : Rd H a u) : ObjOk P w H h a u := e.ok ok
theorem dk_rd {kvs : List (Key × V)} (ok : HOk P w H h) (e : Rd H a (.dK kvs)) : kvs.length ≤ sizeLine ∧ (a == sysModules) = false ∧ ∃ vs, KV kvs vs ∧ h.DictOf (mixKind P w) a vs :=
  show ObjOk P w H h a (.dK kvs) from rd_of ok e
theorem dk_of {kvs : List (Key × V)} (ok : HOk P w H h) (e : H a = some (.dK kvs)) : kvs.length ≤ sizeLine ∧ (a == sysModules) = false ∧ ∃ vs, KV kvs vs ∧ h.DictOf (mixKind P w) a vs := dk_rd ok (.inl e)
/-- a tracked tuple of ints and texts is a key -/
theorem key_of {ks : List Key} (ok : HOk P w H h) (e : H a = some (.tup (ks.map kV))) : (tupleKind (mixKind P w)).is h ks a := by
  obtain ⟨_, its, r, o, h1, h2, n, h3⟩ := (show ObjOk P w H h a (.tup (ks.map kV)) from ok a _ e)
  exact ⟨o, its.toArray, n, h1, h2, h3, by simpa using items_are r⟩
theorem dt_rd {kvs : List (List Key × V)} (ok : HOk P w H h) (e : Rd H a (.dT kvs)) : kvs.length ≤ sizeLine ∧ (a == sysModules) = false ∧
    ∃ xs, KT H kvs xs ∧ h.DictOfH (tupleKind (mixKind P w)) a xs := by
  obtain ⟨z, y, xs, r, o, es, ep, h1, h2, h3, h4, h5⟩ := (show ObjOk P w H h a (.dT kvs) from rd_of ok e)
  refine ⟨z, y, xs, r, o, es, ep, h1, h2, h3, h4, fun x hx => ?_, h5⟩
  have all : ∀ {l : List (List Key × V)} {m : List (List Key × Addr × Value)}, KT H l m → ∀ x ∈ m, (tupleKind (mixKind P w)).is h x.1 x.2.1 := by
    intro l m q
    induction q with
    | nil => intro x hx; exact nomatch hx
    | @cons p q ps qs hq t ih =>
      intro x hx
      rcases List.mem_cons.mp hx with e | hx
      · subst e
        exact key_of ok (by rw [← hq.1]; exact hq.2.1)
      · exact ih x hx
  exact all r x hx
theorem dt_of {kvs : List (List Key × V)} (ok : HOk P w H h) (e : H a = some (.dT kvs)) : kvs.length ≤ sizeLine ∧ (a == sysModules) = false ∧
    ∃ xs, KT H kvs xs ∧ h.DictOfH (tupleKind (mixKind P w)) a xs := dt_rd ok (.inl e)
end

/-- what the dict at a holds at the key y -/
def DGet (H : Hp) (a : Addr) (y : V) (r : Option V) : Prop :=
  (∃ kvs k, Rd H a (.dK kvs) ∧ y = kV k ∧ r = valV kvs k) ∨ ∃ kvs k b, Rd H a (.dT kvs) ∧ y = .ref b ∧ H b = some (.tup (k.map kV)) ∧ r = valV kvs k
/-- the heap behind a[y] = v -/
def DPut (H : Hp) (a : Addr) (y v : V) (H' : Hp) : Prop :=
  (∃ kvs k, H a = some (.dK kvs) ∧ y = kV k ∧ kvs.length < sizeLine ∧ H' = upd H a (.dK (putK kvs k v))) ∨
  ∃ kvs k b, H a = some (.dT kvs) ∧ y = .ref b ∧ H b = some (.tup (k.map kV)) ∧ kvs.length < sizeLine ∧ H' = upd H a (.dT (putK kvs k v))
theorem DGet.k {H : Hp} {a : Addr} {kvs : List (Key × V)} {k : Key} (e : H a = some (.dK kvs)) : DGet H a (kV k) (valV kvs k) := .inl ⟨kvs, k, .inl e, rfl, rfl⟩
theorem DPut.k {H : Hp} {a : Addr} {kvs : List (Key × V)} {k : Key} {v : V} (e : H a = some (.dK kvs)) (hl : kvs.length < sizeLine) : DPut H a (kV k) v (upd H a (.dK (putK kvs k v))) := .inl ⟨kvs, k, e, rfl, hl, rfl⟩


section
variable {X : Cx} {pins : List (Addr × Obj)} {σ : St} {H : Hp} {s : Shared} {a : Addr} {y v : V} {u r : Value} {o : Option V} {A : Around} {E : Value → Shared → Prop}

theorem Inv.big (I : Inv X pins σ H s) : sysModules < s.heap.objs.size := by
  have h : mainGlobals < s.heap.objs.size := (I.mod.glob.keeps I.bk).lt
  exact Nat.lt_trans (by decide) h

/-- d[y], there -/
theorem d_getItem {Q : Value → Shared → Prop} (hu : A.units + 1 < cLine) (I : Inv X pins σ H s) (g : DGet H a y (some v)) (ry : RelV y u) (h : ∀ w' s', Inv X pins σ H s' → RelV v w' → Q w' s') :
    wpAny (model X.prog X.w) A (getItem (.ref a) u) Q E s := by
  rcases g with ⟨kvs, k, e, ey, l⟩ | ⟨kvs, k, b, e, ey, eb, l⟩
  · subst ey
    obtain ⟨z, hd, vs, rel, dd⟩ := dk_rd I.hok e
    obtain ⟨w', hw, rw'⟩ := RelO.some_of (v := v) (o := valueAt vs k) (by rw [l]; exact rel.val k)
    exact wpAny_getItem_of (kV_is ry) dd.mapOf hw (h w' _ (I.tok _) rw')
  · subst ey
    cases (show u = Value.ref b from ry)
    obtain ⟨z, hd, xs, rel, dd⟩ := dt_rd I.hok e
    obtain ⟨w', hw, rw'⟩ := RelO.some_of (v := v) (o := (atKey xs k).map (·.2)) (by rw [l]; exact rel.val k)
    obtain ⟨p, hp, hp2⟩ := Option.map_eq_some_iff.mp hw
    refine wpAny_getItem_heap (tupleKind_room_in1 hu) (key_of I.hok eb) dd hp ?_
    rw [hp2]
    exact h w' _ (I.tok _) rw'
/-- a dict's object is replaced -/
theorem d_write {h' : Heap} {t' : Nat} {ob : HO} (I : Inv X pins σ H s) (mu : Mut (H a)) (hs : Heap.SameBut a s.heap h') (he : ∃ q, h'.get? a = some q) (new : ObjOk X.prog X.w (upd H a ob) h' a ob) :
    Inv X pins σ (upd H a ob) { s with heap := h', toks := t' } :=
  I.write (x := a) (e := a) mu (.inl rfl) (fun b q hb z => (hs.2 b hb).trans z) he new
theorem dk_new {P : Program} {w : World} {H' : Hp} {h' : Heap} {kvs : List (Key × V)} {vs : List (Key × Value)} (z : kvs.length ≤ sizeLine) (hd : (a == sysModules) = false) (rel : KV kvs vs) (dd : h'.DictOf (mixKind P w) a vs) :
    ObjOk P w H' h' a (.dK kvs) := ⟨z, hd, vs, rel, dd⟩
/-- d[y] = v -/
theorem d_setItem {H' : Hp} {Q : Unit → Shared → Prop} (hu : A.units + 1 < cLine) (I : Inv X pins σ H s) (g : DPut H a y v H') (ry : RelV y u) (rv : RelV v r) (h : ∀ s', Inv X pins σ H' s' → Q () s') :
    wpAny (model X.prog X.w) A (setItem (.ref a) u r) Q E s := by
  rcases g with ⟨kvs, k, e, ey, l, eH⟩ | ⟨kvs, k, b, e, ey, eb, l, eH⟩
  · subst ey eH
    obtain ⟨z, hd, vs, rel, dd⟩ := dk_of I.hok e
    have hz : vs.length ≤ sizeLine := by rw [← rel.length]; exact z
    have hl : (putK kvs k v).length ≤ sizeLine := by have := length_putK kvs k v; omega
    refine wpAny_setItem_pairs (hsz := hz) (kV_is ry) dd fun h' dd' hs => h _ ?_
    have he : ∃ q, h'.get? a = some q := let ⟨q, _, _, hq, _⟩ := dd'; ⟨q, hq⟩
    exact d_write I (by rw [e]; exact True.intro) hs he (dk_new hl hd (rel.put k rv) dd')
  · subst ey eH
    cases (show u = Value.ref b from ry)
    obtain ⟨z, hd, xs, rel, dd⟩ := dt_of I.hok e
    have hz : xs.length ≤ sizeLine := by rw [← Paired.length rel]; exact z
    have hl : (putK kvs k v).length ≤ sizeLine := by have := length_putK kvs k v; omega
    refine wpAny_setItem_heap (hsz := hz) (tupleKind_room_in1 hu) (key_of I.hok eb) dd fun h' dd' hs => h _ ?_
    obtain ⟨q, es, ep, hq, h2, h3, h4, _, h5⟩ := dd'
    refine d_write I (by rw [e]; exact True.intro) hs ⟨q, hq⟩ ⟨hl, hd, _, (rel.put k eb rv).keeps fun c ys ec => ?_, q, es, ep, hq, h2, h3, h4, h5⟩
    rw [upd_ne (ne_of ec e (fun z => nomatch z))]
    exact ec
end

section
variable {X : Cx} {pins : List (Addr × Obj)} {σ : St} {H : Hp} {s : Shared} {a : Addr} {kvs : List (Key × V)} {k : Key} {u : Value} {A : Around} {E : Value → Shared → Prop}
end


/-! ### readings and rules -/
/-- the element of a subscription, not a slice -/
def NoSl (i : Expr) : Prop := ∀ ov iv, subscripted i false ov iv = operate [ov, iv] (getItem ov iv)
theorem subD_of {prog : Program} {w : World} {A : Around} {E : Value → Shared → Prop} {s : Shared} {env : Env} {value slice : Expr} {pos : Pos} {T id : String} {Q : Value → Shared → Prop}
    (hl : typeLookup (.type T) "__getitem__" = pure (some (.builtin id))) (hs : NoSl slice)
    (h : wpAny (model prog w) A (eval value env) (fun o s₁ => wpAny (model prog w) A (eval slice env) (fun i s₂ => s₂.TypeIs o T ∧ wpAny (model prog w) A (getItem o i) Q E s₂) E s₁) E s) :
    wpAny (model prog w) A (eval (.Subscript value slice pos) env) Q E s := by
  refine Subscript_ (wpAny_mono h (fun o s₁ h₁ => wpAny_mono h₁ (fun i s₂ h₂ => ?_) fun _ _ x => x) fun _ _ x => x)
  obtain ⟨hT, h₂⟩ := h₂
  unfold subscriptTail
  refine wpAny_bind ?_
  rw [getitemInPython_of_ne hT.not_modules]
  refine wpAny_bind (wpAny_specialOf hT hl ?_)
  have fin : wpAny (model prog w) A (subscripted slice false o i) (fun r s₃ => wpAny (model prog w) A (letTemporaryGo value o r >>= fun _ => pure r) Q E s₃) E s₂ := by
    rw [hs o i]
    exact wpAny_operating (wpAny_mono h₂ (fun r s₃ h₃ => wpAny_bind (wpAny_letTemporaryGo (wpAny_pure h₃))) fun _ _ x => x)
  first
    | exact wpAny_pure (wpAny_bind fin)
    | exact wpAny_bind (wpAny_pure (wpAny_bind fin))
    | exact wpAny_bind fin

theorem dict_typeIs {X : Cx} {pins : List (Addr × Obj)} {σ : St} {H : Hp} {s : Shared} {a : Addr} {y : V} {o : Option V} (I : Inv X pins σ H s) (g : DGet H a y o) : s.TypeIs (.ref a) "dict" := by
  rcases g with ⟨kvs, k, e, _, _⟩ | ⟨kvs, k, b, e, _, _, _⟩
  · obtain ⟨_, _, vs, _, dd⟩ := dk_rd I.hok e
    exact dd.typeIs
  · obtain ⟨_, _, xs, _, dd⟩ := dt_rd I.hok e
    exact dd.typeIs

/-- d[y] -/
def tDGet (td ty : TE) : TE := fun σ H Q => td σ H fun x H1 => ty σ H1 fun y H2 => ∃ a v, x = .ref a ∧ DGet H2 a y (some v) ∧ Q v H2
/-- y in d, y not in d -/
def tDIn (ty td : TE) : TE := fun σ H Q => ty σ H fun y H1 => td σ H1 fun x H2 => ∃ a o, x = .ref a ∧ DGet H2 a y o ∧ Q (.bl o.isSome) H2
def tDNotIn (ty td : TE) : TE := fun σ H Q => ty σ H fun y H1 => td σ H1 fun x H2 => ∃ a o, x = .ref a ∧ DGet H2 a y o ∧ Q (.bl (!o.isSome)) H2
/-- d[y] = v -/
def sDPut (td ty tv : TE) : TS := fun D σ H => tv σ H fun v H1 => td σ H1 fun x H2 => ty σ H2 fun y H3 => ∃ a H4, x = .ref a ∧ DPut H3 a y v H4 ∧ D.nx σ H4
/-- d[y] op= v -/
def sDAug (td ty tv : TE) (rd : V → V → Hp → VK → Prop) : TS := fun D σ H => td σ H fun x H1 => ty σ H1 fun y H2 => ∃ a v, x = .ref a ∧ DGet H2 a y (some v) ∧
  tv σ H2 fun y2 H3 => rd v y2 H3 fun z H4 => ∃ H5, DPut H4 a y z H5 ∧ D.nx σ H5
/-- del d[y] -/
def sDDel (td ty : TE) : TS := fun D σ H => td σ H fun x H1 => ty σ H1 fun y H2 => ∃ a kvs k, x = .ref a ∧ H2 a = some (.dK kvs) ∧ y = kV k ∧ (valV kvs k).isSome = true ∧ D.nx σ (upd H2 a (.dK (dropK kvs k)))

section
variable {X : Cx} {o i e value : Expr} {pos pos' tpos : Pos} {td ty tv : TE}
theorem pe_dget (hu : X.A.units + 1 < cLine) (ho : PE X o td) (hi : PE X i ty) (hs : NoSl i) : PE X (.Subscript o i pos) (tDGet td ty) := by
  intro pins s σ H Q I h
  refine subD_of PySem.F.slot_dict_getitem.lookup hs (thn (ho pins s σ H _ I h) fun u s1 ⟨x, H1, I1, rx, q1⟩ => thn (hi pins s1 σ H1 _ I1 q1) fun iv s2 ⟨y, H2, I2, ry, a, v, ex, g, q2⟩ => ?_)
  subst ex
  obtain rfl : u = Value.ref a := rx
  exact ⟨dict_typeIs I2 g, d_getItem hu I2 g ry fun w' s3 I3 rw' => ⟨v, H2, I3, rw', q2⟩⟩
theorem ps_dput (hu : X.A.units + 1 < cLine) (ho : PE X o td) (hi : PE X i ty) (hv : PE X value tv) (hs : swapsWith value (some (.Subscript o i pos')) pos.line X.env = pure false) :
    PS X (.Assign [.Subscript o i pos'] value pos) (sDPut td ty tv) := by
  intro pins s σ H D I h
  refine wpAny_Assign_Subscript (thn (hv pins s σ H _ I h) fun r s1 ⟨v, H1, I1, rv, q1⟩ => thn (ho pins s1 σ H1 _ I1 q1) fun u s2 ⟨x, H2, I2, rx, q2⟩ => thn (hi pins s2 σ H2 _ I2 q2) fun iv s3 ⟨y, H3, I3, ry, a, H4, ex, g, q3⟩ => ?_) hs
  subst ex
  obtain rfl : u = Value.ref a := rx
  exact d_setItem hu I3 g ry rv fun s4 I4 => ⟨σ, H4, I4, q3⟩
end


/-! ### displays -/
theorem dk_empty {P : Program} {w : World} {H : Hp} (h : Heap) (hb : sysModules < h.objs.size) : ObjOk P w H (h.push { cls := .type "dict", data := .dict #[] }) h.objs.size (.dK []) :=
  ⟨Nat.zero_le _, beq_eq_false_iff_ne.mpr (Ne.symm (Nat.ne_of_lt hb)), [], .nil, Heap.DictOf.new h⟩
/-- {}, to be a dict of the kind that is wanted -/
def tDNewK : TE := fun _ H Q => ∀ p, H p = none → Q (.ref p) (upd H p (.dK []))
def tDNewT : TE := fun _ H Q => ∀ p, H p = none → Q (.ref p) (upd H p (.dT []))
section
variable {X : Cx} {pos : Pos}
end

/-- the pairs of a display, from the left -/
def tPairs : List (TE × TE) → St → Hp → (List (V × V) → Hp → Prop) → Prop
  | [], _, H, Q => Q [] H
  | (tk, tv) :: r, σ, H, Q => tk σ H fun x H1 => tv σ H1 fun y H2 => tPairs r σ H2 fun ps H3 => Q ((x, y) :: ps) H3
abbrev VV : List (V × V) → List (Value × Value) → Prop := Paired fun p q => RelV p.1 q.1 ∧ RelV p.2 q.2
def PPs (X : Cx) (pos : Pos) (keys : List (Option Expr)) (values : List Expr) (trs : List (TE × TE)) : Prop :=
  ∀ (pins : List (Addr × Obj)) (s : Shared) (σ : St) (H : Hp) (Q : List (V × V) → Hp → Prop), Inv X pins σ H s → tPairs trs σ H Q →
    wpAny (model X.prog X.w) X.A (evalPairs (pairTrees keys values X.env pos)) (fun vs s' => ∃ ps H', Inv X pins σ H' s' ∧ VV ps vs ∧ Q ps H') X.xe s
theorem pps_nil {X : Cx} {pos : Pos} : PPs X pos [] [] [] := fun pins s σ H Q I h => pairTrees_nil_walk ⟨[], H, I, .nil, h⟩
theorem pps_cons {X : Cx} {pos : Pos} {k v : Expr} {ks : List (Option Expr)} {vs : List Expr} {tk tv : TE} {trs : List (TE × TE)} (hk : PE X k tk) (hv : PE X v tv) (hr : PPs X pos ks vs trs) :
    PPs X pos (some k :: ks) (v :: vs) ((tk, tv) :: trs) := fun pins s σ H Q I h =>
  pairTrees_cons_walk (thn (hk pins s σ H _ I h) fun u s1 ⟨x, H1, I1, rx, q1⟩ => thn (hv pins s1 σ H1 _ I1 q1) fun w2 s2 ⟨y, H2, I2, ry, q2⟩ =>
    thn (hr pins s2 σ H2 _ I2 q2) fun ws s3 ⟨ps, H3, I3, rel, q3⟩ => ⟨(x, y) :: ps, H3, I3, .cons ⟨rx, ry⟩ rel, q3⟩)

def mergeK (kvs more : List (Key × V)) : List (Key × V) := more.foldl (fun acc kv => putK acc kv.1 kv.2) kvs
theorem KV.merge : ∀ {more : List (Key × V)} {rs : List (Key × Value)} {kvs : List (Key × V)} {vs : List (Key × Value)}, KV more rs → KV kvs vs → KV (mergeK kvs more) (merged vs rs) := by
  intro more rs kvs vs r
  unfold KV at r
  induction r generalizing kvs vs with
  | nil => intro q; exact q
  | @cons p q ps qs h t ih =>
    intro r0
    have e : KV (putK kvs p.1 p.2) (stored vs q.1 q.2) := by
      have := r0.put p.1 h.2
      rw [← h.1]; exact this
    exact ih e
theorem length_mergeK : ∀ (more kvs : List (Key × V)), (mergeK kvs more).length ≤ kvs.length + more.length
  | [], kvs => by show kvs.length ≤ kvs.length + 0; omega
  | p :: r, kvs => by
    have h1 := length_mergeK r (putK kvs p.1 p.2)
    have h2 := length_putK kvs p.1 p.2
    show (mergeK (putK kvs p.1 p.2) r).length ≤ _
    rw [List.length_cons]; omega
theorem carries_of {P : Program} {w : World} : ∀ {kvs : List (Key × V)} {ws : List (Value × Value)}, VV (kvs.map fun kv => (kV kv.1, kv.2)) ws → ∃ rs, Carries (mixKind P w) ws rs ∧ KV kvs rs
  | [], _, r => by rw [List.map_nil] at r; cases r; exact ⟨[], True.intro, .nil⟩
  | p :: kvs, _, r => by
    rw [List.map_cons] at r
    cases r with
    | @cons a b as bs h t =>
      obtain ⟨rs, c, q⟩ := carries_of (P := P) (w := w) t
      obtain ⟨b1, b2⟩ := b
      exact ⟨(p.1, b2) :: rs, ⟨kV_is h.1, rfl, c⟩, .cons ⟨rfl, h.2⟩ q⟩
/-- {k: v, ..} with keys ints and texts; the new dict stands empty while the pairs are made -/
def tDisp (trs : List (TE × TE)) : TE := fun σ H Q => ∀ p, H p = none → tPairs trs σ (upd H p (.dK [])) fun ps H2 => H2 p = some (.dK []) ∧ ∃ kvs : List (Key × V), ps = kvs.map (fun kv => (kV kv.1, kv.2)) ∧ kvs.length ≤ 15 ∧ Q (.ref p) (upd H2 p (.dK (mergeK [] kvs)))
theorem pe_disp {X : Cx} {pos : Pos} {keys : List (Option Expr)} {values : List Expr} {trs : List (TE × TE)} (h : PPs X pos keys values trs) (hall : keys.all (·.isSome) = true) (hl : keys.length = values.length) (h0 : keys ≠ [])
    (h15 : keys.length ≤ 15) : PE X (.Dict keys values pos) (tDisp trs) := by
  intro pins s σ H Q I q
  have hn := I.hok.fresh (Nat.le_refl s.heap.objs.size)
  have I1 := I.laid (a := s.heap.objs.size) (o := .dK []) (h' := s.heap.push { cls := .type "dict", data := .dict #[] }) (t' := s.toks) (fun _ _ q => Heap.get?_push_of_some _ q) (Nat.le_refl _) (dk_empty s.heap I.big)
  refine wpAny_Dict_walk (knd := mixKind X.prog X.w) hall hl h0 h15 (thn (h pins _ σ _ _ I1 (q _ hn)) fun ws s2 ⟨ps, H2, I2, rel, e, kvs, ep, lk, q2⟩ => ?_)
  subst ep
  obtain ⟨rs, c, rk⟩ := carries_of (P := X.prog) (w := X.w) rel
  obtain ⟨z, hd, vs0, r0, dd⟩ := dk_of I2.hok e
  cases r0
  refine ⟨rs, c, dd, fun h' dd' hs => ⟨.ref s.heap.objs.size, _, ?_, rfl, q2⟩⟩
  have hz : (mergeK [] kvs).length ≤ sizeLine := by
    have h1 := length_mergeK kvs []
    rw [List.length_nil] at h1
    rw [sizeLine_eq]; omega
  have he : ∃ q, h'.get? s.heap.objs.size = some q := let ⟨q, _, _, hq, _⟩ := dd'; ⟨q, hq⟩
  exact d_write I2 (by rw [e]; exact True.intro) hs he (dk_new hz hd (rk.merge .nil) dd')


/-! ### methods -/
/-- a method call o.m(e) of a built-in, with one argument: what must be seen of the text -/
structure M1 (X : Cx) (o : Expr) (m : Str) (apos : Pos) (e : Expr) (cpos : Pos) : Prop where
  base : attributeBase o m X.env (eval o X.env) = eval o X.env
  few : ((backTo cpos (starEach [e] X.env)).all (fun x => !x.1) && (backToKw cpos (keywordEach [] X.env)).all (fun x => x.1.isSome)
    && decide (([e] : List Expr).length + ([] : List Keyword).length + (if ([] : List Keyword).isEmpty then 0 else 1) < 30)) = true
  line : (apos.endLine == cpos.line) = true
  trees : backTo cpos (starEach [e] X.env) = [(false, eval e X.env)]
structure M2 (X : Cx) (o : Expr) (m : Str) (apos : Pos) (e f : Expr) (cpos : Pos) : Prop where
  base : attributeBase o m X.env (eval o X.env) = eval o X.env
  few : ((backTo cpos (starEach [e, f] X.env)).all (fun x => !x.1) && (backToKw cpos (keywordEach [] X.env)).all (fun x => x.1.isSome)
    && decide (([e, f] : List Expr).length + ([] : List Keyword).length + (if ([] : List Keyword).isEmpty then 0 else 1) < 30)) = true
  line : (apos.endLine == cpos.line) = true
  trees : backTo cpos (starEach [e, f] X.env) = [(false, eval e X.env), (false, eval f X.env)]

/-- a is a dict, whatever its keys -/
def IsD (H : Hp) (a : Addr) : Prop := (∃ kvs, Rd H a (.dK kvs)) ∨ ∃ kvs, Rd H a (.dT kvs)
theorem isD_at {X : Cx} {pins : List (Addr × Obj)} {σ : St} {H : Hp} {s : Shared} {a : Addr} (I : Inv X pins σ H s) (d : IsD H a) :
    s.TypeIs (.ref a) "dict" ∧ (∀ b, Value.ref a = .ref b → ∃ ob, s.heap.get? b = some ob ∧ ob.dict = none) ∧ (a == sysModules) = false := by
  rcases d with ⟨kvs, e⟩ | ⟨kvs, e⟩
  · obtain ⟨_, hd, vs, _, dd⟩ := dk_rd I.hok e
    refine ⟨dd.typeIs, fun b q => ?_, hd⟩
    cases q
    obtain ⟨ob, _, _, h1, h2, _⟩ := dd
    exact ⟨ob, h1, h2.2.1⟩
  · obtain ⟨_, hd, xs, _, dd⟩ := dt_rd I.hok e
    refine ⟨dd.typeIs, fun b q => ?_, hd⟩
    cases q
    obtain ⟨ob, _, _, h1, h2, _⟩ := dd
    exact ⟨ob, h1, h2.2.1⟩

section
variable {X : Cx} {pins : List (Addr × Obj)} {σ : St} {H : Hp} {s : Shared} {a : Addr} {y d : V} {u r : Value} {o : Option V} {A : Around} {E : Value → Shared → Prop}
/-- d.get(y, x) -/
theorem d_get2 {Q : Value → Shared → Prop} (hu : A.units + 1 < cLine) (I : Inv X pins σ H s) (g : DGet H a y o) (ry : RelV y u) (rd : RelV d r) (h : ∀ w' s', Inv X pins σ H s' → RelV (o.getD d) w' → Q w' s') :
    wpAny (model X.prog X.w) A (call (.builtin "dict.get") [.ref a, u, r]) Q E s := by
  rcases g with ⟨kvs, k, e, ey, l⟩ | ⟨kvs, k, b, e, ey, eb, l⟩
  · subst ey
    obtain ⟨z, hd, vs, rel, dd⟩ := dk_rd I.hok e
    refine call_meetsIn PySem.F.slot_dict_get dd.typeIs PySem.F.entry_dict_get (PySem.F.args_dict_get_3 _ _ _) (meets_dict_get_default (mixKind X.prog X.w) a (kV_is ry) hd r) ⟨_, dd.mapOf, h _ _ (I.tok _) ?_⟩
    rw [l]
    exact (rel.val k).getD rd
  · subst ey
    cases (show u = Value.ref b from ry)
    obtain ⟨z, hd, xs, rel, dd⟩ := dt_rd I.hok e
    refine call_meetsIn PySem.F.slot_dict_get dd.typeIs PySem.F.entry_dict_get (PySem.F.args_dict_get_3 _ _ _) (meetsH_dict_get_default (tupleKind (mixKind X.prog X.w)) a b hd r) ⟨tupleKind_room_in1 hu, k, xs, key_of I.hok eb, dd, h _ _ (I.tok _) ?_⟩
    rw [l]
    exact (rel.val k).getD rd
end

def tDGet1 (td ty : TE) : TE := fun σ H Q => td σ H fun x H1 => ∃ a, x = .ref a ∧ IsD H1 a ∧ ty σ H1 fun y H2 => ∃ o, DGet H2 a y o ∧ Q (o.getD .non) H2
def tDGet2 (td ty tx : TE) : TE := fun σ H Q => td σ H fun x H1 => ∃ a, x = .ref a ∧ IsD H1 a ∧ ty σ H1 fun y H2 => tx σ H2 fun z H3 => ∃ o, DGet H3 a y o ∧ Q (o.getD z) H3
/-- d.pop(k): there; d.pop(k, x): there or not -/
def tDPop1 (td ty : TE) : TE := fun σ H Q => td σ H fun x H1 => ∃ a, x = .ref a ∧ IsD H1 a ∧ ty σ H1 fun y H2 => ∃ kvs k v, H2 a = some (.dK kvs) ∧ y = kV k ∧ valV kvs k = some v ∧ Q v (upd H2 a (.dK (dropK kvs k)))
def tDPop2 (td ty tx : TE) : TE := fun σ H Q => td σ H fun x H1 => ∃ a, x = .ref a ∧ IsD H1 a ∧ ty σ H1 fun y H2 => tx σ H2 fun z H3 => ∃ kvs k, H3 a = some (.dK kvs) ∧ y = kV k ∧
  (∀ v, valV kvs k = some v → Q v (upd H3 a (.dK (dropK kvs k)))) ∧ (valV kvs k = none → Q z H3)
section
variable {X : Cx} {o e f : Expr} {apos cpos : Pos} {td ty tx : TE}
theorem pe_dget2 (hu : X.A.units + 1 < cLine) (ho : PE X o td) (he : PE X e ty) (hf : PE X f tx) (m : M2 X o "get" apos e f cpos) : PE X (.Call (.Attribute o "get" apos) [e, f] [] cpos) (tDGet2 td ty tx) := by
  intro pins s σ H Q I h
  refine wpAny_Call_method m.base m.few m.line PySem.F.plainAttrs_dict PySem.F.slot_dict_get PySem.F.type_dict_get (thn (ho pins s σ H _ I h) fun u s1 ⟨x, H1, I1, rx, a, ex, d, q1⟩ => ?_)
  subst ex
  obtain rfl : u = Value.ref a := rx
  obtain ⟨t1, t2, _⟩ := isD_at I1 d
  refine ⟨t1, t2, ?_⟩
  rw [m.trees]
  refine Calls.callWith_builtin rfl (Calls.evalArgs_plain (Calls.spliced_cons (thn (he pins s1 σ H1 _ I1 q1) fun iv s2 ⟨y, H2, I2, ry, q2⟩ =>
    Calls.spliced_cons (thn (hf pins s2 σ H2 _ I2 q2) fun fv s3 ⟨z, H3, I3, rz, ov, g, q3⟩ => Calls.spliced_nil ?_))))
  exact d_get2 hu I3 g ry rz fun w' s4 I4 rw' => ⟨_, H3, I4, rw', q3⟩
end

/-! ### dict(d): a copy -/
section
variable {X : Cx} {pins : List (Addr × Obj)} {σ : St} {H : Hp} {s : Shared} {a : Addr} {kvs : List (Key × V)} {A : Around} {E : Value → Shared → Prop}
end


section
variable {X : Cx} {pins : List (Addr × Obj)} {σ : St} {H : Hp} {s : Shared} {a : Addr} {y : V} {u : Value} {A : Around} {E : Value → Shared → Prop}
end
end L2

namespace L2
open PySem PySem.Spec PyProof.Rows


section
variable {prog : Program} {w : World} {A : Around} {E : Value → Shared → Prop}


end

section
variable {X : Cx}
end
end L2

namespace L2
open PySem PySem.Spec PyProof.Rows


section
variable {X : Cx} {pins : List (Addr × Obj)} {σ : St} {H : Hp} {s : Shared} {h' : Heap}
/-- several records of ours have turned -/
theorem Inv.turnedL {t' : Nat} {ch : List Addr} (I : Inv X pins σ H s) (k : ∀ b o, b ∉ ch → s.heap.get? b = some o → h'.get? b = some o) (hf : ∀ b ∈ ch, FpOk X pins H b) : Inv X pins σ H { s with heap := h', toks := t' } := by
  have nit : ∀ b u, H b = some u → b ∉ ch := fun b u e z => by
    have q := (hf b z).1
    rw [q] at e; cases e
  refine I.step (g' := s.gens) (d' := s.drawn) (ch := ch) (fun b hb => ⟨(hf b hb).2.2.2.1, (hf b hb).2.1, (hf b hb).2.2.2.2.1, (hf b hb).2.2.2.2.2⟩) (fun b o _ _ hc e _ => k b o hc e) (fun b o _ _ hc e _ => ⟨o.slots, k b o hc e⟩)
    (fun _ _ _ _ n => n) (fun b o hc e => ⟨o, k b o hc e⟩) (fun _ _ e => e) (fun _ _ _ e => e) (fun b ps e => ⟨#[], by rw [e]; simp⟩) (fun m hm => ?_) (fun b u e => ?_) I.bare
  · obtain ⟨o, es, ep, ho, r⟩ := hm
    exact ⟨o, es, ep, k _ o (fun z => (hf _ z).2.1 rfl) ho, r⟩
  · refine (I.hok b u e).stay (fun c v hc q => k c v ?_ q) (fun _ q => q) fun _ _ q => q
    rcases hc with z | z
    · rw [z]; exact nit b u e
    · exact nit c _ z
/-- .. and one new object is laid -/
theorem Inv.turnedNew {t' : Nat} {ch : List Addr} {T : Addr} {ob : HO} (I : Inv X pins σ H s) (k : ∀ b o, b ∉ ch → s.heap.get? b = some o → h'.get? b = some o) (hf : ∀ b ∈ ch, FpOk X pins H b) (hT : s.heap.objs.size ≤ T)
    (new : ObjOk X.prog X.w (upd H T ob) h' T ob) : Inv X pins σ (upd H T ob) { s with heap := h', toks := t' } := by
  have hn : H T = none := I.hok.fresh hT
  have nit : ∀ b u, H b = some u → b ∉ ch := fun b u e z => by
    have q := (hf b z).1
    rw [q] at e; cases e
  refine I.step (g' := s.gens) (d' := s.drawn) (ch := ch) (fun b hb => ⟨(hf b hb).2.2.2.1, (hf b hb).2.1, (hf b hb).2.2.2.2.1, (hf b hb).2.2.2.2.2⟩) (fun b o _ _ hc e _ => k b o hc e) (fun b o _ _ hc e _ => ⟨o.slots, k b o hc e⟩)
    (fun b o _ e n => ?_) (fun b o hc e => ⟨o, k b o hc e⟩) (fun b xs e => ?_) (fun b o u e => ?_) (fun b ps e => ⟨#[], ?_⟩) (fun m hm => ?_) (fun b u e => ?_) I.bare
  · rw [upd_ne (Nat.ne_of_lt (Nat.lt_of_lt_of_le (Heap.lt_size e) hT))]; exact n
  · rw [upd_ne (ne_of_none e hn)]; exact e
  · rw [upd_ne (ne_of_none e hn)]; exact e
  · rw [upd_ne (ne_of_none e hn), e]; simp
  · obtain ⟨o, es, ep, ho, r⟩ := hm
    exact ⟨o, es, ep, k _ o (fun z => (hf _ z).2.1 rfl) ho, r⟩
  · by_cases hb : b = T
    · subst hb
      rw [upd_same] at e
      cases e
      exact new
    · rw [upd_ne hb] at e
      refine (I.hok b u e).stay (fun c v hc q => k c v ?_ q) (fun c q => by rw [upd_ne (ne_of_none q hn)]; exact q) fun c xs q => by rw [upd_ne (ne_of_none q hn)]; exact q
      rcases hc with z | z
      · rw [z]; exact nit b u e
      · exact nit c _ z

/-! ### locking a thing while a statement runs -/
end
/-- the statement runs while the thing at d is locked (read, not written); d and what stands there are the reading's choice -/
def tLock (t : TS) : TS := fun D σ H => ∃ d u, H d = some u ∧ Mut (some u) ∧ ∀ od, t ⟨fun σ' H' => H' d = some (.frz od u) ∧ D.nx σ' (upd H' d u), fun v H' => H' d = some (.frz od u) ∧ D.rt v (upd H' d u), fun σ' H' => H' d = some (.frz od u) ∧ D.bk σ' (upd H' d u), fun σ' H' => H' d = some (.frz od u) ∧ D.ct σ' (upd H' d u)⟩ σ (upd H d (.frz od u))
def tLockE (t : TE) : TE := fun σ H Q => ∃ d u, H d = some u ∧ Mut (some u) ∧ ∀ od, t σ (upd H d (.frz od u)) fun v H' => H' d = some (.frz od u) ∧ Q v (upd H' d u)
section
variable {X : Cx}

/-! ### one iterator just laid -/
theorem pi_one {tg : Expr} {pins : List (Addr × Obj)} {σ : St} {H : Hp} {s : Shared} {R : It → Hp → Prop} {J : It} {tn : Nat → Heap → Prop} {tk : Nat} (I : Inv X pins σ H s) (o : Obj)
    (T : Turn X.prog X.w X.K tg J [s.heap.objs.size] s.heap.objs.size tn) (st : tn 0 (s.heap.push o)) (q : R J H) : PIE X pins σ tg R (.ref s.heap.objs.size) { s with heap := s.heap.push o, toks := tk } := by
  refine ⟨s.heap.objs.size, [s.heap.objs.size], tn, J, H, rfl, I.kept fun b ob e => Heap.get?_push_of_some _ e, T, st, fun b hb => ?_, q⟩
  have e : b = s.heap.objs.size := by simpa using hb
  subst e
  exact I.fpOk (Nat.le_refl _) (I.hok.fresh (Nat.le_refl _))
end

/-! ### range with a step -/
/-- lo, lo + c, .. (n of them) -/
def Itc (lo c : Int) (n : Nat) : It := ⟨fun i _ => i < n, fun i H x H' => H' = H ∧ x = .int (lo + (i : Nat) * c), fun i _ => n ≤ i⟩
/-- range(i, j, c): small bounds, n items -/
def RgC (i j c : Int) (n : Nat) : Prop := c ≠ 0 ∧ c.natAbs < 1073741824 ∧ Builtin.Range.small i j c = true ∧ Builtin.Range.rangeSize i j c = n
def iRng3 (ta : TA) : TI := fun σ H R => ta σ H fun vs H1 => ∃ (i j c : Int) (n : Nat), vs = [.int i, .int j, .int c] ∧ RgC i j c n ∧ R (Itc i c n) H1
section
variable {X : Cx} {tg : Expr}
end

/-! ### reversed(list) -/
/-- the list at a (n items at the start, which the loop leaves there), from its end -/
def Itv (K : PySem.W.Frag) (a : Addr) (n : Nat) : It :=
  ⟨fun i H => i < n ∧ ∃ (xs : List V) (x : V), SqL K H a xs ∧ xs[n - 1 - i]? = some x, fun i H x H' => H' = H ∧ ∀ xs, SqL K H a xs → xs[n - 1 - i]? = some x, fun i _ => n ≤ i⟩
def iRev (K : PySem.W.Frag) (ta : TA) : TI := fun σ H R => ta σ H fun vs H1 => ∃ (a : Addr) (xs : List V), vs = [.ref a] ∧ SqL K H1 a xs ∧ R (Itv K a xs.length) H1
section
variable {X : Cx} {tg : Expr}
end

/-! ### a str -/
def Its (x : Str) : It := ⟨fun i _ => i < x.cps.size, fun i H v H' => H' = H ∧ ∃ c, x.cps[i]? = some c ∧ v = .str ⟨#[c]⟩, fun i _ => x.cps.size ≤ i⟩
theorem turn_str {P : Program} {w : World} {K : PySem.W.Frag} {tg : Expr} (it : Addr) (x : Str) (t : Tok) (ty : String) (hty : ty = "str_ascii_iterator" ∨ ty = "str_iterator") :
    Turn P w K tg (Its x) [it] it (fun i h => h.IsStrIter it ty x t i) where
  mem := by simp
  obj := fun i h st b hb => by
    have e : b = it := by simpa using hb
    subst e
    obtain ⟨o, e, c, d⟩ := st
    exact ⟨o, e, fun v z => by rw [d] at z; cases z⟩
  keep := fun i h h' st k => let ⟨o, ho, r⟩ := st; ⟨o, k it (by simp) o ho, r⟩
  item := by
    intro X hP hw hK hc i pins s σ H E I hf st hg
    subst hP hw hK
    obtain ⟨f0, f1, f2, f3, f4, f5⟩ := hf it (by simp)
    have W : Walks X.prog X.w X.A it [it] [it] x.cps.size (SignAt x) (fun i h => h.IsStrIter it ty x t i) := by
      rcases hty with e | e
      · rw [e]; exact Walks.strAscii (I.ok.hd hc) it x t
      · rw [e]; exact Walks.strWide (I.ok.hd hc) it x t
    have hno : ["enumerate", "zip", "dict_itemiterator", "dict_reverseitemiterator", "odict_iterator", "itertools.zip_longest", "itertools.pairwise"].contains ty = false := by
      rcases hty with e | e
      · rw [e]; decide
      · rw [e]; decide
    refine W.item i s _ _ hg st fun v h' tk hv st' kk => ?_
    obtain ⟨c, u, hcx, rfl⟩ := hv
    have I1 : Inv X pins σ H { s with heap := h', toks := tk } := I.turned (fun b o hb e => kk b o (by simpa using hb) e) f0 f1 f3 f4 f5
    obtain ⟨oi, e, cc, dd⟩ := id st'
    exact ⟨_, rfl, go_of (s := { s with heap := h', toks := tk }) e cc dd hno ⟨.str ⟨#[c]⟩, H, I1, ⟨u, rfl⟩, ⟨rfl, c, hcx, rfl⟩, st', fun b hb => (hf b hb).1⟩⟩
  done := by
    intro X hP hw hK hc i pins s σ H E I hf st hg
    subst hP hw hK
    obtain ⟨f0, f1, f2, f3, f4, f5⟩ := hf it (by simp)
    have hx : x.cps[i]? = none := Array.getElem?_eq_none hg
    rcases hty with e | e
    · rw [e] at st
      exact wpAny_pyNext_ascii_end (I.ok.hd hc) st hx fun h' eb => ⟨rfl, I.turned (t' := s.toks) (fun b o hb e => eb b o hb e) f0 f1 f3 f4 f5⟩
    · rw [e] at st
      exact wpAny_pyNext_wide_end (I.ok.hd hc) st hx fun h' eb => ⟨rfl, I.turned (t' := s.toks) (fun b o hb e => eb b o hb e) f0 f1 f3 f4 f5⟩
  self := fun A i s Q E st h => by
    rcases hty with e | e
    · rw [e] at st; exact wpAny_pyIter_striter_ascii st h
    · rw [e] at st; exact wpAny_pyIter_striter_wide st h
def iStr (te : TE) : TI := fun σ H R => te σ H fun v H1 => ∃ x, v = .str x ∧ R (Its x) H1
theorem pi_str {X : Cx} {tg e : Expr} {te : TE} (he : PE X e te) : PI X tg e (iStr te) := by
  intro pins s σ H R I h
  refine thn (he pins s σ H _ I h) fun v s1 ⟨y, H1, I1, r1, x, ex, q⟩ => ?_
  subst ex
  obtain ⟨t, rfl⟩ := r1
  cases ha : x.cps.all (· < 128)
  · exact wpAny_pyIter_wide ha (pi_one (tk := s1.toks) I1 _ (turn_str _ x t "str_iterator" (.inr rfl)) ⟨_, Heap.get?_push_size _ rfl, rfl, rfl⟩ q)
  · exact wpAny_pyIter_ascii ha (pi_one (tk := s1.toks) I1 _ (turn_str _ x t "str_ascii_iterator" (.inl rfl)) ⟨_, Heap.get?_push_size _ rfl, rfl, rfl⟩ q)

/-! ### a dict's keys: any dict's entries -/
section
variable {prog : Program} {w : World} {A : Around} {E : Value → Shared → Prop} {s : Shared}
theorem iter_keys {d : Addr} {o : Obj} {es : Array DictEntry} {ep : Nat} {Q : Value → Shared → Prop} (hd : (d == sysModules) = false) (ho : s.heap.get? d = some o) (hc : o.ExactDict) (hdat : o.data = .dict es ep)
    (hQ : Q (.ref s.heap.objs.size) { s with heap := s.heap.push { cls := .type "dict_keyiterator", data := .fields #[.ref d, .int 0 0, .int es.size 0, .int ep 0] } }) :
    wpAny (model prog w) A (pyIter (.ref d)) Q E s := by
  have hT : s.TypeIs (.ref d) "dict" := ⟨o, ho, hc.1⟩
  refine wpAny_pyIter_slot hT F.slot_dict_iter (wpAny_call_entry F.slot_dict_iter hT F.entry_dict_iter ?_ (F.args_dict_iter_1 _))
  unfold Builtin.«dict.__iter__»
  refine wpAny_bind ?_
  unfold Builtin.Dict.dictSlotNone
  refine wpAny_bind (wpAny_notOrdered_dict hT ?_)
  show wpAny _ _ (pure (Value.ref d)) _ _ s
  refine wpAny_pure ?_
  show wpAny _ _ (Builtin.Dict.showsAll d >>= _) _ _ s
  unfold Builtin.Dict.showsAll
  rw [if_neg (by rw [hd]; exact Bool.false_ne_true)]
  refine wpAny_bind (wpAny_pure ?_)
  refine wpAny_bind (wpAny_dictEntries ho hdat ?_)
  refine wpAny_bind (wpAny_dictEpoch ho hdat ?_)
  refine wpAny_bind (wpAny_newObj_type (wpAny_pure ⟨_, rfl, "dict_keyiterator", _, ⟨_, Heap.get?_push_size _ rfl, rfl⟩, F.slot_dict_keyiterator_next.lookup, ?_⟩))
  simpa [rawInt] using hQ
end

/-! ### a locked dict -/
section
variable {X : Cx} {pins : List (Addr × Obj)} {σ : St} {H : Hp} {s : Shared} {d : Addr} {o : Obj}
end

/-- the keys of the locked dict at d, in their order -/
def Itk (d : Addr) (o : Obj) (kvs : List (Key × V)) : It :=
  ⟨fun i H => H d = some (.frz o (.dK kvs)) ∧ i < kvs.length, fun i H x H' => H' = H ∧ ∃ k v, kvs[i]? = some (k, v) ∧ x = kV k, fun i H => H d = some (.frz o (.dK kvs)) ∧ kvs.length ≤ i⟩
/-- .. of tuple keys: the key's own tuple -/
def Itkt (d : Addr) (o : Obj) (kvs : List (List Key × V)) : It :=
  ⟨fun i H => H d = some (.frz o (.dT kvs)) ∧ i < kvs.length, fun i H x H' => H' = H ∧ ∃ (k : List Key) (v : V) (q : Addr), kvs[i]? = some (k, v) ∧ x = .ref q ∧ H q = some (.tup (k.map kV)), fun i H => H d = some (.frz o (.dT kvs)) ∧ kvs.length ≤ i⟩
/-- the values -/
def Itd (d : Addr) (o : Obj) (kvs : List (Key × V)) : It :=
  ⟨fun i H => H d = some (.frz o (.dK kvs)) ∧ i < kvs.length, fun i H x H' => H' = H ∧ ∃ k, kvs[i]? = some (k, x), fun i H => H d = some (.frz o (.dK kvs)) ∧ kvs.length ≤ i⟩
/-- the pairs, each a new tuple -/
def Iti (d : Addr) (o : Obj) (kvs : List (Key × V)) : It :=
  ⟨fun i H => H d = some (.frz o (.dK kvs)) ∧ i < kvs.length, fun i H x H' => ∃ T k v, kvs[i]? = some (k, v) ∧ x = .ref T ∧ H T = none ∧ H' = upd H T (.tup [kV k, v]), fun i H => H d = some (.frz o (.dK kvs)) ∧ kvs.length ≤ i⟩
section
variable {P : Program} {w : World} {K : PySem.W.Frag} {tg : Expr} {d : Addr} {o : Obj} {es : Array DictEntry} {ep : Nat}
end

/-! ### for k in d, d.keys(), d.values(), d.items() -/
/-- the dict is locked (tLock, or by the caller) -/
def iKeys (td : TE) : TI := fun σ H R => td σ H fun x H1 => ∃ d o, x = .ref d ∧ ((∃ kvs, H1 d = some (.frz o (.dK kvs)) ∧ R (Itk d o kvs) H1) ∨ ∃ kvs, H1 d = some (.frz o (.dT kvs)) ∧ R (Itkt d o kvs) H1)
def iVals (td : TE) : TI := fun σ H R => td σ H fun x H1 => ∃ d o kvs, x = .ref d ∧ H1 d = some (.frz o (.dK kvs)) ∧ R (Itd d o kvs) H1
def iItems (td : TE) : TI := fun σ H R => td σ H fun x H1 => ∃ d o kvs, x = .ref d ∧ H1 d = some (.frz o (.dK kvs)) ∧ R (Iti d o kvs) H1
def iKeysM (td : TE) : TI := fun σ H R => td σ H fun x H1 => ∃ d o kvs, x = .ref d ∧ H1 d = some (.frz o (.dK kvs)) ∧ R (Itk d o kvs) H1
section
variable {X : Cx} {tg e : Expr} {td : TE} {apos cpos : Pos}
end

/-! ### enumerate(list) -/
/-- the list at a as it stands at each turn, each item in a new pair -/
def Ite (K : PySem.W.Frag) (a : Addr) : It :=
  ⟨fun i H => ∃ (xs : List V) (x : V), SqL K H a xs ∧ xs[i]? = some x, fun i H v H' => ∃ T x, v = .ref T ∧ H T = none ∧ H' = upd H T (.tup [.int (i : Nat), x]) ∧ ∀ xs, SqL K H a xs → xs[i]? = some x, fun i H => ∃ xs : List V, SqL K H a xs ∧ xs.length ≤ i⟩
def iEnum (K : PySem.W.Frag) (ta : TA) : TI := fun σ H R => ta σ H fun vs H1 => ∃ a xs, vs = [.ref a] ∧ SqL K H1 a xs ∧ R (Ite K a) H1
/-! ### zip(list, list) -/
theorem boot_zip5 : bootBuiltins "zip" = some (.type "zip") := by decide +kernel
/-- the lists at a and b as they stand at each turn, the items in new pairs -/
def Itz (K : PySem.W.Frag) (a b : Addr) : It :=
  ⟨fun i H => ∃ (xs ys : List V) (x y : V), SqL K H a xs ∧ SqL K H b ys ∧ xs[i]? = some x ∧ ys[i]? = some y,
    fun i H v H' => ∃ T x y, v = .ref T ∧ H T = none ∧ H' = upd H T (.tup [x, y]) ∧ (∀ xs, SqL K H a xs → xs[i]? = some x) ∧ ∀ ys, SqL K H b ys → ys[i]? = some y,
    fun i H => ∃ xs ys : List V, SqL K H a xs ∧ SqL K H b ys ∧ (xs.length ≤ i ∨ ys.length ≤ i)⟩
def iZip (K : PySem.W.Frag) (ta : TA) : TI := fun σ H R => ta σ H fun vs H1 => ∃ a b xs ys, vs = [.ref a, .ref b] ∧ SqL K H1 a xs ∧ SqL K H1 b ys ∧ R (Itz K a b) H1
end L2

section 
namespace Bits
open PySem PyProof.Rows








end Bits
end 

section 
namespace TL
open PySem PySem.Builtin PySem.Builtin.Str PySem.StrLaws

abbrev tl (x : Str) : List Nat := x.cps.toList

/-! ### the list functions -/
/-- S stands at the head of l -/
def pre (S l : List Nat) : Bool := l.take S.length == S
/-- l cut at each S from the left; k signs are still to be passed over -/
def spl (S : List Nat) : Nat → List Nat → List Nat → List (List Nat)
  | _, acc, [] => [acc]
  | 0, acc, c :: r => if pre S (c :: r) = true then acc :: spl S (S.length - 1) [] r else spl S 0 (acc ++ [c]) r
  | k + 1, acc, _ :: r => spl S k acc r
/-- what stands before the first S, and behind it -/
def par (S : List Nat) : List Nat → List Nat → Option (List Nat × List Nat)
  | _, [] => none
  | acc, c :: r => if pre S (c :: r) = true then some (acc, (c :: r).drop S.length) else par S (acc ++ [c]) r




/-! ### the model's split and partition are these -/




/-! ### computing spl and par -/

/-- joined lists -/
def joinL (S : List Nat) : List (List Nat) → List Nat
  | [] => []
  | [p] => p
  | p :: q :: r => p ++ (S ++ joinL S (q :: r))

/-! ### digits -/
/-- the signs of a number -/
def numL (n : Nat) : List Nat := (Nat.toDigits 10 n).map Char.toNat

/-! ### words: x.split() -/
def wstep (st : List (List Nat) × List Nat) (c : Nat) : List (List Nat) × List Nat :=
  if Unicode.isSpace c = true then (if st.2 = [] then st else (st.1 ++ [st.2], [])) else (st.1, st.2 ++ [c])
def wfin (st : List (List Nat) × List Nat) : List (List Nat) := if st.2 = [] then st.1 else st.1 ++ [st.2]
end TL
end 

namespace L2
open PySem PySem.Spec PyProof.Rows


/-- a list of texts, of numbered texts -/
theorem vals_strs : ∀ l : List (Str × Tok), Vals ((l.map (·.1)).map V.str) (strValues l)
  | [] => .nil
  | p :: r => .cons ⟨p.2, rfl⟩ (vals_strs r)
theorem strs_of_vals : ∀ {ys : List Str} {us : List Value}, Vals (ys.map V.str) us → StrsAre us ys
  | [], _, .nil => .nil
  | y :: ys, _, .cons r t => by
    obtain ⟨k, rfl⟩ := r
    exact .cons y k (strs_of_vals t)

/-- a new list of texts, tracked -/
def rNewStrs (ys : List Str) : Hp → VK → Prop := fun H Q => ∀ p, H p = none → Q (.ref p) (upd H p (.lst (ys.map V.str)))

section
variable {X : Cx} {pins : List (Addr × Obj)} {σ : St} {H : Hp} {s : Shared} {Q : VK}
theorem laid_strs {l : List (Str × Tok)} {ys : List Str} {k : Nat} (I : Inv X pins σ H s) (e : l.map (·.1) = ys) (hz : ys.length ≤ sizeLine) (h : rNewStrs ys H Q) :
    EP X pins σ Q (.ref s.heap.objs.size) { s with toks := k, heap := s.heap.push { cls := .type "list", data := .seq (strValues l).toArray } } := by
  have hp := I.hok.fresh (Nat.le_refl _)
  refine ⟨.ref s.heap.objs.size, upd H s.heap.objs.size (.lst (ys.map V.str)), I.laid (fun b u q => Heap.get?_push_of_some _ q) (Nat.le_refl _) ⟨by rw [List.length_map]; exact hz, strValues l, _, ?_, Heap.get?_push_size _ rfl⟩, rfl, h _ hp⟩
  rw [← e]
  exact vals_strs l
end

section
variable {X : Cx}

/-- x.split(sep) -/
theorem mt_split : MtR X "str.split" (fun x xs H Q => ∃ a b, x = .str a ∧ xs = [.str b] ∧ (b.length == 0) = false ∧ a.length + 2 ≤ sizeLine ∧ rNewStrs (Txt.split a b) H Q) := by
  intro pins s σ H x xs v us Q I rx rs h
  obtain ⟨a, b, rfl, rfl, hb, hz, h⟩ := h
  obtain ⟨t, rfl⟩ := rx
  cases rs with
  | cons r1 rs =>
    cases rs
    obtain ⟨u, rfl⟩ := r1
    have hl : (Txt.split a b).length ≤ sizeLine := Nat.le_trans (PyProof.Rows.split_le a b) hz
    have hn : (Builtin.Str.partsBetween a (Builtin.Str.occurrences a b 0 a.length (a.length + 1)) b.length).length ≤ sizeLine := by
      have e1 := StrLaws.occ_length_le a b 0 a.length (a.length + 1)
      rw [length_partsBetween]; omega
    cases h1 : (decide (a.length < b.length) || decide (Builtin.Str.strKind a < Builtin.Str.strKind b))
    · cases hf : (Builtin.Str.occurrences a b 0 a.length (a.length + 1)).isEmpty
      · refine call_meets F.slot_str_split (typeIs_str _ _ _) F.entry_str_split (F.args_str_split_2 _ _) (meets_str_split_sep a b t u h1 hb hf (by omega) hn) ?_
        show EP X pins σ Q (.ref s.heap.objs.size) { s with toks := _, heap := s.heap.push { cls := .type "list", data := .seq (strsFrom s.toks (Builtin.Str.partsBetween a (Builtin.Str.occurrences a b 0 a.length (a.length + 1)) b.length)).toArray } }
        rw [strsFrom_eq]
        exact laid_strs (ys := Txt.split a b) I ((numbered_texts _ _).trans ((if_neg (ne_true_of_eq_false h1)).trans (if_neg (ne_true_of_eq_false hf))).symm) hl h
      · refine call_meets F.slot_str_split (typeIs_str _ _ _) F.entry_str_split (F.args_str_split_2 _ _) (meets_str_split_not_found a b t u h1 hb hf) ?_
        exact laid_strs (l := [(a, t)]) (ys := Txt.split a b) (k := s.toks) I ((if_neg (ne_true_of_eq_false h1)).trans (if_pos hf)).symm hl h
    · refine call_meets F.slot_str_split (typeIs_str _ _ _) F.entry_str_split (F.args_str_split_2 _ _) (meets_str_split_cannot_occur a b t u h1) ?_
      exact laid_strs (l := [(a, t)]) (ys := Txt.split a b) (k := s.toks) I (if_pos h1).symm hl h



/-- sep.join(a list | a tuple of texts) -/
theorem mt_join : MtR X "str.join" (fun x xs H Q => ∃ a p, ∃ ys : List Str, x = .str a ∧ xs = [.ref p] ∧ (SqL X.K H p (ys.map V.str) ∨ SqT X.K H p (ys.map V.str)) ∧
    (ys.map (·.length)).sum + ys.length * a.length ≤ 16777216 ∧ Q (.str (Txt.join a ys)) H) := by
  intro pins s σ H x xs v us Q I rx rs h
  obtain ⟨a, p, ys, rfl, rfl, hp, hz, h⟩ := h
  obtain ⟨t, rfl⟩ := rx
  cases rs with
  | cons r1 rs =>
    cases rs
    cases r1
    rcases hp with hp | hp
    · obtain ⟨its, r, ⟨o, n, ho, hc, _, hd⟩, _⟩ := I.list hp
      exact PyProof.Rows.join_list (items := its.toArray) ⟨o, ho, hc, n, hd⟩ (by rw [List.toList_toArray]; exact strs_of_vals r) hz fun t' k => ⟨.str _, H, I.tok k, ⟨t', rfl⟩, h⟩
    · obtain ⟨its, r, ht, _⟩ := I.tuple hp
      exact PyProof.Rows.join_tuple (items := its.toArray) ht (by rw [List.toList_toArray]; exact strs_of_vals r) hz fun t' k => ⟨.str _, H, I.tok k, ⟨t', rfl⟩, h⟩

/-! ### of a text alone -/
theorem mt0 {id : String} {C : Str → Prop} {g : Str → V} (rule : ∀ (a : Str) (t : Tok) (s : Shared) (Q : Value → Shared → Prop), C a → (∀ (u : Value) (k : Nat), RelV (g a) u → Q u { s with toks := k }) →
    wpAny (model X.prog X.w) X.A (call (.builtin id) [.str a t]) Q X.xe s) : MtR X id (fun x xs H Q => ∃ a, x = .str a ∧ xs = [] ∧ C a ∧ Q (g a) H) := by
  intro pins s σ H x xs v us Q I rx rs h
  obtain ⟨a, rfl, rfl, hc, h⟩ := h
  obtain ⟨t, rfl⟩ := rx
  cases rs
  exact rule a t s _ hc fun u k r => ⟨g a, H, I.tok k, r, h⟩

/-! ### of a text and a text -/

/-- int(text) -/
theorem call_int_str : CallR X (.type "int") (fun xs H Q => ∃ a n, xs = [.str a] ∧ PySem.intText? a = some n ∧ a.length ≤ 640 ∧ Q (.int n) H) := by
  intro pins s σ H xs us Q I rs h
  obtain ⟨a, n, rfl, hn, hl, h⟩ := h
  cases rs with
  | cons r1 rs =>
    cases rs
    obtain ⟨t, rfl⟩ := r1
    exact PySem.W.KIN.call_text hn hl ⟨.int n, H, I.tok _, ⟨_, rfl⟩, h⟩
end

section
variable {X : Cx} {o e : Expr} {to te : TE}
def tM0 (r : V → List V → Hp → VK → Prop) (to : TE) : TE := fun σ H Q => to σ H fun x H1 => (∃ a, x = .str a) ∧ r x [] H1 Q
def tM1 (r : V → List V → Hp → VK → Prop) (to te : TE) : TE := fun σ H Q => to σ H fun x H1 => (∃ a, x = .str a) ∧ te σ H1 fun y H2 => r x [y] H2 Q
theorem pe_m0 {id : String} {name : Str} {apos pos : Pos} {r : V → List V → Hp → VK → Prop} (slot : Slot "str" name id) (ty : typeOf (.builtin id) = pure (.type "method_descriptor")) (rule : MtR X id r) (ho : PE X o to)
    (hbase : attributeBase o name X.env (eval o X.env) = eval o X.env := by rfl) (hline : (apos.endLine == pos.line) = true := by rfl) : PE X (.Call (.Attribute o name apos) [] [] pos) (tM0 r to) := by
  intro pins s σ H Q I h
  refine PySem.Call_method0 hbase hline (thn (ho pins s σ H _ I h) fun v s1 ⟨x, H1, I1, r1, q1⟩ => ?_)
  obtain ⟨⟨a, rfl⟩, q1⟩ := q1
  obtain ⟨t, rfl⟩ := _root_.id r1
  exact ⟨"str", _, F.plainAttrs_str, slot, ty, typeIs_str _ _ _, (fun _ e => nomatch e), Calls.callWith_builtin rfl (PySem.evalArgs_none (rule pins s1 σ H1 _ [] _ [] Q I1 r1 .nil q1))⟩
theorem pe_m1 {id : String} {name : Str} {apos pos : Pos} {r : V → List V → Hp → VK → Prop} (slot : Slot "str" name id) (ty : typeOf (.builtin id) = pure (.type "method_descriptor")) (rule : MtR X id r) (ho : PE X o to) (he : PE X e te)
    (hs : starEach [e] X.env = [(false, eval e X.env)] := by rfl) (hbase : attributeBase o name X.env (eval o X.env) = eval o X.env := by rfl) (hline : (apos.endLine == pos.line) = true := by rfl) :
    PE X (.Call (.Attribute o name apos) [e] [] pos) (tM1 r to te) := by
  intro pins s σ H Q I h
  refine PySem.Call_method1 hbase hs hline (thn (ho pins s σ H _ I h) fun v s1 ⟨x, H1, I1, r1, q1⟩ => ?_)
  obtain ⟨⟨a, rfl⟩, q1⟩ := q1
  obtain ⟨t, rfl⟩ := _root_.id r1
  refine ⟨"str", _, F.plainAttrs_str, slot, ty, typeIs_str _ _ _, (fun _ e => nomatch e), Calls.callWith_builtin rfl (Calls.evalArgs_plain (Calls.spliced_cons ?_))⟩
  exact thn (he pins s1 σ H1 _ I1 q1) fun u s2 ⟨y, H2, I2, r2, q2⟩ => Calls.spliced_nil (rule pins s2 σ H2 _ [y] _ [u] Q I2 r1 (.cons r2 .nil) q2)

theorem pe_split {apos pos : Pos} (ho : PE X o to) (he : PE X e te) (hs : starEach [e] X.env = [(false, eval e X.env)] := by rfl) (hbase : attributeBase o "split" X.env (eval o X.env) = eval o X.env := by rfl) (hline : (apos.endLine == pos.line) = true := by rfl) :
    PE X (.Call (.Attribute o "split" apos) [e] [] pos) (tM1 (fun x xs H Q => ∃ a b, x = .str a ∧ xs = [.str b] ∧ (b.length == 0) = false ∧ a.length + 2 ≤ sizeLine ∧ rNewStrs (Txt.split a b) H Q) to te) :=
  pe_m1 F.slot_str_split F.type_str_split mt_split ho he hs hbase hline
theorem pe_join {apos pos : Pos} (ho : PE X o to) (he : PE X e te) (hs : starEach [e] X.env = [(false, eval e X.env)] := by rfl) (hbase : attributeBase o "join" X.env (eval o X.env) = eval o X.env := by rfl) (hline : (apos.endLine == pos.line) = true := by rfl) :
    PE X (.Call (.Attribute o "join" apos) [e] [] pos) (tM1 (fun x xs H Q => ∃ a p, ∃ ys : List Str, x = .str a ∧ xs = [.ref p] ∧ (SqL X.K H p (ys.map V.str) ∨ SqT X.K H p (ys.map V.str)) ∧
      (ys.map (·.length)).sum + ys.length * a.length ≤ 16777216 ∧ Q (.str (Txt.join a ys)) H) to te) :=
  pe_m1 F.slot_str_join F.type_str_join mt_join ho he hs hbase hline
end
end L2

namespace L2
open PySem PySem.Spec PyProof.Rows

section
variable {X : Cx}
theorem op_le_str : OpR X (compareOp .LtE) (fun x y H Q => ∃ i j, x = .str i ∧ y = .str j ∧ Q (.bl (!decide (j.cps.toList < i.cps.toList))) H) := by
  intro pins s σ H x y v u Q I rx ry h
  obtain ⟨i, j, rfl, rfl, q⟩ := h
  obtain ⟨t, rfl⟩ := rx
  obtain ⟨t', rfl⟩ := ry
  exact PySem.P.le_str (fin_bl I q rfl)
/-- one sign in a text -/
theorem op_in_sign : OpR X (compareOp .In) (fun x y H Q => ∃ (c : Nat) (z : Str), x = .str ⟨#[c]⟩ ∧ y = .str z ∧ Q (.bl (decide (c ∈ z.cps.toList))) H) := by
  intro pins s σ H x y v u Q I rx ry h
  obtain ⟨c, z, rfl, rfl, q⟩ := h
  obtain ⟨t, rfl⟩ := rx
  obtain ⟨t', rfl⟩ := ry
  exact PyProof.Rows.in_str (fin_bl I q (PySem.StrLaws.found_one z c).symm)
end

/-! ### slices of a text -/
theorem IsPart.raw {v : Value} {o : Option Int} (p : IsPart v o) : ∃ l : Option (Int × Tok), v = partValue l ∧ l.map (·.1) = o := by
  cases p with
  | none => exact ⟨none, rfl, rfl⟩
  | int i t => exact ⟨some (i, t), rfl, rfl⟩

/-- a part, clipped, as the text's slice reckons it -/
def clipS (n d : Nat) : Option Int → Int
  | none => (d : Int)
  | some i => max 0 (min (if i < 0 then i + (n : Int) else i) (n : Int))
theorem clipS_eq (n d : Nat) (o : Option Int) : clipS n d o = ((HT.sIx n d o : Nat) : Int) := by
  cases o with
  | none => rfl
  | some v =>
    show max (0 : Int) (min (if v < 0 then v + (n : Int) else v) (n : Int)) = (((if v < 0 then (v + (n : Int)).toNat else min v.toNat n) : Nat) : Int)
    by_cases hv : v < 0
    · simp only [if_pos hv]
      omega
    · simp only [if_neg hv]
      omega
theorem sidx_clip (a b : Option Int) (n : Nat) : Builtin.Str.strSliceIndices a b 1 n = sliceRange (clipS n 0 a) (clipS n n b) 1 := by
  have h1 : ((1 : Int) > 0) = True := by simp
  cases a <;> cases b <;> first
    | rfl
    | (simp only [Builtin.Str.strSliceIndices, clipS, h1, if_true]; rfl)
    | simp [Builtin.Str.strSliceIndices, clipS]
theorem sidx (a b : Option Int) (n : Nat) : Builtin.Str.strSliceIndices a b 1 n = (List.range (HT.sIx n n b - HT.sIx n 0 a)).map (fun k => HT.sIx n 0 a + k) := by
  rw [sidx_clip, clipS_eq, clipS_eq]
  generalize HT.sIx n 0 a = p
  generalize HT.sIx n n b = q
  simp only [sliceRange, show ((1 : Int) > 0) = True from by simp, if_true]
  by_cases hlt : (p : Int) < q
  · have e3 : (((q : Int) - p + 1 - 1) / 1).toNat = q - p := by first | omega | (simp; done) | (simp; omega)
    simp only [hlt, if_true, e3]
    refine List.map_congr_left fun k _ => ?_
    omega
  · have : q - p = 0 := by omega
    simp [hlt, this]

/-- z[lo:hi] -/
def cutS (z : Str) (lo hi : Option Int) : Str :=
  ⟨((z.cps.toList.drop (HT.sIx z.length 0 lo)).take (HT.sIx z.length z.length hi - HT.sIx z.length 0 lo)).toArray⟩
theorem sliceText_cut (z : Str) (lo hi : Option Int) : PySem.StrLaws.sliceText z lo hi = cutS z lo hi := by
  have h1 : HT.sIx z.length 0 lo ≤ z.length := HT.sIx_le _ _ (Nat.zero_le _) _
  have h2 : HT.sIx z.length z.length hi ≤ z.length := HT.sIx_le _ _ (Nat.le_refl _) _
  have hp : HT.sIx z.length 0 lo ≤ max (HT.sIx z.length 0 lo) (HT.sIx z.length z.length hi) := Nat.le_max_left _ _
  have hq : max (HT.sIx z.length 0 lo) (HT.sIx z.length z.length hi) ≤ z.length := Nat.max_le.mpr ⟨h1, h2⟩
  have hd : max (HT.sIx z.length 0 lo) (HT.sIx z.length z.length hi) - HT.sIx z.length 0 lo = HT.sIx z.length z.length hi - HT.sIx z.length 0 lo := by omega
  have e : Builtin.Str.strSliceIndices lo hi 1 z.length =
      Builtin.Str.strSliceIndices (some ((HT.sIx z.length 0 lo : Nat) : Int)) (some ((max (HT.sIx z.length 0 lo) (HT.sIx z.length z.length hi) : Nat) : Int)) 1 z.length := by
    rw [PySem.StrLaws.strSliceIndices_plain hp hq, hd, sidx]
  have e2 : PySem.StrLaws.sliceText z lo hi =
      PySem.StrLaws.sliceText z (some ((HT.sIx z.length 0 lo : Nat) : Int)) (some ((max (HT.sIx z.length 0 lo) (HT.sIx z.length z.length hi) : Nat) : Int)) := by
    unfold PySem.StrLaws.sliceText
    rw [e]
  rw [e2, PySem.StrLaws.sliceText_nat z hp hq, hd]
  rfl
theorem cutS_length (z : Str) (lo hi : Option Int) : (cutS z lo hi).length ≤ z.length := by
  show (((z.cps.toList.drop (HT.sIx z.length 0 lo)).take (HT.sIx z.length z.length hi - HT.sIx z.length 0 lo)).toArray).size ≤ z.cps.size
  rw [List.size_toArray, List.length_take, List.length_drop, Array.length_toList]
  omega
def rSlS : V → Option Int → Option Int → Hp → VK → Prop := fun x lo hi H Q => ∃ z, x = .str z ∧ z.length ≤ sizeLine ∧ Q (.str (cutS z lo hi)) H
theorem sl_str {X : Cx} : SlR X rSlS := by
  intro pins s σ H x v vl vu lo hi sl Q I rx hs pl pu h
  obtain ⟨z, rfl, hz, q⟩ := h
  obtain ⟨t, rfl⟩ := rx
  obtain ⟨os, hos, hcs, hds⟩ := hs
  obtain ⟨l, rfl, rfl⟩ := IsPart.raw pl
  obtain ⟨u, rfl, rfl⟩ := IsPart.raw pu
  refine ⟨"str", _, F.slot_str_getitem.lookup, typeIs_str _ _ _, ?_⟩
  refine wpAny_getItem_str_slice (l := l) (u := u) (st := none) ⟨os, hos, hcs, hds⟩ rfl ?_
  have hl : (PySem.StrLaws.sliceText z (l.map (·.1)) (u.map (·.1))).length ≤ sizeLine := by
    rw [sliceText_cut]
    exact Nat.le_trans (cutS_length z _ _) hz
  rw [← sliceText_cut] at q
  unfold PySem.StrLaws.sliceText at q hl
  show Made.post (if ((1 : Int) == 1 && (Builtin.Str.strSliceIndices (l.map (·.1)) (u.map (·.1)) 1 z.length).length == z.length) = true then Made.val (.str z t)
    else Made.str ⟨((Builtin.Str.strSliceIndices (l.map (·.1)) (u.map (·.1)) 1 z.length).filterMap (z.cps[·]?)).toArray⟩) (EP X pins σ Q) s
  by_cases c : ((1 : Int) == 1 && (Builtin.Str.strSliceIndices (l.map (·.1)) (u.map (·.1)) 1 z.length).length == z.length) = true
  · rw [if_pos c] at q ⊢
    exact ⟨.str z, H, I, ⟨t, rfl⟩, q⟩
  · rw [if_neg c] at q hl ⊢
    exact ⟨hl, .str _, H, I.tok _, ⟨_, rfl⟩, q⟩
end L2

namespace Att
open PySem PySem.W PySem.Calls PyProof.Rows

/-! ### the script -/
theorem ints_of_wellAll {P : Params} {h : Heap} : ∀ (ns : List Int) (vs : List Value), WellAll P h vs (ns.map WData.int) → IntsAre vs ns := by
  intro ns
  induction ns with
  | nil =>
    intro vs w
    rw [List.map_nil] at w
    cases w
    exact .nil
  | cons n ns ih =>
    intro vs w
    rw [List.map_cons] at w
    cases w with
    | cons a b =>
      cases a
      exact .cons _ _ (ih _ b)

theorem script_of {l : OpenLaw} {n : Nat} (hn : l.most = some n) {P : Params} {h : Heap} {args : List WData} {vals : List Value}
    (hpre : l.row.toRowW.claim.pre args = true) (hwl : WellAll P h vals args) :
    ∃ a vs ns, vals = [Value.ref a] ∧ args = [WData.list (ns.map WData.int)] ∧ h.get? a = some { cls := .type "list", data := .seq vs.toArray } ∧ IntsAre vs ns ∧ ns.length ≤ n := by
  have hsh : WShape.hasAll [] args [.list .int] = true := (pre_splitW hpre).1
  have hc : l.pre.holds [] { args := args } = true := (pre_splitW hpre).2
  obtain ⟨d, r, rfl, h1, h2⟩ := hasAllW_cons hsh
  obtain rfl := hasAllW_nil h2
  obtain ⟨xs, rfl, h3⟩ := hasW_list h1
  obtain ⟨ns, rfl⟩ := items_int h3
  have hlen : ns.length ≤ n := by
    unfold OpenLaw.pre at hc
    have h4 : (WTm.not (.lt (.lit (.int (n : Int))) (.len (.arg 0)))).holds [] { args := [.list (ns.map .int)] } = true := by
      have h4 := (holds_andW hc).1
      rw [hn] at h4
      exact h4
    have h5 := condW_of h4 (w_not (w_lt w_lit (w_len_list (w_arg rfl))))
    rw [List.length_map] at h5
    refine Nat.le_of_not_lt fun q => ?_
    have q' : (n : Int) < ((ns.length : Nat) : Int) := by omega
    first
      | (rw [decide_eq_true q'] at h5; exact absurd h5 (by decide))
      | (simp at h5; omega)
  cases hwl with
  | cons w1 w2 =>
    cases w2
    cases w1 with
    | list ho hall => exact ⟨_, _, ns, rfl, rfl, ho, ints_of_wellAll ns _ hall, hlen⟩

theorem post_true (l : OpenLaw) (args : List WData) : l.row.toRowW.claim.post args (.bool true) args = true :=
  postW_of (r := l.row.toRowW) (X := (true == true))
    (show WShape.has [] (.bool true) .bool = true by first | rfl | decide | simp [WShape.has, WShape.arms, WShape.armsAll])
    (show (WTm.eq .res (.lit (.bool true))).value [] { args := args, res := some (.bool true), after := args } = some (.bool (true == true)) from w_eq_bool (w_res rfl) w_lit) rfl

/-! ### the attachment: holds_open's last premise (the goal 'hc' behind k_head) from a wpAny of the law's body -/

/-- the same from a codeAny of the CALL (for a layer whose function contracts speak of calls) -/
theorem attach_call {l : OpenLaw} {n : Nat} {q : Program} {loose : List Str} {XP : (Str → Option Value) → Heap → Prop} {YP : World → Heap → Prop} {d : DefRec}
    (hn : l.most = some n) (hdf : d.params.defaults = [])
    (call : ∀ (w : World) (s₀ s₁ : Shared) (mg mb : Str → Option Value) (fa : Addr) (o : Obj) (pm cd doc : Value) (a : Addr) (vs : List Value) (ns : List Int),
      Ground q loose [] XP w s₀ mg mb s₁.heap → YP w s₁.heap →
      s₁.heap.get? fa = some o → o.data = .func (docDef d.name d.params d.body d.scope pm cd doc) → s₁.heap.CodeRec cd d.name → mg d.name = some (.ref fa) →
      s₁.heap.get? a = some { cls := .type "list", data := .seq vs.toArray } → IntsAre vs ns → ns.length ≤ n → s₁.gens = #[] →
      codeAny (model l.prog w) callerA (.call (.ref fa) ⟨[.ref a], []⟩) (fun r s' => r = .ok (.ret (.bool true)) ∧ OldK s₁.heap s'.heap ∧ s'.os = s₁.os ∧ AllBare s'.gens) s₁) :
    WalkO q loose XP YP l.row.toRowW d [] (fun f vs => PySem.call f vs) := by
  intro w s₀ s₁ mg mb G Y fa o pm cd doc dV kV ho hd hcd hD hmg hg args vals as hpre hlay hrd hwl hlo
  obtain rfl : dV = .none := Dflts.none hD hdf
  obtain rfl : kV = .none := Dflts.noKw hD
  obtain ⟨a, vs, ns, rfl, rfl, hobj, hints, hlen⟩ := script_of hn hpre hwl
  refine enter_call (codeAny_mono (call w s₀ s₁ mg mb fa o pm cd doc a vs ns G Y ho (fd_plain hd) hcd hmg hobj hints hlen hg) fun r s' hq => ?_)
  obtain ⟨rfl, h2, h3, h4⟩ := hq
  exact ⟨.inl ⟨.bool true, .bool true, [], rfl, fun _ => rfl, .bool true, post_true l _, fun _ => ⟨List.Pairwise.nil, fun _ hm => (nomatch hm)⟩⟩, h2, h3, h4⟩


/-! ### rules over ANY heap (no ledger) from facts about the written part K: the library's own take a ledger (News) for what they write -/
section
variable {prog : Program} {w : World} {A : Around} {E : Value → Shared → Prop} {s : Shared} {K : Frag}





/-! the whole heap as the ledger: makes every rule that writes through a ledger a rule over any heap -/
def noObjs (h : Heap) : Heap := { h with objs := #[] }
def ledger (h : Heap) (L d : Addr) : List (Addr × Obj) := (List.range h.objs.size).filterMap fun a => if a = L ∨ a = d then none else (h.get? a).map fun o => (a, o)

end
end Att

namespace L2
open PySem PySem.Spec PyProof.Rows

theorem vals_ints : ∀ {vs : List Value} {ns : List Int}, IntsAre vs ns → Vals (ns.map V.int) vs
  | _, _, .nil => .nil
  | _, _, .cons n t h => .cons ⟨t, rfl⟩ (vals_ints h)

/-- nothing is tracked but the script, known to the object (or it is an object of the module) -/
def Only (H : Hp) : Prop := ∀ b, H b = none ∨ ∃ o xs, H b = some (.frz o (.lst xs))

/-- THE HEAD: the law's promise, at the heap behind the top. F, the promise of the law's def, may use that base is part of the heap (so K.In base, base.Ns mainGlobals mg stand in Mod) -/
theorem law_call {P : Program} {w : World} {K : PySem.W.Frag} {mg mb : Str → Option Value} {CX : CXT} {k : Nat} {fa a : Addr} {fd : FuncData} {x : Str} {sp : Sp} {s₁ : Shared} {vs : List Value} {ns : List Int}
    (KX : K.In s₁.heap) (hns : s₁.heap.Ns mainGlobals mg) (hb : s₁.heap.Ns builtinsNs mb) (hbb : ∀ x : Str, x ≠ "__name__" → mb x = bootBuiltins x) (hlim : s₁.heap.NoLimit) (hg : s₁.gens = #[])
    (ha : s₁.heap.get? a = some { cls := .type "list", data := .seq vs.toArray }) (hi : IntsAre vs ns) (hl : ns.length ≤ sizeLine) (hr : Room k callerA)
    (F : ∀ base : Heap, K.In base → base.Ns mainGlobals mg → FnOk P w K mg base CX k fa fd [x] sp) (hbind : ∀ (s : Shared) (u : Value), BindsTo s fd ⟨[u], []⟩ [(x, u)])
    (hsp : ∀ H : Hp, Only H → SqL K H a (ns.map V.int) → sp [.ref a] H (fun v _ => v = .bl true) fun _ _ _ => False)
    (hCX : ∀ H e s', CX [] H s₁ (fun _ _ _ => False) e s' → False) :
    codeAny (model P w) callerA (.call (.ref fa) ⟨[.ref a], []⟩) (fun r s' => r = .ok (.ret (.bool true)) ∧ OldK s₁.heap s'.heap ∧ s'.os = s₁.os ∧ AllBare s'.gens) s₁ := by
  have rv := vals_ints hi
  have lenV := hi.length
  -- from an abstract heap in which nothing but the script may be tracked
  have core : ∀ H : Hp, Only H → SqL K H a (ns.map V.int) → HOk P w H s₁.heap → (∀ b, H b ≠ none → b = a) → (H a ≠ none → K.lookup a = none) →
      codeAny (model P w) callerA (.call (.ref fa) ⟨[.ref a], []⟩) (fun r s' => r = .ok (.ret (.bool true)) ∧ OldK s₁.heap s'.heap ∧ s'.os = s₁.os ∧ AllBare s'.gens) s₁ := by
    intro H hO hS hok hA hK
    have base_of : ∀ {b : Addr} {o : Obj}, s₁.heap.get? b = some o → H b = none → (hidT s₁.heap H).get? b = some o := fun e n => hidT_get e n
    have noA : ∀ {b : Addr} {o : Obj} {es : Array DictEntry} {ep : Nat}, s₁.heap.get? b = some o → o.data = .dict es ep → H b = none := fun {b o es ep} e d => by
      cases q : H b with
      | none => rfl
      | some u =>
        have e' : b = a := hA b (by rw [q]; simp)
        subst e'
        rw [ha] at e; cases e
        have d' : Data.seq vs.toArray _ = Data.dict es ep := d
        cases d'
    have nsK : ∀ {b : Addr} {m : Str → Option Value}, s₁.heap.Ns b m → (hidT s₁.heap H).Ns b m := fun {b m} ⟨o, es, ep, e, d, r⟩ => ⟨o, es, ep, base_of e (noA e d), d, r⟩
    have hKb : K.In (hidT s₁.heap H) := fun b o e => base_of (KX b o e) (by
      cases q : H b with
      | none => rfl
      | some u =>
        have e' : b = a := hA b (by rw [q]; simp)
        subst e'
        rw [hK (by rw [q]; simp)] at e; cases e)
    have hM : Mod K mg (hidT s₁.heap H) := ⟨hKb, nsK hns, ⟨mb, nsK hb, hbb⟩, let ⟨mc, h1, h2⟩ := hlim; ⟨mc, nsK h1, h2⟩⟩
    have e0 : Env0 P w K mg (hidT s₁.heap H) callerA [] s₁ H := ⟨rfl, hM, fun b o e => of_hidT e, Nat.le_of_eq (hidT_size _ _), trivial, fun b hb => absurd (show b ∈ ([] : List Addr) from hb) (by simp), hok, .of_eq hg⟩
    refine codeAny_mono ((F _ hKb (nsK hns)).run callerA [] s₁ H ⟨[.ref a], []⟩ [.ref a] [.ref a] _ _ hr e0 (hbind s₁ (.ref a)) (.cons rfl .nil) (hsp H hO hS)) fun r s' h => ?_
    cases r with
    | error e => exact (hCX H e s' h).elim
    | ok fl =>
      cases fl with
      | next => exact False.elim h
      | brk => exact False.elim h
      | cont => exact False.elim h
      | ret u =>
        obtain ⟨v, H', os, bare, un, hok', r', q⟩ := h
        have q' : v = .bl true := q
        subst q'
        obtain rfl : u = Value.bool true := r'
        refine ⟨rfl, OldK.of_keep fun b o e => ?_, os, bare⟩
        cases q : H b with
        | none => exact un.keep b o e q (by intro z; exact absurd (show b ∈ ([] : List Addr) from z) (by simp)) (by simp)
        | some u =>
          rcases hO b with z | ⟨ob, xs, z⟩
          · rw [q] at z; cases z
          · have z2 := un.frzs b ob _ z
            obtain ⟨e1, _⟩ := hok b _ z
            obtain ⟨e2, _⟩ := hok' b _ z2
            rw [e] at e1; cases e1
            exact e2
  cases hk : K.lookup a with
  | some o =>
    -- the script is one of the module's own objects
    have e := KX a o hk
    rw [ha] at e
    cases e
    refine core (fun _ => none) (fun _ => .inl rfl) (.inr ⟨_, vs.toArray, _, hk, rfl, rfl, rfl, by rw [List.size_toArray, lenV]; exact hl, by simpa using rv⟩) (fun b u z => by have z' : (none : Option HO) = some u := z; cases z') (fun b z => absurd rfl z) fun z => absurd rfl z
  | none =>
    refine core (fun b => if b = a then some (.frz { cls := .type "list", data := .seq vs.toArray } (.lst (ns.map V.int))) else none) (fun b => ?_) (.inl (.inr ⟨{ cls := .type "list", data := .seq vs.toArray }, if_pos rfl⟩)) (fun b u z => ?_) (fun b z => ?_) fun _ => hk
    · by_cases hb : b = a
      · exact .inr ⟨_, _, if_pos hb⟩
      · exact .inl (if_neg hb)
    · by_cases hb : b = a
      · have z' := (if_pos hb).symm.trans z
        cases z'
        subst hb
        exact ⟨ha, by rw [List.length_map]; exact hl, vs, _, rv, ha⟩
      · have z' := (if_neg hb).symm.trans z
        cases z'
    · by_cases hb : b = a
      · exact hb
      · exact absurd (if_neg hb) z
end L2

namespace L2
open PySem PySem.Spec PyProof.Rows

abbrev KOf {K : PySem.W.Frag} {h : Heap} (_ : K.In h) : PySem.W.Frag := K

/-- the goal that k_head leaves (case hc), from the law's promise. F gives the function object fd (K's own) once, then the promise over every base -/
theorem walk_of {l : PySem.W.OpenLaw} {n k : Nat} {q : Program} {loose : List Str} {XP : (Str → Option Value) → Heap → Prop} {YP : World → Heap → Prop} {d : DefRec} {K : Params → PySem.W.Frag} {CX : World → CXT} {sp : World → Sp} {x : Str}
    (hn : l.most = some n) (hn2 : n ≤ sizeLine) (hdf : d.params.defaults = []) (hr : Room k callerA)
    (hY : ∀ (w : World) (h : Heap), YP w h → (K w.params).In h)
    (F : ∀ (w : World) (mg : Str → Option Value) (fa : Addr) (h : Heap), (K w.params).In h → h.Ns mainGlobals mg → mg d.name = some (.ref fa) →
      ∃ fd : FuncData, (∀ (s : Shared) (u : Value), BindsTo s fd ⟨[u], []⟩ [(x, u)]) ∧
        ∀ base : Heap, (K w.params).In base → base.Ns mainGlobals mg → FnOk l.prog w (K w.params) mg base (CX w) k fa fd [x] (sp w))
    (hsp : ∀ (w : World) (H : Hp) (a : Addr) (ns : List Int), ns.length ≤ n → Only H → SqL (K w.params) H a (ns.map V.int) → sp w [.ref a] H (fun v _ => v = .bl true) fun _ _ _ => False)
    (hCX : ∀ (w : World) (H : Hp) (s : Shared) (e : Value) (s' : Shared), CX w [] H s (fun _ _ _ => False) e s' → False) :
    PySem.W.WalkO q loose XP YP l.row.toRowW d [] (fun f vs => PySem.call f vs) := by
  refine Att.attach_call hn hdf fun w s₀ s₁ mg mb fa o pm cd doc a vs ns G Y ho hd hcd hmg hobj hints hlen hg => ?_
  have KX := hY w _ Y
  obtain ⟨fd, hb, hF⟩ := F w mg fa _ KX G.T.g hmg
  exact law_call KX G.T.g G.T.b G.T.builtins G.T.nolimit hg hobj hints (Nat.le_trans hlen hn2) hr hF hb (fun H hO hS => hsp w H a ns hlen hO hS) fun H e s' => hCX w H s₁ e s'
end L2

/- THE LAST THEOREM (shape; LID, My.* are yours):
   My.Adr: a structure of the addresses that your layer names (classes, functions); My.Txt K t: a structure (Prop) of the equations over K;
   My.txt_mk : {K} {implicit addresses ..} (e1 : nsIn K mainGlobals "law" = some (some (.ref f))) (e2 : K.lookup f = some ⟨oc, od, .func (fnOf "law" "law" params body scope dV kV doc pm an cdv ct), sl⟩) (e3 : codeIn K cdv "law" = true) .. : ∃ t, My.Txt K t

set_option maxRecDepth 100000 in
set_option maxHeartbeats 0 in
theorem PySem.Challenge.cw_LID_holds : PySem.Challenge.rw_LID.Holds := by
  w_on; o_law; k_head; (case hw => w_witness2)
  k_fill
  refine L2.walk_of (l := PySem.Challenge.rw_LID) (n := 63) (k := 40) (x := "script") (CX := fun w => ..) (sp := fun _ => My.sp_law) rfl (by decide) rfl ⟨rfl, by decide, by decide⟩ (fun w h Y => PySem.W.kIn_of Y) ?F ?S ?C
  case F =>
    intro w mg fa h KX G hmg
    have T : ∃ t, My.Txt (L2.KOf KX) t := by
      dsimp only [L2.KOf]                          -- K must stand as «<heap const> w.params» for k_is
      refine' My.txt_mk ?e1 ?e2 ?e3 ..
      (case e1 => PySem.W.k_is)                    -- in the order: a name -> its address -> its object -> its parts
      (case e2 => PySem.W.k_is)
      ..
    obtain ⟨t, T⟩ := T
    have e0 := hmg.symm.trans (PySem.W.mg_of KX G T.law)
    cases e0                                       -- fa is the law's own address
    exact ⟨_, fun s u => .of_eq rfl, fun base kb nb => My.law_fn T kb nb⟩     -- if «.of_eq rfl» comes too early: refine' ⟨_, ?b, fun base kb nb => My.law_fn T kb nb⟩; exact fun s u => .of_eq rfl
  case S => exact fun w H a ns hl hO hS => ..
  case C => exact ..
(the tactic k_is has no namespace: write k_is) -/

/-! SHORT WORDS over the layer: a def of the text, its body, what a loop and a test want. -/
namespace L2
open PySem PySem.Spec PyProof.Rows

/-! ### the text by places -/
/-- the j-th statement of a class's body -/
def inClass (s : Stmt) (j : Nat) : Stmt := match s with
  | .ClassDef _ _ _ body _ _ _ _ _ _ _ => body.getD j (.Pass ⟨0, 0, 0, 0⟩)
  | _ => .Pass ⟨0, 0, 0, 0⟩
def defArgs (s : Stmt) : Arguments := match s with
  | .FunctionDef _ a _ _ _ _ _ _ _ _ => a
  | _ => { posonlyargs := [], args := [], vararg := none, kwonlyargs := [], kw_defaults := [], kwarg := none, defaults := [] }
def defBody (s : Stmt) : List Stmt := match s with
  | .FunctionDef _ _ b _ _ _ _ _ _ _ => b
  | _ => []
def defScope (s : Stmt) : Scope := match s with
  | .FunctionDef _ _ _ _ _ _ sc _ _ _ => sc
  | _ => { kind := .function, names := [], isGenerator := false, isCoroutine := false }

/-! ### no exception leaves a def -/
abbrev CX0 : CXT := fun _ _ _ _ _ _ => False
abbrev E0 : XK := fun _ _ _ => False
theorem pass0 {X : Cx} : Passes CX0 X E0 := fun _ _ _ _ _ _ _ h => h.elim

/-! ### a def (or method) of the text as it stands behind the top -/
structure Fun (K : PySem.W.Frag) (x qual : Str) (st : Stmt) (f : Addr) (fd : FuncData) : Prop where
  ex : ∃ (oc : Value) (od : Option Addr) (kV doc pm : Value) (an : Option Addr) (cdv ct : Value) (osl : Array (Option Value)),
    fd = PySem.W.fnOf x qual (defArgs st) (defBody st) (defScope st) .none kV doc pm an cdv ct ∧ K.lookup f = some ⟨oc, od, .func fd, osl⟩ ∧ PySem.W.codeIn K cdv qual = true
  kp : PySem.W.keepIn K (.ref f) = true
section
variable {P : Program} {w : World} {K : PySem.W.Frag} {mg : Str → Option Value} {base : Heap}
/-- THE RULE for a def: its body as a term of rules, and the reading of that term -/
theorem Fun.ok {x qual : Str} {st : Stmt} {f : Addr} {fd : FuncData} {N ps : List Str} {k : Nat} {sp : Sp} (F : Fun K x qual st f fd) (S : FnScope N ps (defScope st)) (len : ∀ vs H Q E, sp vs H Q E → vs.length = ps.length)
    (hbody : ∀ (cdv : Value) (A : Around) (outer : List Env) (s : Shared) (H : Hp) (vs : List V) (Q : VK) (E : XK), Room k (A.deeper (envOfC qual (defScope st) s.heap.objs.size f cdv)) → sp vs H Q E →
      ∃ t, PSs (cxOf CX0 P w K mg base N qual (defScope st) f cdv A outer s H E).nox (defBody st) t ∧ t { nx := fun _ H' => Q .non H', rt := Q } (start N vs) H) : FnOk P w K mg base CX0 (k + 1) f fd ps sp := by
  obtain ⟨oc, od, kV, doc, pm, an, cdv, ct, osl, rfl, lk, hcd⟩ := F.ex
  refine fn_of lk hcd S len fun A outer s H vs Q E hr hsp => ?_
  obtain ⟨t, h, q⟩ := hbody cdv A outer s H vs Q E hr hsp
  exact ⟨t, h.nox, q⟩
/-- how its arguments bind (no defaults): h is «fun _ _ _ _ _ _ us hl => match us, hl with | [_, _], _ => rfl», one _ a parameter -/
theorem Fun.binds {x qual : Str} {st : Stmt} {f : Addr} {fd : FuncData} {ps : List Str} (F : Fun K x qual st f fd)
    (h : ∀ (kV doc pm : Value) (an : Option Addr) (cdv ct : Value) (us : List Value), us.length = ps.length → bindArgs (PySem.W.fnOf x qual (defArgs st) (defBody st) (defScope st) .none kV doc pm an cdv ct) ⟨us, []⟩ = pure (ps.zip us)) : Binds K fd ps [] := by
  obtain ⟨oc, od, kV, doc, pm, an, cdv, ct, osl, rfl, lk, hcd⟩ := F.ex
  exact .all (h kV doc pm an cdv ct)
theorem fun_mk {x qual : Str} {st : Stmt} {f : Addr} {oc : Value} {od an : Option Addr} {osl : Array (Option Value)} {kV doc pm cdv ct : Value} (l : K.lookup f = some ⟨oc, od, .func (PySem.W.fnOf x qual (defArgs st) (defBody st) (defScope st) .none kV doc pm an cdv ct), osl⟩)
    (c : PySem.W.codeIn K cdv qual = true) (k : PySem.W.keepIn K (.ref f) = true) : Fun K x qual st f (PySem.W.fnOf x qual (defArgs st) (defBody st) (defScope st) .none kV doc pm an cdv ct) := ⟨⟨oc, od, kV, doc, pm, an, cdv, ct, osl, rfl, l, c⟩, k⟩
end
theorem small1000 {n : Nat} (h : n ≤ 1000) : n < sizeLine := Nat.lt_of_le_of_lt h (by decide)

/-! ### expressions in short: the name that stands in the i-th slot -/
section
variable {X : Cx}
theorem pv (i : Nat) {x : Str} {pos : Pos} (hN : X.N[i]? = some x := by rfl) (hv : Vis X.env.scope x := by first | exact Or.inl rfl | exact Or.inr (Or.inl rfl) | exact Or.inr (Or.inr rfl)) (hd : (x == ("__debug__" : Str)) = false := by decide)
    (hcd : (x == ("__classdict__" : Str)) = false := by decide) : PE X (.Name x pos) (tVar i) := pe_var hN hv hd hcd
end

/-! ### tests -/
theorem iteF {A B : Prop} (h : B) : if false = true then A else B := by
  rw [if_neg Bool.false_ne_true]
  exact h
theorem iteT {A B : Prop} (h : A) : if true = true then A else B := by
  rw [if_pos rfl]
  exact h
theorem ite2 {c A B : Prop} [Decidable c] (h1 : c → A) (h2 : ¬ c → B) : if c then A else B := by
  by_cases h : c
  · rw [if_pos h]
    exact h1 h
  · rw [if_neg h]
    exact h2 h
theorem iteNS {c A B : Prop} [Decidable c] (hc : c) (h : B) : if (!decide c) = true then A else B := by
  rw [decide_eq_true hc]
  exact iteF h

/-! ### heaps -/
/-- all that was tracked is as it was -/
def Same (H H' : Hp) : Prop := ∀ b o, H b = some o → H' b = some o
theorem Same.refl (H : Hp) : Same H H := fun _ _ h => h
theorem Same.trans {H H1 H2 : Hp} (a : Same H H1) (b : Same H1 H2) : Same H H2 := fun c o h => b c o (a c o h)
theorem Same.free {H H' : Hp} (e : Same H H') {l : Addr} (h : H' l = Option.none) : H l = Option.none := by
  cases q : H l with
  | none => rfl
  | some o =>
    rw [e l o q] at h
    cases h

/-! ### a dict's pairs: keys that differ -/
section
variable {κ : Type} [DecidableEq κ]
end
/-! ### lists -/
theorem at_of {xs : List V} {z : Int} {j : Nat} {v : V} (e : z = (j : Int)) (h : xs[j]? = some v) : atI xs z = some v := by
  rw [e]
  exact atI_nat h
end L2

end
section
set_option maxHeartbeats 4000000
namespace HdT
open PySem PySem.W
def topRunT (tb : String → Option Builtin) (p : Program) (w : World) (n₀ : Nat) (ann : Option Value) : Nat → SharedT → Thread → Option SharedT
  | 0, _, _ => none
  | n + 1, s, t => match through t with
    | true => some s
    | false => match stepOk n₀ ann t with
      | false => none
      | true => match stepT (denote tb) p w s t with
        | some (s', t') => topRunT tb p w n₀ ann n s' t'
        | none => none
theorem topRun_of {tb : String → Option Builtin} {p : Program} {w : World} {n₀ : Nat} {ann : Option Value} : ∀ {n : Nat} {s s' : SharedT} {t : Thread}, topRunT tb p w n₀ ann n s t = some s' → topRun tb p w n₀ ann n s.abs t = some s'.abs
  | 0, _, _, _, h => by cases h
  | n + 1, s, s', t, h => by
    unfold topRunT at h
    unfold topRun
    cases he : through t with
    | true => rw [he] at h; cases h; rfl
    | false =>
      rw [he] at h
      cases hk : stepOk n₀ ann t with
      | false => rw [hk] at h; cases h
      | true =>
        rw [hk] at h
        cases hs : stepT (denote tb) p w s t with
        | none => rw [hs] at h; cases h
        | some r => obtain ⟨s₂, t₂⟩ := r; rw [hs] at h; rw [stepT_spec hs]; exact topRun_of h
noncomputable def bootTree (P : Params) : BT :=
  .node (boot_o_0 P) (.node (boot_o_1 P) (.node (boot_o_3 P) (.node (boot_o_7 P) .nil .nil) .nil) (.node (boot_o_5 P) (.node (boot_o_9 P) .nil .nil) .nil))
    (.node (boot_o_2 P) (.node (boot_o_4 P) (.node (boot_o_8 P) .nil .nil) .nil) (.node (boot_o_6 P) (.node (boot_o_10 P) .nil .nil) .nil))
noncomputable def bootLife (P : Params) : Life := (boot_heap P).life
theorem boot_is (P : Params) : absHeap (bootTree P) 11 (bootLife P) = boot_heap P := rfl
end HdT
namespace HdT
open PySem PySem.W
/-! an own run of the top: one recursor for a step, its branches closed words -/
structure Cx where
  p : Program
  w : World
  life : Life
  os : OsState
  n₀ : Nat
  ann : Option Value
abbrev RunF := BT → Nat → Drawn → Nat → Sem Fin → Code → Pos → List Frame → Option SharedT
abbrev Mo := RunF → Cx → BT → Nat → Drawn → Nat → Code → Pos → List Frame → Option SharedT
noncomputable def getN (v : Obj) (_l _r : BT) (gl gr : Nat → Option Obj) (i : Nat) : Option Obj :=
  @Bool.rec (fun _ => Option Obj) (@Bool.rec (fun _ => Option Obj) (gr (Nat.sub (Nat.div i 2) 1)) (gl (Nat.div i 2)) (Nat.beq (Nat.mod i 2) 1)) (some v) (Nat.beq i 0)
noncomputable def getO (_i : Nat) : Option Obj := none
noncomputable def getR (T : BT) : Nat → Option Obj := @BT.rec (fun _ => Nat → Option Obj) getO getN T
theorem getR_eq : ∀ (T : BT) (i : Nat), getR T i = T.get i
  | .nil, _ => rfl
  | .node v l r, i => by
    show getN v l r (getR l) (getR r) i = _
    unfold getN BT.get
    rw [getR_eq l, getR_eq r]
    cases h : Nat.beq i 0 with
    | true => rfl
    | false =>
      cases h2 : Nat.beq (Nat.mod i 2) 1 with
      | true => rfl
      | false => rfl
noncomputable def setN (v : Obj) (l r : BT) (gl gr : Nat → (Obj → Obj) → BT) (i : Nat) (f : Obj → Obj) : BT :=
  @Bool.rec (fun _ => BT) (@Bool.rec (fun _ => BT) (.node v l (gr (Nat.sub (Nat.div i 2) 1) f)) (.node v (gl (Nat.div i 2) f) r) (Nat.beq (Nat.mod i 2) 1)) (.node (f v) l r) (Nat.beq i 0)
noncomputable def setO (_i : Nat) (_f : Obj → Obj) : BT := .nil
noncomputable def setR (T : BT) : Nat → (Obj → Obj) → BT := @BT.rec (fun _ => Nat → (Obj → Obj) → BT) setO setN T
theorem setR_eq : ∀ (T : BT) (i : Nat) (f : Obj → Obj), setR T i f = T.set i f
  | .nil, _, _ => rfl
  | .node v l r, i, f => by
    show setN v l r (setR l) (setR r) i f = _
    unfold setN BT.set
    rw [setR_eq l, setR_eq r]
    cases h : Nat.beq i 0 with
    | true => rfl
    | false =>
      cases h2 : Nat.beq (Nat.mod i 2) 1 with
      | true => rfl
      | false => rfl
noncomputable def insN (v : Obj) (l r : BT) (gl gr : Nat → Obj → BT) (i : Nat) (o : Obj) : BT :=
  @Bool.rec (fun _ => BT) (@Bool.rec (fun _ => BT) (.node v l (gr (Nat.sub (Nat.div i 2) 1) o)) (.node v (gl (Nat.div i 2) o) r) (Nat.beq (Nat.mod i 2) 1)) (.node o l r) (Nat.beq i 0)
noncomputable def insO (_i : Nat) (o : Obj) : BT := .node o .nil .nil
noncomputable def insR (T : BT) : Nat → Obj → BT := @BT.rec (fun _ => Nat → Obj → BT) insO insN T
theorem insR_eq : ∀ (T : BT) (i : Nat) (o : Obj), insR T i o = T.ins i o
  | .nil, _, _ => rfl
  | .node v l r, i, o => by
    show insN v l r (insR l) (insR r) i o = _
    unfold insN BT.ins
    rw [insR_eq l, insR_eq r]
    cases h : Nat.beq i 0 with
    | true => rfl
    | false =>
      cases h2 : Nat.beq (Nat.mod i 2) 1 with
      | true => rfl
      | false => rfl
def keptOf : Step → List Value
  | .go _ ⟨_, _, _, .ret _ _ _ _ _ _ kept :: _⟩ => kept
  | _ => []
noncomputable def stepC (C : Cx) (d : Drawn) (k : Nat) (t : Thread) : Step := step (denote treeTable) C.p C.w ⟨{}, Array.mk [], d, k, C.os⟩ t
noncomputable def doneN (f : Flow) (run : RunF) (T : BT) (n : Nat) (d : Drawn) (k : Nat) (fr : Frame) (rest : List Frame) : Option SharedT :=
  @Frame.rec (fun _ => Option SharedT) (fun kk _ _ _ cd p _ => run T n d k (kk (.ok f)) cd p rest) (fun _ _ _ _ _ => none) fr
noncomputable def mDone (f : Flow) : Mo := fun run C T n d k _ _ stack =>
  @List.rec Frame (fun _ => Option SharedT) (some ⟨T, n, C.life, Array.mk [], d, k, C.os⟩) (fun fr rest _ => doneN f run T n d k fr rest) stack
noncomputable def agStack (C : Cx) (d : Drawn) (k : Nat) (c : Code) (code : Code) (pos : Pos) (stack : List Frame) : List Frame :=
  @List.rec Frame (fun _ => List Frame) [] (fun fr rest _ => @Frame.rec (fun _ => List Frame) (fun kk h g l cd p _ => .ret kk h g l cd p (keptOf (stepC C d k ⟨.pure (.again c), code, pos, stack⟩)) :: rest) (fun g kk l cd p => .gen g kk l cd p :: rest) fr) stack
noncomputable def agOk (c : Code) : Bool := match c with
  | .builtin id _ => !(id.startsWith "lifetime.")
  | _ => true
noncomputable def mAgain (c : Code) : Mo := fun run C T n d k code pos stack =>
  @Bool.rec (fun _ => Option SharedT) none (run T n d k (denote treeTable c) c pos (agStack C d k c code pos stack)) (agOk c)
noncomputable def mPure (a : Fin) : Mo := @PySem.Fin.rec (fun _ => Mo) mDone mAgain a
noncomputable def raiseN (e : Value) (run : RunF) (T : BT) (n : Nat) (d : Drawn) (k : Nat) (fr : Frame) (rest : List Frame) : Option SharedT :=
  @Frame.rec (fun _ => Option SharedT) (fun kk _ _ _ cd p _ => run T n d k (kk (.error e)) cd p rest) (fun _ _ _ _ _ => none) fr
noncomputable def mRaise (e : Value) : Mo := fun run _ T n d k _ _ stack =>
  @List.rec Frame (fun _ => Option SharedT) none (fun fr rest _ => raiseN e run T n d k fr rest) stack
noncomputable def mNo : Mo := fun _ _ _ _ _ _ _ _ _ => none
noncomputable def mUns (_ : String) : Mo := mNo
noncomputable def mFin (_ : Ending) : Mo := mNo
noncomputable def mRule (_ : String) (kk : Unit → Sem Fin) (_ : Unit → Mo) : Mo := fun run _ T n d k code pos stack => run T n d k (kk ()) code pos stack
noncomputable def mAt (p : Pos) (kk : Unit → Sem Fin) (_ : Unit → Mo) : Mo := fun run _ T n d k code _ stack => run T n d k (kk ()) code p stack
noncomputable def mLoad (a : Addr) (_ : Option Value) (kk : Obj → Sem Fin) (_ : Obj → Mo) : Mo := fun run _ T n d k code pos stack =>
  @Bool.rec (fun _ => Option SharedT) none
    (@Option.rec Obj (fun _ => Option SharedT) none (fun o => @Option.rec Obj (fun _ => Option SharedT) none (fun o' => run T n d k (kk o') code pos stack) (alive o)) (getR T a)) (Nat.blt a n)
noncomputable def okAt (n₀ : Nat) (ann : Option Value) (a : Addr) : Bool := Nat.ble n₀ a || a == mainNs || a == cStatics || ann == some (.ref a)
noncomputable def mUpd (a : Addr) (_ : Option Value) (f : Obj → Obj) (kk : Unit → Sem Fin) (_ : Unit → Mo) : Mo := fun run C T n d k code pos stack =>
  @Bool.rec (fun _ => Option SharedT) none
    (@Bool.rec (fun _ => Option SharedT) none
      (@Option.rec Obj (fun _ => Option SharedT) none (fun o => @Option.rec Obj (fun _ => Option SharedT) none (fun _ => run (setR T a f) n d k (kk ()) code pos stack) (alive o)) (getR T a)) (Nat.blt a n))
    (okAt C.n₀ C.ann a)
noncomputable def mAlloc (o : Obj) (kk : Addr → Sem Fin) (_ : Addr → Mo) : Mo := fun run _ T n d k code pos stack =>
  @Option.rec Obj (fun _ => Option SharedT) none (fun _ => run (insR T n o) (Nat.succ n) d k (kk n) code pos stack) (getR (insR T n o) n)
noncomputable def mLia (a : Addr) (kk : Option Obj → Sem Fin) (_ : Option Obj → Mo) : Mo := fun run _ T n d k code pos stack =>
  @Bool.rec (fun _ => Option SharedT) (run T n d k (kk none) code pos stack)
    (@Option.rec Obj (fun _ => Option SharedT) none (fun o => run T n d k (kk (alive o)) code pos stack) (getR T a)) (Nat.blt a n)
noncomputable def mPoint (_ : List Value) (kk : Unit → Sem Fin) (_ : Unit → Mo) : Mo := fun run _ T n d k code pos stack => run T n d k (kk ()) code pos stack
noncomputable def mReg (_ : Addr) (_ : Unit → Sem Fin) (_ : Unit → Mo) : Mo := mNo
noncomputable def mFresh (kk : Tok → Sem Fin) (_ : Tok → Mo) : Mo := fun run _ T n d k code pos stack => run T n d (Nat.succ k) (kk k) code pos stack
noncomputable def mAsk (kk : Setting → Sem Fin) (_ : Setting → Mo) : Mo := fun run C T n d k code pos stack => run T n d k (kk ⟨C.p, C.w.params⟩) code pos stack
noncomputable def mChoose (_ : Source) (_ : Nat) (_ : Nat → Sem Fin) (_ : Nat → Mo) : Mo := mNo
noncomputable def mOs (_ : OsRequest) (_ : List Value) (_ : OsReply → Sem Fin) (_ : OsReply → Mo) : Mo := mNo
noncomputable def mCall (c : Code) (h : Option Value) (g : Bool) (l : List Value) (kk : Result → Sem Fin) (_ : Result → Mo) : Mo := fun run C T n d k code pos stack =>
  run T n d k (denote treeTable c) c pos (.ret kk h g l code pos (keptOf (stepC C d k ⟨.call c h g l kk, code, pos, stack⟩)) :: stack)
noncomputable def mHandled (own : Bool) (kk : Option Value → Sem Fin) (_ : Option Value → Mo) : Mo := fun run _ T n d k code pos stack =>
  run T n d k (kk (topHandled (if own then (match splitAtGen stack with | some (fs, _, _) => fs | none => stack) else stack))) code pos stack
noncomputable def mNewGen (_ : Code) (_ : Nat → Sem Fin) (_ : Nat → Mo) : Mo := mNo
noncomputable def mGenState (_ : Nat) (_ : GenStatus × Option (List (Code × Pos)) → Sem Fin) (_ : GenStatus × Option (List (Code × Pos)) → Mo) : Mo := mNo
noncomputable def mResume (_ : Nat) (_ : Resume) (_ : List Value) (_ : GenResult → Sem Fin) (_ : GenResult → Mo) : Mo := mNo
noncomputable def mYield (_ : Value) (_ : Bool) (_ : List Value) (_ : Resume → Sem Fin) (_ : Resume → Mo) : Mo := mNo
noncomputable def mStack (kk : List (Code × Pos) → Sem Fin) (_ : List (Code × Pos) → Mo) : Mo := fun run _ T n d k code pos stack => run T n d k (kk ((code, pos) :: stack.map Frame.where_)) code pos stack
noncomputable def mFork (_ : Code) (_ : Nat → Sem Fin) (_ : Nat → Mo) : Mo := mNo
noncomputable def mThread (kk : Nat → Sem Fin) (_ : Nat → Mo) : Mo := fun run _ T n d k code pos stack => run T n d k (kk 0) code pos stack
noncomputable def mAwait (_ : Addr) (_ : Obj → Option Obj) (_ : Bool) (_ : List Value) (_ : Bool → Sem Fin) (_ : Bool → Mo) : Mo := mNo
noncomputable def moOf (s : Sem Fin) : Mo := @Sem.rec Fin (fun _ => Mo) mPure mRaise mUns mFin mRule mAt mLoad mUpd mAlloc mLia mPoint mReg mFresh mAsk mChoose mOs mCall mHandled mNewGen mGenState mResume mYield mStack mFork mThread mAwait s
noncomputable def runS (C : Cx) (_ : Nat) (run : RunF) : RunF := fun T n d k cur code pos stack => moOf cur run C T n d k code pos stack
noncomputable def runO : RunF := fun _ _ _ _ _ _ _ _ => none
noncomputable def runF (C : Cx) (N : Nat) : RunF := @Nat.rec (fun _ => RunF) runO (runS C) N
theorem topRunT_succ {tb : String → Option Builtin} {p : Program} {w : World} {n₀ : Nat} {ann : Option Value} {n : Nat} {s s' : SharedT} {t t' : Thread} (h : through t = false) (hk : stepOk n₀ ann t = true) (hs : stepT (denote tb) p w s t = some (s', t')) : topRunT tb p w n₀ ann (n + 1) s t = topRunT tb p w n₀ ann n s' t' := by
  conv => lhs; unfold topRunT
  rw [h]
  dsimp only
  rw [hk]
  dsimp only
  rw [hs]
theorem thr_no {cur : Sem Fin} {code : Code} {pos : Pos} {stack : List Frame} (h : through ⟨cur, code, pos, []⟩ = false) : through ⟨cur, code, pos, stack⟩ = false := by
  cases stack with
  | nil => exact h
  | cons a b => rfl
section
variable {C : Cx} {N : Nat} {T : BT} {n : Nat} {d : Drawn} {k : Nat} {code : Code} {pos : Pos} {stack : List Frame} {r : SharedT}
abbrev TR (C : Cx) (N : Nat) (T : BT) (n : Nat) (d : Drawn) (k : Nat) (t : Thread) : Option SharedT := topRunT treeTable C.p C.w C.n₀ C.ann N ⟨T, n, C.life, Array.mk [], d, k, C.os⟩ t
def Good (C : Cx) (N : Nat) (run : RunF) : Prop := ∀ (T : BT) (n : Nat) (d : Drawn) (k : Nat) (cur : Sem Fin) (code : Code) (pos : Pos) (stack : List Frame) (r : SharedT), run T n d k cur code pos stack = some r → TR C N T n d k ⟨cur, code, pos, stack⟩ = some r
theorem mo_of {run : RunF} (g : Good C N run) (cur : Sem Fin) (h : moOf cur run C T n d k code pos stack = some r) : TR C (N + 1) T n d k ⟨cur, code, pos, stack⟩ = some r := by
  cases cur with
  | unsupported | finish | register | choose | os | newGen | genState | resume | «yield» | fork | await => cases h
  | rule | point | fresh | thread => exact (topRunT_succ (thr_no rfl) rfl rfl).trans (g _ _ _ _ _ _ _ _ _ h)
  | «at» p kk => exact (topRunT_succ (thr_no rfl) rfl rfl).trans (g _ _ _ _ _ _ _ _ _ h)
  | ask kk => exact (topRunT_succ (thr_no rfl) rfl rfl).trans (g _ _ _ _ _ _ _ _ _ h)
  | handled own kk => exact (topRunT_succ (thr_no rfl) rfl rfl).trans (g _ _ _ _ _ _ _ _ _ h)
  | stack kk => exact (topRunT_succ (thr_no rfl) rfl rfl).trans (g _ _ _ _ _ _ _ _ _ h)
  | call c hd gd l kk =>
    refine (topRunT_succ (thr_no rfl) rfl ?_).trans (g _ _ _ _ _ _ _ _ _ h)
    cases c <;> cases code <;> rfl
  | load a q kk =>
    change mLoad a q kk (fun x => moOf (kk x)) run C T n d k code pos stack = some r at h
    unfold mLoad at h
    cases e : Nat.blt a n with
    | false => rw [e] at h; cases h
    | true =>
      rw [e, getR_eq] at h
      cases e2 : T.get a with
      | none => rw [e2] at h; cases h
      | some o =>
        rw [e2] at h
        cases e3 : alive o with
        | none => dsimp only at h; rw [e3] at h; cases h
        | some o' =>
          dsimp only at h; rw [e3] at h
          exact (topRunT_succ (thr_no rfl) rfl (by simp only [stepT, e, e2, e3])).trans (g _ _ _ _ _ _ _ _ _ h)
  | update a q f kk =>
    change mUpd a q f kk (fun x => moOf (kk x)) run C T n d k code pos stack = some r at h
    unfold mUpd at h
    cases e0 : okAt C.n₀ C.ann a with
    | false => rw [e0] at h; cases h
    | true =>
    rw [e0] at h
    dsimp only at h
    cases e : Nat.blt a n with
    | false => rw [e] at h; cases h
    | true =>
      rw [e, getR_eq] at h
      cases e2 : T.get a with
      | none => rw [e2] at h; cases h
      | some o =>
        rw [e2] at h
        cases e3 : alive o with
        | none => dsimp only at h; rw [e3] at h; cases h
        | some o' =>
          dsimp only at h; rw [e3, setR_eq] at h
          exact (topRunT_succ (thr_no rfl) (show stepOk C.n₀ C.ann ⟨.update a q f kk, code, pos, stack⟩ = true from e0) (by simp only [stepT, e, e2, e3])).trans (g _ _ _ _ _ _ _ _ _ h)
  | alloc o kk =>
    change mAlloc o kk (fun x => moOf (kk x)) run C T n d k code pos stack = some r at h
    unfold mAlloc at h
    rw [getR_eq, insR_eq] at h
    cases e : (T.ins n o).get n with
    | none => rw [e] at h; cases h
    | some x => rw [e] at h; exact (topRunT_succ (thr_no rfl) rfl (by simp only [stepT, e]; rfl)).trans (g _ _ _ _ _ _ _ _ _ h)
  | loadIfAlive a kk =>
    change mLia a kk (fun x => moOf (kk x)) run C T n d k code pos stack = some r at h
    unfold mLia at h
    cases e : Nat.blt a n with
    | false => rw [e] at h; exact (topRunT_succ (thr_no rfl) rfl (by simp only [stepT, e])).trans (g _ _ _ _ _ _ _ _ _ h)
    | true =>
      rw [e, getR_eq] at h
      cases e2 : T.get a with
      | none => rw [e2] at h; cases h
      | some o => rw [e2] at h; exact (topRunT_succ (thr_no rfl) rfl (by simp only [stepT, e, e2])).trans (g _ _ _ _ _ _ _ _ _ h)
  | raise e =>
    cases stack with
    | nil => cases h
    | cons fr rest =>
      cases fr with
      | gen => cases h
      | ret kk a b c cd p kp => exact (topRunT_succ (thr_no rfl) rfl rfl).trans (g _ _ _ _ _ _ _ _ _ h)
  | pure a =>
    cases a with
    | done f =>
      cases stack with
      | nil => exact h
      | cons fr rest =>
        cases fr with
        | gen => cases h
        | ret kk a b c cd p kp => exact (topRunT_succ rfl rfl rfl).trans (g _ _ _ _ _ _ _ _ _ h)
    | again c =>
      change mAgain c run C T n d k code pos stack = some r at h
      unfold mAgain at h
      cases e : agOk c with
      | false => rw [e] at h; cases h
      | true =>
        rw [e] at h
        refine (topRunT_succ (thr_no rfl) ?_ ?_).trans (g _ _ _ _ _ _ _ _ _ h)
        · cases c with
          | builtin id a =>
            show ((((!(id.startsWith "lifetime.") || _) && _) && _) && _) = true
            rw [show (!(id.startsWith "lifetime.")) = true from e]; rfl
          | _ => rfl
        · cases stack with
          | nil => cases c <;> cases code <;> rfl
          | cons fr rest => cases fr <;> cases c <;> cases code <;> rfl
theorem run_of : ∀ N : Nat, Good C N (runF C N)
  | 0 => fun _ _ _ _ _ _ _ _ _ h => by cases h
  | N + 1 => fun _ _ _ _ cur _ _ _ _ h => mo_of (run_of N) cur h
end
end HdT
namespace HdT
open PySem PySem.W
noncomputable def obsN (s : SharedT) (a : Addr) : Option Obj := @Bool.rec (fun _ => Option Obj) none (@Option.rec Obj (fun _ => Option Obj) none alive (getR s.tree a)) (Nat.blt a s.n)
noncomputable def obsT (as : List Addr) (s : SharedT) : List (Option Obj) := @List.rec Addr (fun _ => List (Option Obj)) [] (fun a _ ih => obsN s a :: ih) as
theorem obsN_eq {s : SharedT} {a : Addr} {o' : Obj} (h : obsN s a = some o') : s.abs.heap.get? a = some o' := by
  unfold obsN at h
  cases e : Nat.blt a s.n with
  | false => rw [e] at h; cases h
  | true =>
    rw [e, getR_eq] at h
    cases g : s.tree.get a with
    | none => rw [g] at h; cases h
    | some x => rw [g] at h; exact (abs_get (Nat.le_of_ble_eq_true e) g).trans h
theorem obsT_eq {s : SharedT} : ∀ {as : List Addr} {os : List (Addr × Obj)}, obsT as s = os.map (fun p => some p.2) → as.map s.abs.heap.get? = os.map fun p => some p.2
  | [], [], _ => rfl
  | [], _ :: _, h => by cases h
  | _ :: _, [], h => by cases h
  | a :: as, o :: os, h => by
    injection h with h1 h2
    rw [List.map_cons, List.map_cons, obsN_eq h1, obsT_eq h2]
end HdT
namespace HdT
open PySem PySem.W
def chkE (p : Program) (h₀ : Heap) (s : Shared) : Bool := staticsOk (importedModules p.main.body) h₀ s.heap && namesBound p s.heap && gensDone s && laidKept h₀ s.heap
theorem left_one {p q : Program} {loose : List Str} {Xt : Shared → Bool} {β1 β2 β3 : Type} {as : List Addr} {KF : Params → Frag} {N : Nat} {g0 : Bool} {E : World → OsState → Option SharedT} {L1 : Params → Shared → β1} {G1 : β1} {L2 : Params → Shared → β2} {G2 : β2} {L3 : Params → Shared → β3} {G3 : β3}
    (e : opening p = plainProg p.main.scope.names) (hN : Nat.ble 600 N = true) (f : ∀ s, fenceModules? p s = some s)
    (size : ∀ w : World, ((boot_heap w.params).isNs mainGlobals && (Array.mk [] : Array GenState).size == 0, (boot_heap w.params).objs.size, (boot_heap w.params).nsMap mainGlobals "__annotations__") = (true, 11, some (.ref 6)))
    (hE : ∀ w os s, E w os = some s → topRunT treeTable p w 11 (some (.ref 6)) N ⟨bootTree w.params, 11, bootLife w.params, Array.mk [], boot_drawn, boot_toks, os⟩ (topStub p) = some s)
    (hG : ∀ P s, L1 P s = G1 → L2 P s = G2 → L3 P s = G3 → chkE p (boot_heap P) s = true ∧ openSeen q loose (importedModules p.main.body) Xt g0 s = openGood q loose)
    (h1 : ∀ w os, (E w os).map (fun s => L1 w.params s.abs) = some G1) (h11 : ∀ w os, (E w os).map (fun s => L2 w.params s.abs) = some G2) (h12 : ∀ w os, (E w os).map (fun s => L3 w.params s.abs) = some G3) (h2 : ∀ w os, (E w os).map (fun s => obsT as s) = some ((KF w.params).map fun p => some p.2)) : LeftO p q loose Xt (fun s => as.map s.heap.get?) (fun w => (KF w.params).map fun p => some p.2) N g0 := fun w => by
  obtain ⟨⟨hp, gs, d, k, os⟩, e1, e'⟩ := Option.map_eq_some_iff.mp (boot_open e hN f w)
  obtain ⟨rfl, rfl, rfl, rfl⟩ : hp = boot_heap w.params ∧ gs = Array.mk [] ∧ d = boot_drawn ∧ k = boot_toks := by simpa using e'
  obtain ⟨z1, z2, z3⟩ : _ ∧ _ ∧ _ := by simpa only [Prod.mk.injEq] using size w
  obtain ⟨s, hs, l1⟩ := Option.map_eq_some_iff.mp (h1 w os)
  obtain ⟨s1, hs1, m1⟩ := Option.map_eq_some_iff.mp (h11 w os)
  obtain rfl : s = s1 := Option.some.inj (hs.symm.trans hs1)
  obtain ⟨s2, hs2, m2⟩ := Option.map_eq_some_iff.mp (h12 w os)
  obtain rfl : s = s2 := Option.some.inj (hs.symm.trans hs2)
  obtain ⟨s', hs', l3⟩ := Option.map_eq_some_iff.mp (h2 w os)
  obtain rfl : s = s' := Option.some.inj (hs.symm.trans hs')
  obtain ⟨l1, l2⟩ := hG _ _ l1 m1 m2
  have r := topRun_of (hE w os _ hs)
  have t : topFrom treeTable p w N ⟨boot_heap w.params, Array.mk [], boot_drawn, boot_toks, os⟩ = some s.abs := by
    unfold topFrom
    dsimp only
    rw [z1, z2, z3]
    have r' : topRun treeTable p w 11 (some (.ref 6)) N ⟨boot_heap w.params, Array.mk [], boot_drawn, boot_toks, os⟩ (topStub p) = some s.abs := by
      rw [← boot_is]; exact r
    rw [r']
    show (match chkE p (boot_heap w.params) s.abs with | true => _ | false => _) = _
    rw [l1]
  unfold openEnds
  rw [e1]
  show (topFrom treeTable p w N _).map _ = _
  rw [t]
  exact congrArg some (Prod.ext l2 (obsT_eq l3))
theorem boot_size (w : World) : ((boot_heap w.params).isNs mainGlobals && (Array.mk [] : Array GenState).size == 0, (boot_heap w.params).objs.size, (boot_heap w.params).nsMap mainGlobals "__annotations__") = (true, 11, some (.ref 6)) := by kernel_rfl
end HdT

end
section
set_option maxHeartbeats 4000000
namespace L2
open PySem PySem.Spec PyProof.Rows
/-- an exception's object: its class, its dict, its trace; no context -/
def ExAt (h : Heap) (e C : Addr) (d : Option Addr) (v1 : Value) : Prop :=
  ∃ oe vs, h.get? e = some oe ∧ oe.cls = .ref C ∧ oe.dict = d ∧ oe.data = .fields vs ∧ vs.size = 6 ∧ vs[1]? = some v1 ∧ vs[2]? = some .none
def TrAt (h : Heap) (T : Addr) (fl : Value) : Prop := ∃ oT ts, h.get? T = some oT ∧ oT.data = .fields ts ∧ ts[3]? = some fl
def Fl (h : Heap) (e C : Addr) (d : Option Addr) : Option Addr → Prop
  | none => ExAt h e C d .none
  | some T => ExAt h e C d (.ref T) ∧ TrAt h T .none ∧ T ≠ e
theorem ExAt.keep {h h' : Heap} {e C : Addr} {d : Option Addr} {v : Value} (x : ExAt h e C d v) (k : ∀ o, h.get? e = some o → h'.get? e = some o) : ExAt h' e C d v := by
  obtain ⟨oe, vs, a, b⟩ := x
  exact ⟨oe, vs, k _ a, b⟩
theorem TrAt.keep {h h' : Heap} {T : Addr} {v : Value} (x : TrAt h T v) (k : ∀ o, h.get? T = some o → h'.get? T = some o) : TrAt h' T v := by
  obtain ⟨oT, ts, a, b⟩ := x
  exact ⟨oT, ts, k _ a, b⟩
theorem ExAt.set1 {h : Heap} {e C : Addr} {d : Option Addr} {v v' : Value} {h' : Heap} {oe : Obj} (he : h.get? e = some oe) (x : ExAt h e C d v) (e' : h'.get? e = some (oe.mapFields (·.setIfInBounds 1 v'))) : ExAt h' e C d v' := by
  obtain ⟨o2, vs, a, c1, c2, c3, c4, c5, c6⟩ := x
  rw [he] at a; cases a
  refine ⟨_, _, e', (Obj.cls_mapFields _ _).trans c1, ?_, Obj.data_mapFields c3 _, by simp [c4], by simp [c4], ?_⟩
  · obtain ⟨k, dd, dt, sl⟩ := oe
    cases dt <;> first | exact c2 | cases c3
  · rw [Array.getElem?_setIfInBounds_ne (by decide)]; exact c6
section
variable {M : Model} {A : Around} {E : Value → Shared → Prop} {s : Shared}
theorem note_entry {base : Heap} {env : Env} {outer : List Env} {L e C : Addr} {d : Option Addr} {v1 head : Value} {nx : Bool} {Q : Unit → Shared → Prop}
    (hfr : A.frames = some (env :: outer)) (hl : s.heap.FunFrames base (env :: outer)) (hf : env.frame = some L) (hx : ExAt s.heap e C d v1)
    (k : ∀ h' T, s.heap.objs.size = T → (∀ b o, s.heap.get? b = some o → b ∉ frs (env :: outer) → b ≠ e → h'.get? b = some o) →
      (∀ b o, s.heap.get? b = some o → b ≠ e → ∃ sl, h'.get? b = some { o with slots := sl }) → ExAt h' e C d (.ref T) → TrAt h' T (rawInt L) → T ≠ e → Q () { s with heap := h' }) :
    wpAny M A (do let a ← frameOf env; let pl ← entryPlaceOf L nx; let b ← EntryCells.newEntry head a .none (rawInt L) .none pl; setField (.ref e) 1 b) Q E s := by
  obtain ⟨oe, vs, he, hx2⟩ := id hx
  have hd := hx2.2.2.1
  have hsz : 1 < vs.size := by rw [hx2.2.2.2.1]; decide
  have out : e ∉ (env :: outer).filterMap (·.frame) := fun hm => by
    obtain ⟨_, o, ho, nf⟩ := hl.mem hm
    rw [he] at ho
    cases ho
    exact nf vs hd
  refine wpAny_bind (wpAny_frameOf_fun hfr hl hf fun h1 sl1 => ?_)
  refine wpAny_bind (wpAny_entryPlaceOf fun pl hpl => ?_)
  unfold EntryCells.newEntry newFields
  refine wpAny_bind (wpAny_newObj_type ?_ (hpl.sizeOk5 _ _ _ _ _))
  have e1 : h1.get? e = some oe := (sl1.2.1 e out).trans he
  generalize hob : ({ cls := .type "traceback", dict := none, data := .fields ([head, .ref L, .none, rawInt L, .none] ++ (if pl.isEmpty then List.replicate 6 Value.none else pl)).toArray } : Obj) = ob
  have odat : ∃ ts, ob.data = .fields ts ∧ ts[3]? = some (rawInt L) ∧ ob.isFreed = false := by
    subst hob
    exact ⟨_, rfl, by simp, rfl⟩
  have e2 := Heap.get?_push_of_some (h := h1) ob e1
  refine wpAny_setField e2 hd hsz ?_
  have tne : h1.objs.size ≠ e := Nat.ne_of_gt (Heap.lt_size e1)
  have e3 := Heap.get?_update_self (Obj.mapFields (·.setIfInBounds 1 (Value.ref h1.objs.size))) e2 (Obj.isFreed_of_fields (Obj.data_mapFields hd _))
  have t3 := (Heap.get?_update_other (h1.push ob) (Obj.mapFields (·.setIfInBounds 1 (Value.ref h1.objs.size))) (Ne.symm tne)).trans (Heap.get?_push_size h1 odat.choose_spec.2.2)
  have kp : ∀ b o, b ≠ e → h1.get? b = some o → ((h1.push ob).update e (Obj.mapFields (·.setIfInBounds 1 (Value.ref h1.objs.size)))).get? b = some o := fun b o hb q => by
    rw [Heap.get?_update_other _ _ (Ne.symm hb)]
    exact Heap.get?_push_of_some _ q
  refine k _ h1.objs.size ?_ (fun b o q nf hb => kp b o hb ((sl1.2.1 b nf).trans q)) (fun b o q hb => ?_) (ExAt.set1 he hx e3) ?_ tne
  · exact sl1.1.symm
  · obtain ⟨sl, q2⟩ := sl1.2.2 b o q
    exact ⟨sl, kp b _ hb q2⟩
  · obtain ⟨ts, d1, d2, _⟩ := odat
    exact ⟨_, ts, t3, d1, d2⟩
theorem note_any {base : Heap} {env : Env} {outer : List Env} {L e C : Addr} {d old : Option Addr} {Q : Unit → Shared → Prop}
    (hfr : A.frames = some (env :: outer)) (hl : s.heap.FunFrames base (env :: outer)) (hf : env.frame = some L) (hx : Fl s.heap e C d old)
    (k : ∀ h' T, s.heap.objs.size = T → (∀ b o, s.heap.get? b = some o → b ∉ frs (env :: outer) → b ≠ e → some b ≠ old → h'.get? b = some o) →
      (∀ b o, s.heap.get? b = some o → b ≠ e → some b ≠ old → ∃ sl, h'.get? b = some { o with slots := sl }) → ExAt h' e C d (.ref T) → TrAt h' T (rawInt L) → T ≠ e → Q () { s with heap := h' }) :
    wpAny M A (noteFrame (.ref e) env) Q E s := by
  unfold noteFrame
  simp only [hf]
  cases old with
  | none =>
    obtain ⟨oe, vs, he, c1, c2, c3, c4, c5, c6⟩ := id (show ExAt s.heap e C d .none from hx)
    refine wpAny_bind (wpAny_field he c3 c5 ?_)
    rw [if_neg (by decide)]
    exact note_entry hfr hl hf hx fun h' T a b c => k h' T a (fun x o q nf hb _ => b x o q nf hb) fun x o q hb _ => c x o q hb
  | some T0 =>
    obtain ⟨hx1, ⟨oT, ts, hT, dT, fT⟩, hne⟩ := hx
    obtain ⟨oe, vs, he, c1, c2, c3, c4, c5, c6⟩ := id hx1
    refine wpAny_bind (wpAny_field he c3 c5 ?_)
    rw [if_pos (show (Value.ref T0 != Value.none) = true from by simp)]
    refine wpAny_bind (wpAny_field hT dT fT ?_)
    rw [if_neg (show ¬ ((Value.none == rawInt L) = true) from by simp [rawInt])]
    refine wpAny_bind (wpAny_setField hT dT (Array.getElem?_eq_some_iff.mp fT).1 ?_)
    have oth : ∀ b, b ≠ T0 → (s.heap.update T0 (Obj.mapFields (·.setIfInBounds 3 Value.none))).get? b = s.heap.get? b := fun b hb => Heap.get?_update_other _ _ (Ne.symm hb)
    have nrec : ∀ b o, s.heap.get? b = some o → (∀ vs, o.data ≠ .fields vs) → b ≠ T0 := fun b o hb nf q => by
      rw [q, hT] at hb
      cases hb
      exact nf ts dT
    have lt0 : (s.heap.update T0 (Obj.mapFields (·.setIfInBounds 3 Value.none))).objs.size = s.heap.objs.size := by
      first | exact Heap.size_update _ _ _ | simp [Heap.update]
    refine note_entry hfr (hl.of_keeps fun b o hb nf => ⟨o, (oth b (nrec b o hb nf)).trans hb, rfl⟩) hf (hx1.keep fun o q => (oth e (Ne.symm hne)).trans q) fun h' T a b c => k h' T (lt0.symm.trans a) (fun x o q nf hb ho => b x o ((oth x fun z => ho (by rw [z])).trans q) nf hb)
      fun x o q hb ho => c x o ((oth x fun z => ho (by rw [z])).trans q) hb
theorem flight_any {e C T : Addr} {d : Option Addr} {fl : Value} {Q : Unit → Shared → Prop} (hx : ExAt s.heap e C d (.ref T)) (ht : TrAt s.heap T fl) (hne : T ≠ e)
    (k : ∀ h', (∀ b, b ≠ T → h'.get? b = s.heap.get? b) → Fl h' e C d (some T) → Q () { s with heap := h' }) : wpAny M A (setFlight (.ref e) none) Q E s := by
  obtain ⟨oe, vs, he, c1, c2, c3, c4, c5, c6⟩ := id hx
  obtain ⟨oT, ts, hT, dT, fT⟩ := ht
  have hsz : 3 < ts.size := (Array.getElem?_eq_some_iff.mp fT).1
  have oth : ∀ b, b ≠ T → (s.heap.update T (Obj.mapFields (·.setIfInBounds 3 ((none : Option Addr).elim Value.none fun f => rawInt f)))).get? b = s.heap.get? b := fun b hb => Heap.get?_update_other _ _ (Ne.symm hb)
  unfold setFlight
  refine wpAny_bind (wpAny_field he c3 c5 ?_)
  rw [if_pos (show (Value.ref T != Value.none) = true from by simp)]
  refine wpAny_setField hT dT hsz (k _ oth ⟨hx.keep fun o q => (oth e (Ne.symm hne)).trans q, ⟨_, _, Heap.get?_update_self _ hT (Obj.isFreed_of_fields (Obj.data_mapFields dT _)), Obj.data_mapFields dT _, by simp [hsz]⟩, hne⟩)
end
end L2

end
section
set_option maxHeartbeats 4000000
namespace L2
open PySem PySem.Spec PyProof.Rows
theorem ObjOk.there {P : Program} {w : World} {H : Hp} {h : Heap} {a : Addr} {o : HO} (x : ObjOk P w H h a o) : ∃ u, h.get? a = some u := by
  cases o with
  | lst xs => obtain ⟨_, _, _, _, e⟩ := x; exact ⟨_, e⟩
  | tup xs => obtain ⟨_, _, _, _, e, _⟩ := x; exact ⟨_, e⟩
  | dK kvs => obtain ⟨_, _, _, _, o, _, _, e, _⟩ := x; exact ⟨_, e⟩
  | dT kvs => obtain ⟨_, _, _, _, o, _, _, e, _⟩ := x; exact ⟨_, e⟩
  | set S n => obtain ⟨o, _, _, _, e, _⟩ := x; exact ⟨_, e⟩
  | ins C dx fs => obtain ⟨_, _, _, e, _⟩ := x; exact ⟨_, e⟩
  | own y => exact x
  | xd fs => obtain ⟨_, ⟨_, _, _, e, _⟩, _⟩ := x; exact ⟨_, e⟩
  | rng lo hi => obtain ⟨_, _, _, e⟩ := x; exact ⟨_, e⟩
  | frz ob u => obtain ⟨e, _⟩ := x; exact ⟨_, e⟩
  | tbl ps => exact ⟨_, x⟩
  | met f y => exact ⟨_, x⟩
  | ext φ => obtain ⟨_, e, _⟩ := x; exact e
theorem HOk.un {P : Program} {w : World} {H : Hp} {h : Heap} {a : Addr} (x : HOk P w H h) (e : h.get? a = none) : H a = none := by
  cases q : H a with
  | none => rfl
  | some o =>
    obtain ⟨u, z⟩ := (x a o q).there
    rw [e] at z; cases z
/-- the tracked objects are kept -/
theorem HOk.calm {P : Program} {w : World} {H : Hp} {h h' : Heap} (x : HOk P w H h) (k : ∀ b u o, H b = some o → h.get? b = some u → h'.get? b = some u) : HOk P w H h' := fun a o e =>
  (x a o e).stay (fun b u hb q => by
    rcases hb with z | z
    · subst z; exact k b u o e q
    · exact k b u _ z q) (fun _ q => q) fun _ _ q => q
/-- how an exception lies behind a call -/
def CX1 (P : Program) (w : World) : CXT := fun outer H s E e s' => ∃ (ea C : Addr) (d old : Option Addr) (H' : Hp), e = .ref ea ∧ s'.os = s.os ∧ AllBare s'.gens ∧ Un (frs outer) [] H H' s.heap s'.heap ∧ HOk P w H' s'.heap ∧
  Fl s'.heap ea C d old ∧ s.heap.get? ea = none ∧ H' ea = none ∧ (∀ T, old = some T → s.heap.get? T = none ∧ H' T = none) ∧ E (.ref C) d H'
/-- .. in a body -/
structure FlX (X : Cx) (H : Hp) (s : Shared) (ea C : Addr) (d old : Option Addr) : Prop where
  fl : Fl s.heap ea C d old
  new : X.s_0.heap.get? ea = none
  un : H ea = none
  tr : ∀ T, old = some T → X.s_0.heap.get? T = none ∧ H T = none
  pn : ∀ p ∈ X.pn, p.1 ≠ ea ∧ some p.1 ≠ old
/-- an exception that E is told of meets what this body wants of exceptions -/
def XOk (X : Cx) (E : XK) : Prop := ∀ (pins : List (Addr × Obj)) (σ : St) (H : Hp) (s : Shared) (ea C : Addr) (d old : Option Addr), Inv X pins σ H s → FlX X H s ea C d old → E (.ref C) d H → X.xe (.ref ea) s
theorem Un.gone {fs : List Addr} {H H' : Hp} {h h' : Heap} {a : Addr} (u : Un fs [] H H' h h') (e : h'.get? a = none) : h.get? a = none := by
  cases q : h.get? a with
  | none => rfl
  | some o =>
    obtain ⟨o', z⟩ := u.there a o q (by simp)
    rw [e] at z; cases z
section
variable {X : Cx} {pins : List (Addr × Obj)} {σ : St} {H : Hp} {s : Shared} {ea C : Addr} {d old : Option Addr} {E : XK}
theorem Inv.gone (I : Inv X pins σ H s) (hx : X.ex = []) {a : Addr} (e : s.heap.get? a = none) : X.s_0.heap.get? a = none := by
  have u := I.base
  rw [hx] at u
  exact u.gone e
/-- the exception leaves the def's frame -/
theorem leave_ok {E' : Value → Shared → Prop} (I : Inv X pins σ H s) (hx : X.ex = []) (hst : X.stack = X.env :: X.outer) (hfr : X.env.frame = some X.env.locals) (F : FlX X H s ea C d old) (hE : E (.ref C) d H) :
    wpAny (model X.prog X.w) X.A (leaving X.env (.ref ea)) (fun _ s2 => CX1 X.prog X.w X.outer X.H_0 X.s_0 E (.ref ea) s2) E' s := by
  have hl : s.heap.FunFrames X.base (X.env :: X.outer) := by rw [← hst]; exact I.stack
  unfold leaving
  refine wpAny_bind (note_any (by rw [I.ok.frames, hst]) hl hfr F.fl fun h1 T hT k1 k2 x1 t1 ne => ?_)
  refine flight_any x1 t1 ne fun h2 k3 fl2 => ?_
  have fsE : frs (X.env :: X.outer) = X.env.locals :: X.fs := by simp [frs, hfr]
  have bs := I.base
  rw [hx] at bs
  -- an object of the entry
  have old_ne : ∀ b o, X.s_0.heap.get? b = some o → b ≠ ea ∧ some b ≠ old ∧ b ≠ X.env.locals := fun b o q => by
    refine ⟨fun z => ?_, fun z => ?_, Nat.ne_of_lt (Nat.lt_of_lt_of_le (Heap.lt_size q) I.ok.above)⟩
    · rw [z, F.new] at q; cases q
    · rw [(F.tr b z.symm).1] at q; cases q
  have nT : ∀ b o, s.heap.get? b = some o → b ≠ T := fun b o q z => by
    have q2 := Heap.lt_size q
    rw [z, ← hT] at q2
    exact Nat.lt_irrefl _ q2
  refine ⟨ea, C, d, some T, H, rfl, I.os, I.bare, ⟨fun b o q n hb he => ?_, fun b o q n hb he => ?_, fun b o q n he => bs.free b o q n he, fun b o q he => ?_, bs.tups, bs.frzs, bs.tbls⟩, I.hok.calm fun b u o q e => ?_, fl2, F.new, F.un, fun T' e => ?_, hE⟩
  · have q1 := bs.keep b o q n hb he
    obtain ⟨n1, n2, n3⟩ := old_ne b o q
    show h2.get? b = some o
    rw [k3 b (nT b o q1)]
    refine k1 b o q1 (fun z => ?_) n1 n2
    rw [fsE] at z
    rcases List.mem_cons.mp z with z | z
    · exact n3 z
    · exact hb z
  · obtain ⟨sl, q1⟩ := bs.slot b o q n hb he
    obtain ⟨n1, n2, n3⟩ := old_ne b o q
    obtain ⟨sl2, q2⟩ := k2 b _ q1 n1 n2
    exact ⟨sl2, (k3 b (nT b _ q1)).trans q2⟩
  · obtain ⟨o1, q1⟩ := bs.there b o q he
    obtain ⟨n1, n2, n3⟩ := old_ne b o q
    obtain ⟨sl2, q2⟩ := k2 b _ q1 n1 n2
    exact ⟨_, (k3 b (nT b _ q1)).trans q2⟩
  · show h2.get? b = some u
    rw [k3 b (nT b u e)]
    refine k1 b u e (fun z => ?_) (fun z => ?_) fun z => ?_
    · rw [← hst] at z
      rw [I.stkFree b z] at q; cases q
    · rw [z, F.un] at q; cases q
    · rw [(F.tr b z.symm).2] at q; cases q
  · cases e
    have hn : s.heap.get? T = none := Heap.get?_none_of_le (Nat.le_of_eq hT)
    exact ⟨bs.gone hn, I.hok.un hn⟩
/-- behind a callee that raised -/
theorem passes1 (hx : XOk X E) (he : X.ex = [] := by rfl) : Passes (CX1 X.prog X.w) X E := by
  intro pins σ H s e s' I c
  obtain ⟨ea, C, d, old, H', rfl, os, bare, un, hok, fl, n1, n2, n3, hE⟩ := c
  refine hx pins σ H' s' ea C d old (I.call' (ch := []) os un hok bare fun b z => absurd z (by simp)) ⟨fl, I.gone he n1, n2, fun T e => ⟨I.gone he (n3 T e).1, (n3 T e).2⟩, fun p hp => ?_⟩ hE
  have z := (I.pin p (List.mem_append_left _ hp)).1
  refine ⟨fun q => ?_, fun q => ?_⟩
  · rw [q, n1] at z; cases z
  · rw [(n3 p.1 q.symm).1] at z; cases z
end
theorem xok_def {P : Program} {w : World} {K : PySem.W.Frag} {mg : Str → Option Value} {base : Heap} {N : List Str} {qual : Str} {scope : Scope} {f : Addr} {cd : Value} {A : Around} {outer : List Env} {s : Shared} {H : Hp} {E : XK} :
    XOk (cxOf (CX1 P w) P w K mg base N qual scope f cd A outer s H E) E := fun pins σ H1 s1 ea C d old I F hE =>
  leave_ok I rfl rfl rfl F hE
/-! ### raise X(..), X a class of the text without __init__ -/
section
variable {X : Cx} {E : XK} {x : Str} {C : Addr} {B newId initId : String} {bmB : List Value} {e : Expr} {es : List Expr} {t : TA} {np cpos pos : Pos}
def tRaise (C : Addr) (E : XK) (t : TA) : TS := fun _ σ H => t σ H fun vs H1 => vs.length ≤ sizeLine ∧ E (.ref C) none H1
end
end L2

end
section
set_option maxHeartbeats 4000000
namespace L2
open PySem PySem.Spec PyProof.Rows
/-! ### classes of the text -/
def clsIn (K : PySem.W.Frag) (C : Addr) (bm : List Value) : Bool := match K.lookup C with
  | some ⟨.type "type", _, .cls cd, _⟩ => cd.mro == .ref C :: bm
  | _ => false
def ClsAt (h : Heap) (C : Addr) (bm : List Value) : Prop := ∃ o cd, h.get? C = some o ∧ o.cls = .type "type" ∧ o.data = .cls cd ∧ cd.mro = .ref C :: bm
theorem cls_at {K : PySem.W.Frag} {h : Heap} {C : Addr} {bm : List Value} (X : K.In h) (q : clsIn K C bm = true) : ClsAt h C bm := by
  unfold clsIn at q
  split at q
  · rename_i ho
    exact ⟨_, _, X _ _ ho, rfl, rfl, by simpa using q⟩
  · cases q
section
variable {M : Model} {A : Around} {E : Value → Shared → Prop} {s : Shared}
theorem sub_cls {C : Addr} {bm : List Value} {b : Value} {Q : Bool → Shared → Prop} (hC : ClsAt s.heap C bm) (h : Q ((Value.ref C :: bm).contains b) s) : wpAny M A (isSubtype (.ref C) b) Q E s := by
  obtain ⟨o, cd, ho, hc, hd, hm⟩ := hC
  unfold isSubtype mroOf classData
  refine wpAny_bind (wpAny_bind (wpAny_bind (wpAny_load ho ?_)))
  rw [hd]
  refine wpAny_pure (wpAny_pure ?_)
  rw [hm]
  simp only [List.isEmpty_cons, Bool.false_eq_true, if_false]
  exact wpAny_pure h
theorem type_of {a : Addr} {o : Obj} {Q : Value → Shared → Prop} (ho : s.heap.get? a = some o) (h : Q o.cls s) : wpAny M A (typeOf (.ref a)) Q E s := by
  obtain ⟨hp, g, d, tk, os⟩ := s
  unfold typeOf
  repeat (first | with_reducible refine wpAny_loadPart_at ho ?_ | wp_step)
  exact h
theorem exc_cls {C : Addr} {bm : List Value} {Q : Bool → Shared → Prop} (hC : ClsAt s.heap C bm) (hb : bm.contains (.type "BaseException") = true) (h : Q true s) : wpAny M A (isExcClass (.ref C)) Q E s := by
  have hC' := hC
  obtain ⟨o, cd, ho, hc, hd, hm⟩ := hC
  unfold isExcClass isType
  obtain ⟨hp, g, d, tk, os⟩ := s
  have e : (Value.ref C :: bm).contains (.type "BaseException") = true := by rw [List.contains_cons, hb, Bool.or_true]
  repeat (first | (with_reducible refine wpAny_loadPart_at ho ?_; rw [hd]) | (with_reducible refine wpAny_load ho ?_; rw [hd]) | (with_reducible refine sub_cls hC' ?_; rw [e]) | wp_step)
  all_goals exact h
theorem exc_two {ea tp C C1 C2 : Addr} {bm b1 b2 : List Value} {oe : Obj} {Q : Bool → Shared → Prop} (ht : IsTup s.heap tp #[.ref C1, .ref C2]) (he : s.heap.get? ea = some oe) (hc : oe.cls = .ref C) (hC : ClsAt s.heap C bm) (h1 : ClsAt s.heap C1 b1) (h2 : ClsAt s.heap C2 b2)
    (e1 : b1.contains (.type "BaseException") = true) (e2 : b2.contains (.type "BaseException") = true)
    (hm : ((Value.ref C :: bm).contains (.ref C1) || (Value.ref C :: bm).contains (.ref C2)) = true) (h : Q true s) : wpAny M A (excMatches (.ref ea) (.ref tp)) Q E s := by
  obtain ⟨o, ho, hoc, n, hd⟩ := ht
  unfold excMatches
  refine wpAny_bind (wpAny_isInstance ⟨o, ho, hoc⟩ isSubtype_tuple_tuple ?_)
  dsimp only
  rw [if_pos rfl]
  refine wpAny_bind (wpAny_seqItems ho hd ?_)
  dsimp only [Option.getD_some, Option.getD]
  refine wpAny_bind (wpAny_pure ?_)
  simp only [List.forIn_cons, List.forIn_nil]
  refine wpAny_bind (wpAny_bind (wpAny_bind (exc_cls h1 e1 ?_)))
  simp only [Bool.not_true, Bool.false_eq_true, if_false]
  refine wpAny_pure ?_
  refine wpAny_bind (wpAny_bind (exc_cls h2 e2 ?_))
  simp only [Bool.not_true, Bool.false_eq_true, if_false]
  refine wpAny_pure (wpAny_pure ?_)
  refine wpAny_bind (type_of he ?_)
  rw [hc]
  refine wpAny_bind (wpAny_bind (wpAny_bind (sub_cls hC ?_)))
  cases q1 : (Value.ref C :: bm).contains (.ref C1) with
  | true =>
    simp only [if_true]
    exact wpAny_pure (wpAny_pure (wpAny_pure h))
  | false =>
    rw [q1, Bool.false_or] at hm
    simp only [Bool.false_eq_true, if_false]
    refine wpAny_pure (wpAny_bind (wpAny_bind (sub_cls hC ?_)))
    rw [hm]
    simp only [if_true]
    exact wpAny_pure (wpAny_pure (wpAny_pure h))
end
end L2

end
section
set_option maxHeartbeats 4000000
namespace L2
open PySem PySem.Spec PyProof.Rows
/-- what is known of a caught exception's object -/
def ExO (C : Addr) (d : Option Addr) (oe : Obj) : Prop := oe.cls = .ref C ∧ oe.dict = d ∧ ∃ vs, oe.data = .fields vs ∧ vs[2]? = some .none
/-- records that an exception turns have turned; the frames' slots may have -/
theorem Inv.exc {X : Cx} {pins : List (Addr × Obj)} {σ : St} {H : Hp} {s : Shared} {h' : Heap} {t' : Nat} {ch : Addr → Prop} (I : Inv X pins σ H s)
    (hch : ∀ b, ch b → X.s_0.heap.get? b = none ∧ H b = none ∧ b ≠ X.env.locals ∧ (∀ x c, X.env.cells.lookup x = some c → c ≠ b) ∧ ∀ p ∈ X.pn ++ pins, p.1 ≠ b)
    (keep : ∀ b o, s.heap.get? b = some o → b ∉ frs X.stack → ¬ ch b → h'.get? b = some o) (slot : ∀ b o, s.heap.get? b = some o → ¬ ch b → ∃ sl, h'.get? b = some { o with slots := sl }) : Inv X pins σ H { s with heap := h', toks := t' } := by
  have nch : ∀ b o, X.s_0.heap.get? b = some o → ¬ ch b := fun b o q z => by rw [(hch b z).1] at q; cases q
  have cellK : ∀ x c, X.env.cells.lookup x = some c → ∀ v, s.heap.IsCell c v → h'.IsCell c v := fun x c e v ⟨o, ho, hd⟩ => by
    obtain ⟨sl, q⟩ := slot c o ho fun z => (hch c z).2.2.2.1 x c e rfl
    exact ⟨_, q, hd⟩
  refine ⟨I.ok, I.os, I.bare, ⟨fun b o e n hb hx => ?_, fun b o e n hb hx => ?_, I.base.free, fun b o e hx => ?_, I.base.tups, I.base.frzs, I.base.tbls⟩, ?_, fun x c e => ?_, I.free, I.freeC, fun p hp => ?_, I.hok.calm fun b u o q e => ?_, I.len⟩
  · refine keep b o (I.base.keep b o e n hb hx) (fun z => ?_) (nch b o e)
    rcases List.mem_cons.mp (I.stkSub b z) with q | q
    · exact Nat.ne_of_lt (Nat.lt_of_lt_of_le (Heap.lt_size e) I.ok.above) q
    · exact hb q
  · obtain ⟨sl, e1⟩ := I.base.slot b o e n hb hx
    obtain ⟨sl2, e2⟩ := slot b _ e1 (nch b o e)
    exact ⟨sl2, e2⟩
  · obtain ⟨o1, e1⟩ := I.base.there b o e hx
    obtain ⟨sl2, e2⟩ := slot b _ e1 (nch b o e)
    exact ⟨_, e2⟩
  · obtain ⟨m, ⟨o, es, ep, ho, hd, r⟩, hl⟩ := I.loc
    obtain ⟨sl, q⟩ := slot _ o ho fun z => (hch _ z).2.2.1 rfl
    refine ⟨m, ⟨_, es, ep, q, hd, r⟩, fun i x v e1 e2 e3 => ?_⟩
    obtain ⟨u, ru, l⟩ := hl i x v e1 e2 e3
    refine ⟨u, ru, ?_⟩
    rcases l with l | ⟨k, c, e, z⟩
    · exact .inl l
    · exact .inr ⟨k, c, e, cellK x c e _ z⟩
  · obtain ⟨v, z⟩ := I.cell x c e
    exact ⟨v, cellK x c e v z⟩
  · obtain ⟨e, n, ne, nf, d⟩ := I.pin p hp
    refine ⟨keep p.1 p.2 e (fun z => ?_) fun z => (hch _ z).2.2.2.2 p hp rfl, n, ne, nf, d⟩
    rcases List.mem_cons.mp (I.stkSub _ z) with q | q
    · exact ne q
    · exact nf q
  · refine keep b u e (fun z => ?_) fun z => ?_
    · rw [I.stkFree b z] at q; cases q
    · rw [(hch b z).2.1] at q; cases q
abbrev Cx.tri (X : Cx) (xe : Value → Shared → Prop) (pins : List (Addr × Obj)) : Cx := { X with xe := xe, pn := X.pn ++ pins }
abbrev Cx.hot (X : Cx) (ea : Addr) : Cx := { X with A := X.A.mark (some (.ref ea)), calm := false, xe := fun _ _ => False }
abbrev Cx.suite (X : Cx) (ea : Addr) (oe : Obj) : Cx := { X with A := X.A.mark (some (.ref ea)), calm := false, xe := fun _ _ => False, pn := (ea, oe) :: X.pn }
section
variable {X : Cx} {pins pins' : List (Addr × Obj)} {σ : St} {H : Hp} {s : Shared} {ea : Addr} {oe : Obj} {xe : Value → Shared → Prop}
theorem Cx.Ok.tri (ok : X.Ok) : (X.tri xe pins).Ok := ⟨ok.mod, ok.kind, ok.glob, ok.blt, ok.above, ok.inj, ok.has, ok.cab, ok.hd, ok.frames, ok.stk, ok.exf, ok.bs, ok.bsz, ok.noex, ok.exfs, ok.funs, ok.frf⟩
theorem Cx.Ok.untri (ok : (X.tri xe pins).Ok) : X.Ok := ⟨ok.mod, ok.kind, ok.glob, ok.blt, ok.above, ok.inj, ok.has, ok.cab, ok.hd, ok.frames, ok.stk, ok.exf, ok.bs, ok.bsz, ok.noex, ok.exfs, ok.funs, ok.frf⟩
theorem Cx.Ok.hot (ok : X.Ok) : (X.hot ea).Ok := ⟨ok.mod, ok.kind, ok.glob, ok.blt, ok.above, ok.inj, ok.has, ok.cab, fun z => (nomatch z), ok.frames, ok.stk, ok.exf, ok.bs, ok.bsz, ok.noex, ok.exfs, ok.funs, ok.frf⟩
theorem Cx.Ok.suite (ok : X.Ok) : (X.suite ea oe).Ok := ⟨ok.mod, ok.kind, ok.glob, ok.blt, ok.above, ok.inj, ok.has, ok.cab, fun z => (nomatch z), ok.frames, ok.stk, ok.exf, ok.bs, ok.bsz, ok.noex, ok.exfs, ok.funs, ok.frf⟩
theorem Inv.tri (I : Inv X pins σ H s) : Inv (X.tri xe pins) [] σ H s := ⟨I.ok.tri, I.os, I.bare, I.base, I.loc, I.cell, I.free, I.freeC, fun p hp => I.pin p (by simpa using hp), I.hok, I.len⟩
theorem Inv.untri (I : Inv (X.tri xe pins) pins' σ H s) : Inv X pins σ H s := ⟨I.ok.untri, I.os, I.bare, I.base, I.loc, I.cell, I.free, I.freeC, fun p hp => I.pin p (List.mem_append_left _ hp), I.hok, I.len⟩
theorem Inv.hot (I : Inv X pins σ H s) : Inv (X.hot ea) pins σ H s := ⟨I.ok.hot, I.os, I.bare, I.base, I.loc, I.cell, I.free, I.freeC, I.pin, I.hok, I.len⟩
theorem Inv.unhot (I : Inv (X.hot ea) pins σ H s) (ok : X.Ok) : Inv X pins σ H s := ⟨ok, I.os, I.bare, I.base, I.loc, I.cell, I.free, I.freeC, I.pin, I.hok, I.len⟩
theorem Inv.suite (I : Inv X pins σ H s) (hp : s.heap.get? ea = some oe ∧ H ea = none ∧ ea ≠ X.env.locals ∧ ea ∉ X.fs ∧ ∀ v, oe.data ≠ .cell v) : Inv (X.suite ea oe) pins σ H s :=
  ⟨I.ok.suite, I.os, I.bare, I.base, I.loc, I.cell, I.free, I.freeC, fun p hq => by
    rcases List.mem_cons.mp (show p ∈ (ea, oe) :: (X.pn ++ pins) from hq) with z | z
    · subst z; exact hp
    · exact I.pin p z, I.hok, I.len⟩
theorem Inv.unsuite (I : Inv (X.suite ea oe) pins σ H s) (ok : X.Ok) : Inv X pins σ H s := ⟨ok, I.os, I.bare, I.base, I.loc, I.cell, I.free, I.freeC, fun p hp => I.pin p (List.mem_cons.mpr (.inr hp)), I.hok, I.len⟩
/-- the frame's own names have changed -/
theorem Inv.renamed {h' : Heap} {t' : Nat} {m : Str → Option Value} (I : Inv X pins σ H s) (hn : h'.Ns X.env.locals m) (k : ∀ b, b ≠ X.env.locals → h'.get? b = s.heap.get? b) : Inv X pins (List.replicate σ.length none) H { s with heap := h', toks := t' } := by
  refine ⟨I.ok, I.os, I.bare, ⟨fun b o e n hb hx => ?_, fun b o e n hb hx => ?_, I.base.free, fun b o e hx => ?_, I.base.tups, I.base.frzs, I.base.tbls⟩, ⟨m, hn, fun i x v _ e2 _ => ?_⟩, fun x c e => ?_, I.free, I.freeC, fun p hp => ?_, I.hok.calm fun b u o q e => ?_, by rw [List.length_replicate]; exact I.len⟩
  · show h'.get? b = _
    rw [k b (Nat.ne_of_lt (Nat.lt_of_lt_of_le (Heap.lt_size e) I.ok.above))]
    exact I.base.keep b o e n hb hx
  · obtain ⟨sl, q⟩ := I.base.slot b o e n hb hx
    exact ⟨sl, (k b (Nat.ne_of_lt (Nat.lt_of_lt_of_le (Heap.lt_size e) I.ok.above))).trans q⟩
  · obtain ⟨o1, q⟩ := I.base.there b o e hx
    exact ⟨o1, (k b (Nat.ne_of_lt (Nat.lt_of_lt_of_le (Heap.lt_size e) I.ok.above))).trans q⟩
  · rw [List.getElem?_replicate] at e2
    split at e2 <;> cases e2
  · obtain ⟨v, o, ho, hd⟩ := I.cell x c e
    exact ⟨v, o, (k c (I.cne x c e)).trans ho, hd⟩
  · obtain ⟨e, n, ne, nf, d⟩ := I.pin p hp
    exact ⟨(k p.1 ne).trans e, n, ne, nf, d⟩
  · show h'.get? b = _
    rw [k b fun z => by rw [z, I.free] at q; cases q]
    exact e
end
theorem Inv.rec_ne {X : Cx} {pins : List (Addr × Obj)} {σ : St} {H : Hp} {s : Shared} {b : Addr} {o : Obj} {vs : Array Value} (I : Inv X pins σ H s) (e : s.heap.get? b = some o) (d : o.data = .fields vs) :
    b ≠ X.env.locals ∧ (∀ x c, X.env.cells.lookup x = some c → c ≠ b) ∧ b ∉ X.fs := by
  refine ⟨fun z => ?_, fun x c q z => ?_, fun z => ?_⟩
  · obtain ⟨m, ⟨o2, es, ep, ho, hd, _⟩, _⟩ := I.loc
    rw [← z, e] at ho; cases ho
    rw [d] at hd; cases hd
  · obtain ⟨v, o2, ho, hd⟩ := I.cell x c q
    rw [z, e] at ho; cases ho
    rw [d] at hd; cases hd
  · obtain ⟨_, o2, ho, nf⟩ := I.funs.mem z
    rw [e] at ho; cases ho
    exact nf vs d
/-! ### try: .. except (C1, C2) as n: .. -/
def Dsu (N : Nat) (D : Ends) : Ends := { nx := fun _ H => D.nx (List.replicate N none) H, rt := D.rt, bk := fun _ H => D.bk (List.replicate N none) H, ct := fun _ H => D.ct (List.replicate N none) H }
def Esu (K : PySem.W.Frag) (C1 C2 : Addr) (N i : Nat) (ts : Addr → Obj → TS) (D : Ends) : XK := fun Cv d H => ∃ C bm, Cv = .ref C ∧ clsIn K C bm = true ∧ ((Value.ref C :: bm).contains (.ref C1) || (Value.ref C :: bm).contains (.ref C2)) = true ∧
  ∀ ea oe tp, H ea = none → ExO C d oe → H tp = none → tp ≠ ea → ts ea oe (Dsu N D) ((List.replicate N none).set i (some (.ref ea))) (upd H tp (.tup [.ref C1, .ref C2]))
def tTry (K : PySem.W.Frag) (C1 C2 : Addr) (N i : Nat) (tb : XK → TS) (ts : Addr → Obj → TS) : TS := fun D σ H => tb (Esu K C1 C2 N i ts D) D σ H
end L2

end
section
set_option maxHeartbeats 4000000
namespace L2
open PySem PySem.Spec PyProof.Rows
/-! ### within an except suite: a new exception gets the handled one as its context -/
theorem entry_unchain : entryFor table "proto.unchain" = some Builtin.«proto.unchain» := entryFor_of_tree (by kernel_rfl)
structure Hot (A : Around) (h : Heap) : Prop where
  ex : ∃ x ox vx, A.handled = some (.ref x) ∧ h.get? x = some ox ∧ ox.data = .fields vx ∧ vx[2]? = some .none
theorem Hot.keep {A : Around} {h h' : Heap} (z : Hot A h) (k : ∀ b o, h.get? b = some o → A.handled = some (.ref b) → h'.get? b = some o) : Hot A h' := by
  obtain ⟨x, ox, vx, a, b, c⟩ := z.ex
  exact ⟨x, ox, vx, a, k x ox b a, c⟩
theorem Hot.apart {A : Around} {h : Heap} (z : Hot A h) {b : Addr} {o : Obj} (e : h.get? b = some o) (d : ∀ vs : Array Value, o.data = .fields vs → vs[2]? ≠ some .none) : A.handled ≠ some (.ref b) := fun q => by
  obtain ⟨x, ox, vx, a, b', c, c2⟩ := z.ex
  rw [q] at a
  cases a
  rw [e] at b'
  cases b'
  exact d vx c c2
section
variable {prog : Program} {w : World} {A : Around} {E : Value → Shared → Prop} {s : Shared}
theorem raise_hot {α : Type} {a : Addr} {o : Obj} {fs : Array Value} {Q : α → Shared → Prop} (hh : Hot A s.heap) (hne : A.handled ≠ some (.ref a)) (ho : s.heap.get? a = some o) (hd : o.data = .fields fs) (h2 : 2 < fs.size)
    (k : ∀ h' o', h'.get? a = some o' → o'.cls = o.cls → (∀ b, b ≠ a → h'.get? b = s.heap.get? b) → E (.ref a) { s with heap := h' }) : wpAny (model prog w) A (raiseNew (.ref a) : Sem α) Q E s := by
  obtain ⟨x, ox, vx, hA, gx, dx, cx⟩ := hh.ex
  have nxa : x ≠ a := fun z => hne (by rw [hA, z])
  unfold raiseNew
  refine wpAny_bind (wpAny_handled ?_)
  rw [hA]
  dsimp only
  have hb : ((Value.ref x != Value.ref a) = true) := by
    rw [bne_iff_ne]
    intro z
    cases z
    exact nxa rfl
  rw [if_pos hb]
  refine wpAny_bind (wpAny_holding (wpAny_runValue (codeAny_builtin entry_unchain ?_)))
  unfold Builtin.«proto.unchain»
  dsimp only
  refine wpAny_bind (wpAny_field gx dx cx ?_)
  rw [if_pos (show (Value.none == Value.none) = true from by decide)]
  refine wpAny_pure ?_
  refine wpAny_bind ?_
  unfold updateField
  refine wpAny_bind (wpAny_load ho ?_)
  rw [hd]
  dsimp only
  rw [if_pos h2]
  refine wpAny_update ho ?_
  refine wpAny_throw (k _ _ (Heap.get?_update_self _ ho (Obj.isFreed_of_fields (Obj.data_mapFields hd _))) (Obj.cls_mapFields _ _) fun b hb => Heap.get?_update_other _ _ (Ne.symm hb))
theorem stop_hot {α : Type} {Q : α → Shared → Prop} (hh : Hot A s.heap)
    (k : ∀ h' e, (∀ b o, s.heap.get? b = some o → h'.get? b = some o) → (∃ o, h'.get? e = some o ∧ o.cls = .type "StopIteration") → E (.ref e) { s with heap := h' }) :
    wpAny (model prog w) A (newExc (.type "StopIteration") [] >>= fun e => (raiseNew e : Sem α)) Q E s := by
  refine wpAny_bind ?_
  simp only [newExc, newTuple]
  refine wpAny_bind (wpAny_newObj_type ?_ (by size_fits))
  refine wpAny_bind (m := firstArgMember _ _) (wpAny_of_eq (a := Value.none) (by first | rfl | (simp only [firstArgMember]; rfl)) (wpAny_newObj_type ?_ (by size_fits)))
  have kp : ∀ b o, s.heap.get? b = some o → ∀ u v : Obj, ((s.heap.push u).push v).get? b = some o := fun b o e u v => Heap.get?_push_of_some _ (Heap.get?_push_of_some _ e)
  have zz : (s.heap.push { cls := Value.type "tuple", data := Data.seq #[] }).get? (s.heap.push { cls := Value.type "tuple", data := Data.seq #[] }).objs.size = none := Heap.get?_none_of_le (Nat.le_refl _)
  refine raise_hot (hh.keep fun b o e _ => kp b o e _ _) (fun q => ?_) (Heap.get?_push_size _ rfl) rfl (by rw [Array.size_append]; show 2 < 6 + _; omega) fun h' o' e1 e2 e3 => k h' _ (fun b o e => ?_) ⟨o', e1, e2⟩
  · obtain ⟨x, ox, vx, hA, gx, _⟩ := hh.ex
    rw [hA] at q
    cases q
    have := Heap.get?_push_of_some { cls := Value.type "tuple", data := Data.seq #[] } gx
    rw [zz] at this
    cases this
  · rw [e3 b fun z => ?_]
    · exact kp b o e _ _
    · have := Heap.get?_push_of_some { cls := Value.type "tuple", data := Data.seq #[] } e
      rw [z, zz] at this
      cases this
theorem it_data {vs : Array Value} {v : Value} {n : Int} {t : Tok} (e : (Data.fields #[v, .int n t]) = .fields vs) : vs[2]? ≠ some .none := by
  cases e
  simp
theorem nextOf_hot {it l : Addr} {i : Nat} {items : Array Value} {Q : Value → Shared → Prop} (hh : Hot A s.heap) (hit : s.heap.IsListIter it l i) (hl : s.heap.IsList l items) (hx : items[i]? = none)
    (k : ∀ h' e, Heap.ExtBut it s.heap h' → (∃ o, h'.get? e = some o ∧ o.cls = .type "StopIteration") → E (.ref e) { s with heap := h' }) : wpAny (model prog w) A (Builtin.SmallTypes.nextOf (.ref it)) Q E s := by
  obtain ⟨oi, gi, ci, di⟩ := id hit
  obtain ⟨ol, gl, _, nl, dl⟩ := hl
  unfold Builtin.SmallTypes.nextOf
  refine wpAny_bind (wpAny_callSpecial?_slot (name := Str.ofString "__next__") hit.typeIs slot_listiter_next (wpAny_call_entry slot_listiter_next hit.typeIs entry_listiter_next ?_ (args_listiter_next _)))
  show wpAny _ _ (field (.ref it) 0 >>= _) _ _ s
  refine wpAny_bind (wpAny_field gi di (x := .ref l) rfl ?_)
  rw [if_neg (show ¬ ((Value.ref l == Value.none) = true) from Bool.false_ne_true)]
  refine wpAny_bind (wpAny_field gi di (x := .int i 0) rfl ?_)
  refine wpAny_bind (wpAny_seqItems gl dl ?_)
  simp only [Int.toNat_natCast, hx]
  refine wpAny_bind (wpAny_rule (wpAny_bind (wpAny_setField gi di (by simp) ?_)))
  have sb := Heap.SameBut.update s.heap it (Obj.mapFields (·.setIfInBounds 0 Value.none))
  have nit : A.handled ≠ some (.ref it) := hh.apart gi fun vs e => it_data (by rw [← di]; exact e)
  refine stop_hot (A := A.in1) ⟨(hh.keep fun b o e q => (sb.2 b fun z => nit (by rw [q, z])).trans e).ex⟩ fun h' e k1 k2 => k h' e (fun b o hb e => k1 b o ((sb.2 b hb).trans e)) k2
theorem zip_hot {z TI TO i1 i2 l1 l2 : Addr} {k1 k2 : Nat} {xs ys : Array Value} {a b : Value} {Q : Fin → Shared → Prop} (hh : Hot A s.heap) (D : ZipApart z TI TO i1 i2 l1 l2)
    (hz : IsZip s.heap z TI TO .none) (hTI : IsPair s.heap TI (.ref i1) (.ref i2)) (hTO : IsPair s.heap TO a b)
    (h1 : s.heap.IsListIter i1 l1 k1) (h2 : s.heap.IsListIter i2 l2 k2) (hl1 : s.heap.IsList l1 xs) (hl2 : s.heap.IsList l2 ys) (hend : xs[k1]? = none ∨ ys[k2]? = none)
    (hE : ∀ h' e, (∀ c o, c ≠ z → c ≠ TO → c ≠ i1 → c ≠ i2 → s.heap.get? c = some o → h'.get? c = some o) → (∃ o, h'.get? e = some o ∧ o.cls = .type "StopIteration") → E (.ref e) { s with heap := h' }) :
    wpAny (model prog w) A (Builtin.«zip.__next__» ⟨[.ref z], []⟩) Q E s := by
  have nz : A.handled ≠ some (.ref z) := hh.apart hz fun vs e => by cases e; simp
  have nTO : A.handled ≠ some (.ref TO) := hh.apart hTO fun vs e => by cases e
  have ni1 : A.handled ≠ some (.ref i1) := by
    obtain ⟨oi, gi, ci, di⟩ := id h1
    exact hh.apart gi fun vs e => it_data (by rw [← di]; exact e)
  show wpAny _ A (field (.ref z) 2 >>= _) _ _ s
  refine wpAny_bind (wpAny_field hz rfl (x := .bool false) rfl ?_)
  show wpAny _ A (field (.ref z) 3 >>= _) _ _ s
  refine wpAny_bind (wpAny_field hz rfl (x := .ref TI) rfl ?_)
  refine wpAny_bind (wpAny_seqItems hTI rfl ?_)
  show wpAny _ _ (Builtin.SmallTypes.ownedTupleIsFree (.ref z) >>= _) _ _ _
  refine wpAny_bind ?_
  unfold Builtin.SmallTypes.ownedTupleIsFree
  refine wpAny_bind (wpAny_field hz rfl (x := .none) rfl (wpAny_pure ?_))
  simp only [if_true]
  refine wpAny_bind (wpAny_rule (wpAny_bind (wpAny_field hz rfl (x := .ref TO) rfl ?_)))
  refine wpAny_bind (wpAny_setField_rec hz (by simp) fun g1 hz1 sb1 => ?_)
  replace hz1 : IsZip g1 z TI TO .ellipsis := hz1
  refine wpAny_bind ?_
  simp only [List.zipIdx_cons, List.zipIdx_nil, List.forIn_cons, List.forIn_nil]
  refine wpAny_bind (wpAny_bind (wpAny_onRaise ?_))
  show wpAny _ _ (Builtin.SmallTypes.nextOf (.ref i1) >>= _) _ _ _
  have hh1 : Hot A g1 := hh.keep fun c o e q => sb1.extBut _ _ (fun w => nz (by rw [q, w])) e
  cases hx : xs[k1]? with
  | none =>
    refine wpAny_bind (nextOf_hot hh1 (h1.extBut sb1.extBut D.i1z) (hl1.extBut sb1.extBut D.l1z) hx fun g2 e sb2 he => ?_)
    obtain ⟨oe, goe, ce⟩ := he
    have hz2 : IsZip g2 z TI TO .ellipsis := sb2 _ _ D.i1z.symm hz1
    have nez : e ≠ z := fun x => by subst x; rw [hz2] at goe; cases goe; simp at ce
    refine wpAny_setField_rec hz2 (by simp) fun g3 _ sb3 => hE g3 e (fun c o c1 _ c3 _ x => sb3.extBut _ _ c1 (sb2 _ _ c3 (sb1.extBut _ _ c1 x))) ⟨oe, sb3.extBut _ _ nez goe, ce⟩
  | some x =>
    have hy : ys[k2]? = none := by
      rcases hend with q | q
      · rw [hx] at q; cases q
      · exact q
    refine wpAny_bind (wpAny_nextOf_list_item (h1.extBut sb1.extBut D.i1z) (hl1.extBut sb1.extBut D.l1z) hx fun g2 h12 sb2 => wpAny_pure ?_)
    have hTO2 : IsPair g2 TO a b := sb2.extBut _ _ D.TOi1 (sb1.extBut _ _ D.TOz hTO)
    refine wpAny_bind (wpAny_seqItems hTO2 rfl ?_)
    refine wpAny_bind (wpAny_updateSeq_pair hTO2 fun g3 hTO3 sb3 => ?_)
    refine wpAny_bind (wpAny_letGo (wpAny_pure ?_))
    refine wpAny_bind (wpAny_bind (wpAny_onRaise ?_))
    show wpAny _ _ (Builtin.SmallTypes.nextOf (.ref i2) >>= _) _ _ _
    have hh3 : Hot A g3 := hh1.keep fun c o e q => sb3.extBut _ _ (fun w => nTO (by rw [q, w])) (sb2.extBut _ _ (fun w => ni1 (by rw [q, w])) e)
    refine wpAny_bind (nextOf_hot hh3 (((h2.extBut sb1.extBut D.i2z).extBut sb2.extBut D.i12.symm).extBut sb3.extBut D.TOi2.symm) (((hl2.extBut sb1.extBut D.l2z).extBut sb2.extBut D.l2i1).extBut sb3.extBut D.l2TO) hy fun g4 e sb4 he => ?_)
    obtain ⟨oe, goe, ce⟩ := he
    have hz4 : IsZip g4 z TI TO .ellipsis := sb4 _ _ D.i2z.symm (sb3.extBut _ _ D.TOz.symm (sb2.extBut _ _ D.i1z.symm hz1))
    have nez : e ≠ z := fun x => by subst x; rw [hz4] at goe; cases goe; simp at ce
    refine wpAny_setField_rec hz4 (by simp) fun g5 _ sb5 => hE g5 e (fun c o c1 c2 c3 c4 x => sb5.extBut _ _ c1 (sb4 _ _ c4 (sb3.extBut _ _ c2 (sb2.extBut _ _ c3 (sb1.extBut _ _ c1 x))))) ⟨oe, sb5.extBut _ _ nez goe, ce⟩
theorem zip_end_hot {z TI TO i1 i2 l1 l2 : Addr} {k1 k2 : Nat} {xs ys : Array Value} {a b : Value} {Q : Option Value → Shared → Prop} (hh : Hot A s.heap) (D : ZipApart z TI TO i1 i2 l1 l2)
    (hz : IsZip s.heap z TI TO .none) (hTI : IsPair s.heap TI (.ref i1) (.ref i2)) (hTO : IsPair s.heap TO a b)
    (h1 : s.heap.IsListIter i1 l1 k1) (h2 : s.heap.IsListIter i2 l2 k2) (hl1 : s.heap.IsList l1 xs) (hl2 : s.heap.IsList l2 ys) (hend : xs[k1]? = none ∨ ys[k2]? = none)
    (hQ : ∀ h', (∀ c o, c ≠ z → c ≠ TO → c ≠ i1 → c ≠ i2 → s.heap.get? c = some o → h'.get? c = some o) → Q none { s with heap := h' }) : wpAny (model prog w) A (pyNext (.ref z)) Q E s := by
  have hT : s.TypeIs (.ref z) "zip" := ⟨_, hz, rfl⟩
  unfold pyNext
  refine wpAny_bind (wpAny_attempt (wpAny_callSpecial?_slot (name := Str.ofString "__next__") hT F.slot_zip_next (wpAny_call_entry F.slot_zip_next hT F.entry_zip_next (zip_hot (A := A.in1) ⟨hh.ex⟩ D hz hTI hTO h1 h2 hl1 hl2 hend fun h' e hk he => ?_) (F.args_zip_next_1 _))))
  obtain ⟨oe, goe, ce⟩ := he
  refine wpAny_bind (wpAny_isInstance (T := "StopIteration") (b := true) ⟨oe, goe, ce⟩ isSubtype_stop (wpAny_pure (hQ _ hk)))
theorem tup_end_hot {it t : Addr} {i : Nat} {items : Array Value} {Q : Option Value → Shared → Prop} (hh : Hot A s.heap) (hit : IsTupIter s.heap it t i) (ht : IsTup s.heap t items) (hx : items[i]? = none)
    (hQ : ∀ h', Heap.ExtBut it s.heap h' → Q none { s with heap := h' }) : wpAny (model prog w) A (pyNext (.ref it)) Q E s := by
  obtain ⟨oi, gi, ci, di⟩ := id hit
  obtain ⟨ol, gl, _, nl, dl⟩ := ht
  unfold pyNext
  refine wpAny_bind (wpAny_attempt (wpAny_callSpecial?_slot (name := Str.ofString "__next__") hit.typeIs slot_tupleiter_next (wpAny_call_entry slot_tupleiter_next hit.typeIs entry_tupleiter_next ?_ (args_tupleiter_next _))))
  show wpAny _ _ (field (.ref it) 0 >>= _) _ _ s
  refine wpAny_bind (wpAny_field gi di (x := .ref t) rfl ?_)
  rw [if_neg (show ¬ ((Value.ref t == Value.none) = true) from Bool.false_ne_true)]
  refine wpAny_bind (wpAny_field gi di (x := .int i 0) rfl ?_)
  refine wpAny_bind (wpAny_seqItems gl dl ?_)
  simp only [Int.toNat_natCast, hx]
  refine wpAny_bind (wpAny_rule (wpAny_bind (wpAny_setField gi di (by simp) ?_)))
  have sb := Heap.SameBut.update s.heap it (Obj.mapFields (·.setIfInBounds 0 Value.none))
  have nit : A.handled ≠ some (.ref it) := hh.apart gi fun vs e => it_data (by rw [← di]; exact e)
  refine stop_hot (A := A.in1) ⟨(hh.keep fun b o e q => (sb.2 b fun z => nit (by rw [q, z])).trans e).ex⟩ fun h' e k1 k2 => ?_
  obtain ⟨oe, goe, ce⟩ := k2
  exact wpAny_bind (wpAny_isInstance (T := "StopIteration") (b := true) ⟨oe, goe, ce⟩ isSubtype_stop (wpAny_pure (hQ _ fun b o hb e => k1 b o ((sb.2 b hb).trans e))))
theorem unpack_hot {t : Addr} {items : Array Value} {Q : List Value → Shared → Prop} (hh : Hot A s.heap) (ht : IsTup s.heap t items)
    (hQ : ∀ h', Heap.ExtBut s.heap.objs.size s.heap h' → Q items.toList { s with heap := h' }) : wpAny (model prog w) A (unpackItems (.ref t) items.size none) Q E s := by
  have tlt : t ≠ s.heap.objs.size := by obtain ⟨o, ho, _⟩ := ht; exact Nat.ne_of_lt (Heap.lt_size ho)
  unfold unpackItems
  refine wpAny_bind ?_
  unfold notIterableAtAll
  refine wpAny_bind (wpAny_specialOf ht.typeIs slot_tuple_iter.lookup (wpAny_pure ?_))
  simp only [Bool.false_eq_true, if_false]
  refine wpAny_bind (wpAny_holding (iter_tuple ht ?_))
  refine wpAny_bind (wpAny_holding (draw_tuple tlt items.size 0 _ _ ⟨_, Heap.get?_push_size _ rfl, rfl, rfl⟩ (ht.push _) (by omega) fun g1 it1 sb1 => ?_))
  rw [show List.take items.size (List.drop 0 items.toList) = items.toList by rw [List.drop_zero]; exact List.take_of_length_le (by simp)]
  rw [if_neg (by simp)]
  have ht1 : IsTup g1 t items := (ht.push _).extBut sb1.extBut tlt
  have hh1 : Hot A g1 := hh.keep fun b o e _ => sb1.extBut b o (Nat.ne_of_lt (Heap.lt_size e)) (Heap.get?_push_of_some _ e)
  refine wpAny_bind (wpAny_holding (tup_end_hot hh1 it1 ht1 (by simp) fun g2 he2 => ?_))
  simp only [Option.isSome_none, Bool.false_eq_true, if_false]
  exact wpAny_pure (hQ g2 fun b o hb e => he2 b o hb (sb1.extBut b o hb (Heap.get?_push_of_some _ e)))
theorem assign_hot {env : Env} {elts : List Expr} {x1 : Nat} {pos : Pos} {t : Addr} {items : Array Value} {Q : Unit → Shared → Prop} (hh : Hot A s.heap) (ht : IsTup s.heap t items)
    (hn : (assignEach elts env).length = items.size) (hstar : (assignEach elts env).findIdx? (·.1) = none)
    (h : ∀ h', Heap.ExtBut s.heap.objs.size s.heap h' → wpAny (model prog w) A (assignInOrder ((assignEach elts env).map (·.2)) items.toList) Q E { s with heap := h' }) :
    wpAny (model prog w) A (assign (.Tuple elts x1 pos) env (.ref t)) Q E s := by
  rw [assign_Tuple]
  refine wpAny_bind (wpAny_standAt ?_)
  unfold unpack
  rw [hn, hstar]
  exact wpAny_bind (wpAny_holding (unpack_hot hh ht h))
end
end L2

end
section
set_option maxHeartbeats 4000000
namespace L2
open PySem PySem.Spec PyProof.Rows
/-! ### a def that runs within an except suite: the handled exception is an object of its entry -/
def Qu (X : Cx) : Prop := ∃ ea oe vs, X.A.handled = some (.ref ea) ∧ X.s_0.heap.get? ea = some oe ∧ X.H_0 ea = none ∧ ea ∉ X.fs ∧ ea ∉ X.ex ∧ oe.data = .fields vs ∧ vs[2]? = some .none
theorem Qu.hot {X : Cx} {pins : List (Addr × Obj)} {σ : St} {H : Hp} {s : Shared} (q : Qu X) (I : Inv X pins σ H s) : Hot X.A s.heap := by
  obtain ⟨ea, oe, vs, a, b, c, d, e, f⟩ := q
  exact ⟨ea, oe, vs, a, I.base.keep ea oe b c d e, f⟩
theorem Qu.blk {X : Cx} {pins : List (Addr × Obj)} {σ : St} {H : Hp} {s : Shared} {scope : Scope} {ce : Env} {fp : List Addr} (q : Qu X) (I : Inv X pins σ H s) (f : ∀ b ∈ fp, FpOk X pins H b) : Qu (X.blk s H scope ce fp) := by
  obtain ⟨ea, oe, vs, a, b, c, d, e, g⟩ := q
  have k := I.base.keep ea oe b c d e
  refine ⟨ea, oe, vs, a, k, I.base.free ea oe b c e, fun z => ?_, fun z => ?_, g⟩
  · obtain ⟨_, o2, ho, nf⟩ := I.stack.mem z
    rw [k] at ho; cases ho
    exact nf vs g.1
  · rcases (f ea z).2.2.2.1 with w | w
    · exact e w
    · exact absurd (Nat.lt_of_lt_of_le (Heap.lt_size b) w) (Nat.lt_irrefl _)

structure TurnQ (P : Program) (w : World) (K : PySem.W.Frag) (tg : Expr) (J : It) (fp : List Addr) (it : Addr) (tn : Nat → Heap → Prop) : Prop where
  mem : it ∈ fp
  obj : ∀ i h, tn i h → ∀ b ∈ fp, ∃ o, h.get? b = some o ∧ ∀ v, o.data ≠ .cell v
  keep : ∀ i h h', tn i h → (∀ b ∈ fp, ∀ o, h.get? b = some o → h'.get? b = some o) → tn i h'
  item : ∀ (X : Cx), X.prog = P → X.w = w → X.K = K → Qu X → ∀ (i : Nat) (pins : List (Addr × Obj)) (s : Shared) (σ : St) (H : Hp) (E : Value → Shared → Prop), Inv X pins σ H s → (∀ b ∈ fp, FpOk X pins H b) → tn i s.heap → J.go i H →
    wpAny (model P w) X.A (pyNext (.ref it)) (fun r s1 => ∃ u, r = some u ∧
      wpAny (model P w) X.A (letOwnedTupleGo tg (.ref it) u) (fun _ s2 => ∃ x H', Inv X pins σ H' s2 ∧ RelV x u ∧ J.yld i H x H' ∧ tn (i + 1) s2.heap ∧ ∀ b ∈ fp, H' b = none) E s1) E s
  done : ∀ (X : Cx), X.prog = P → X.w = w → X.K = K → Qu X → ∀ (i : Nat) (pins : List (Addr × Obj)) (s : Shared) (σ : St) (H : Hp) (E : Value → Shared → Prop), Inv X pins σ H s → (∀ b ∈ fp, FpOk X pins H b) → tn i s.heap → J.stop i H →
    wpAny (model P w) X.A (pyNext (.ref it)) (fun r s1 => r = none ∧ Inv X pins σ H s1) E s
  self : ∀ (A : Around) (i : Nat) (s : Shared) (Q : Value → Shared → Prop) (E : Value → Shared → Prop), tn i s.heap → Q (.ref it) s → wpAny (model P w) A (pyIter (.ref it)) Q E s
def PIEQ (X : Cx) (pins : List (Addr × Obj)) (σ : St) (tg : Expr) (R : It → Hp → Prop) (itv : Value) (s2 : Shared) : Prop :=
  ∃ (it : Addr) (fp : List Addr) (tn : Nat → Heap → Prop) (J : It) (H' : Hp), itv = .ref it ∧ Inv X pins σ H' s2 ∧ TurnQ X.prog X.w X.K tg J fp it tn ∧ tn 0 s2.heap ∧ (∀ b ∈ fp, FpOk X pins H' b) ∧ R J H'
def PIQ (X : Cx) (tg iter : Expr) (wi : TI) : Prop :=
  ∀ (pins : List (Addr × Obj)) (s : Shared) (σ : St) (H : Hp) (R : It → Hp → Prop), Inv X pins σ H s → wi σ H R →
    wpAny (model X.prog X.w) X.A (eval iter X.env) (fun v s1 => wpAny (model X.prog X.w) X.A (pyIter v) (PIEQ X pins σ tg R) X.xe s1) X.xe s

theorem turn_zipQ {P : Program} {w : World} {K : PySem.W.Frag} {elts : List Expr} {kk : Nat} {tpos : Pos} {a b z TI TO i1 i2 : Addr} (D : ZipApart z TI TO i1 i2 a b) :
    TurnQ P w K (.Tuple elts kk tpos) (Itz K a b) [z, TI, TO, i1, i2] z (fun i h => IsZip h z TI TO .none ∧ IsPair h TI (.ref i1) (.ref i2) ∧ (∃ x y, IsPair h TO x y) ∧ h.IsListIter i1 a i ∧ h.IsListIter i2 b i) where
  mem := by simp
  obj := fun i h st c hc => by
    obtain ⟨hz, hTI, ⟨x, y, hTO⟩, ⟨o1, e1, _, d1⟩, ⟨o2, e2, _, d2⟩⟩ := st
    have e' : c = z ∨ c = TI ∨ c = TO ∨ c = i1 ∨ c = i2 := by simpa using hc
    rcases e' with q | q | q | q | q
    · rw [q]; exact ⟨_, hz, fun v q => nomatch q⟩
    · rw [q]; exact ⟨_, hTI, fun v q => nomatch q⟩
    · rw [q]; exact ⟨_, hTO, fun v q => nomatch q⟩
    · rw [q]; exact ⟨o1, e1, fun v q => by rw [d1] at q; cases q⟩
    · rw [q]; exact ⟨o2, e2, fun v q => by rw [d2] at q; cases q⟩
  keep := fun i h h' st k => by
    obtain ⟨hz, hTI, ⟨x, y, hTO⟩, h1, h2⟩ := st
    exact ⟨k z (by simp) _ hz, k TI (by simp) _ hTI, ⟨x, y, k TO (by simp) _ hTO⟩, h1.at fun o q => k i1 (by simp) o q, h2.at fun o q => k i2 (by simp) o q⟩
  item := by
    intro X hP hw hK hc i pins s σ H E I hf st hg
    subst hP hw hK
    obtain ⟨hz, hTI, ⟨x0, y0, hTO⟩, h1, h2⟩ := st
    obtain ⟨xs, ys, x, y, hqx, hqy, hx, hy⟩ := hg
    obtain ⟨its, rv, p, _⟩ := I.list hqx
    obtain ⟨its2, rv2, p2, _⟩ := I.list hqy
    obtain ⟨u, hu, ru⟩ := rv.get hx
    obtain ⟨u2, hu2, ru2⟩ := rv2.get hy
    have hzl : z < s.heap.objs.size := Heap.lt_size hz
    refine wpAny_pyNext_zip_item D hz hTI hTO h1 h2 p.isList p2.isList (x := u) (y := u2) (by simpa using hu) (by simpa using hu2) fun h' z' TO' h1' h2' hT hsz hk => ?_
    refine ⟨_, rfl, wpAny_letOwnedTupleGo_zip (s := { s with heap := h' }) z' fun h'' z'' sb => ?_⟩
    have hT2 : h''.get? s.heap.objs.size = some { cls := .type "tuple", data := .seq #[u, u2] } := (sb.2 _ (Nat.ne_of_gt hzl)).trans hT
    have new : ObjOk X.prog X.w (upd H s.heap.objs.size (.tup [x, y])) h'' s.heap.objs.size (.tup [x, y]) :=
      ⟨by show 2 ≤ sizeLine; decide, [u, u2], .cons ru (.cons ru2 .nil), ⟨_, hT2, rfl, _, rfl⟩⟩
    have I1 : Inv X pins σ (upd H s.heap.objs.size (.tup [x, y])) { s with heap := h'' } :=
      I.turnedNew (t' := s.toks) (ch := [z, TI, TO, i1, i2]) (fun c o hb q => (sb.2 c (fun q' => hb (by simp [q']))).trans (hk c o (fun q' => hb (by simp [q'])) (fun q' => hb (by simp [q'])) (fun q' => hb (by simp [q'])) (fun q' => hb (by simp [q'])) q)) hf (Nat.le_refl _) new
    refine ⟨.ref s.heap.objs.size, _, I1, rfl, ⟨_, x, y, rfl, I.hok.fresh (Nat.le_refl _), rfl, fun l hl => by rw [I.list_inj hl hqx]; exact hx, fun l hl => by rw [I.list_inj hl hqy]; exact hy⟩, ⟨z'', ?_, ⟨u, u2, ?_⟩, ?_, ?_⟩, fun c hcm => ?_⟩
    · exact (sb.2 _ D.TIz).trans (hk _ _ D.TIz D.TITO D.TIi1 D.TIi2 hTI)
    · exact (sb.2 _ D.TOz).trans TO'
    · exact h1'.at fun o q => (sb.2 _ D.i1z).trans q
    · exact h2'.at fun o q => (sb.2 _ D.i2z).trans q
    · have hlt : c < s.heap.objs.size := by
        have e' : c = z ∨ c = TI ∨ c = TO ∨ c = i1 ∨ c = i2 := by simpa using hcm
        rcases e' with q | q | q | q | q
        · rw [q]; exact hzl
        · rw [q]; exact Heap.lt_size hTI
        · rw [q]; exact Heap.lt_size hTO
        · rw [q]; obtain ⟨_, e1, _⟩ := h1; exact Heap.lt_size e1
        · rw [q]; obtain ⟨_, e2, _⟩ := h2; exact Heap.lt_size e2
      rw [upd_ne (Nat.ne_of_lt hlt)]
      exact (hf c hcm).1
  done := by
    intro X hP hw hK hc i pins s σ H E I hf st hg
    subst hP hw hK
    obtain ⟨hz, hTI, ⟨x0, y0, hTO⟩, h1, h2⟩ := st
    obtain ⟨xs, ys, hqx, hqy, hend⟩ := hg
    obtain ⟨its, rv, p, _⟩ := I.list hqx
    obtain ⟨its2, rv2, p2, _⟩ := I.list hqy
    have l1 := rv.length
    have l2 := rv2.length
    have he : its.toArray[i]? = none ∨ its2.toArray[i]? = none := by
      rcases hend with q | q
      · exact .inl (by simp; omega)
      · exact .inr (by simp; omega)
    exact zip_end_hot (hc.hot I) D hz hTI hTO h1 h2 p.isList p2.isList he fun h' hk => ⟨rfl, I.turnedL (t' := s.toks) (ch := [z, TI, TO, i1, i2]) (fun c o hb q =>
      hk c o (fun q' => hb (by simp [q'])) (fun q' => hb (by simp [q'])) (fun q' => hb (by simp [q'])) (fun q' => hb (by simp [q'])) q) hf⟩
  self := fun A i s Q E st h => wpAny_pyIter_zip st.1 h
theorem pi_zipQ {X : Cx} {e e2 : Expr} {ta : TA} {p pos tpos : Pos} {elts : List Expr} {kk : Nat} (hg : Gl X "zip") (hm : X.mg "zip" = none) (ha : PA X [e, e2] ta)
    (hs : starEach [e, e2] X.env = (false, eval e X.env) :: starEach [e2] X.env := by rfl) (hpl : (backTo pos (starEach [e2] X.env)).any (·.1) = false := by rfl) :
    PIQ X (.Tuple elts kk tpos) (.Call (.Name "zip" p) [e, e2] [] pos) (iZip X.K ta) := by
  intro pins s σ H R I h
  refine Call_ (ld_blt I hg hm boot_zip5 (PyProof.Rows.callWith_type1 (thn (ha pos pins s σ H _ I h) fun us s1 ⟨vs, H1, I1, r1, q1⟩ => ?_) hs hpl))
  obtain ⟨a, b, xs, ys, ex, hqx, hqy, q⟩ := q1
  subst ex
  cases r1 with
  | cons r rr =>
    cases rr with
    | cons r' rr =>
      cases rr
      cases r
      cases r'
      obtain ⟨its, rv, p1, _⟩ := I1.list hqx
      obtain ⟨its2, rv2, p2, _⟩ := I1.list hqy
      have la : a < s1.heap.objs.size := p1.lt
      have lb : b < s1.heap.objs.size := p2.lt
      refine call_zip_2 p1.isList p2.isList fun h' hz hTI hTO h1 h2 hsz hk => wpAny_pyIter_zip hz ?_
      have I2 : Inv X pins σ H1 { s1 with heap := h' } := I1.kept (t' := s1.toks) hk
      refine ⟨s1.heap.objs.size + 4, [s1.heap.objs.size + 4, s1.heap.objs.size + 2, s1.heap.objs.size + 3, s1.heap.objs.size, s1.heap.objs.size + 1], _, _, H1, rfl, I2, turn_zipQ (PySem.W.ktu_apart s1.heap.objs.size a b la lb), ⟨hz, hTI, ⟨_, _, hTO⟩, h1, h2⟩, fun c hcm => ?_, q⟩
      have e' : c = s1.heap.objs.size + 4 ∨ c = s1.heap.objs.size + 2 ∨ c = s1.heap.objs.size + 3 ∨ c = s1.heap.objs.size ∨ c = s1.heap.objs.size + 1 := by simpa using hcm
      have hle : s1.heap.objs.size ≤ c := by
        rcases e' with z | z | z | z | z
        · rw [z]; exact Nat.le_add_right _ _
        · rw [z]; exact Nat.le_add_right _ _
        · rw [z]; exact Nat.le_add_right _ _
        · rw [z]; exact Nat.le_refl _
        · rw [z]; exact Nat.le_add_right _ _
      exact I1.fpOk hle (I1.hok.fresh hle)
theorem lc_coreQ {X : Cx} {pins : List (Addr × Obj)} {s : Shared} {σ : St} {H : Hp} {Q : VK} {elt tg iter : Expr} {ifs : List Expr} {scope : Scope} {own : List (Str × Nat)} {pos pos' : Pos} {wi : TI} {g : TG} {tt : TT} {te : TE} {use : Option (Value → Sem Unit)} {Qf : Value → Shared → Prop}
    (hc : Qu X) (hN : X.N.Nodup) (I : Inv X pins σ H s) (hi : PIQ X tg iter wi) (ok : BlkOk X.N X.env.scope scope own)
    (hg : ∀ (s : Shared) (H : Hp) (C : Addr) (cl : List (Str × Addr)) (fp : List Addr), Qu (X.blk s H scope (compEnvC scope cl C X.env) fp) → PG (X.blk s H scope (compEnvC scope cl C X.env) fp) tg g) (ht : ∀ (s : Shared) (H : Hp) (C : Addr) (cl : List (Str × Addr)) (fp : List Addr), PTs (X.blk s H scope (compEnvC scope cl C X.env) fp) ifs tt)
    (he : ∀ (s : Shared) (H : Hp) (C : Addr) (cl : List (Str × Addr)) (fp : List Addr), PE (X.blk s H scope (compEnvC scope cl C X.env) fp) elt te) (hs : ∀ x, foldedSetIterable iter X.env x = pure x)
    (h : tLc wi g tt te (own.map (·.2)) σ H Q)
    (hRR : ∀ D C s' m H', Inv X pins σ H' s' → Q (.ref D) H' → s'.heap.Ns C m → FpOk X pins H' C → compPost (model X.prog X.w) X.A X.xe use Qf (.ref D) C (.ok .next) s') :
    wpAny (model X.prog X.w) X.A (comprehension (.ListComp elt [⟨tg, iter, ifs, 0⟩] scope pos) scope X.env pos' (newList []) false (eval iter X.env) use) Qf X.xe s := by
  have hfree : ∀ y ∈ scope.names, y.2 = .free → ∃ c, X.env.cells.lookup y.1 = some c := fun y hy e => by
    rcases ok.free y hy e with k | k
    · exact I.ok.has _ (.inl k)
    · exact I.ok.has _ (.inr k)
  refine wpAny_comprehension_free (use := use) rfl hs (closure_ok hfree) ok.kind (fun y hy e => by rw [ok.uniq y hy, e])
    (thn (hi pins s σ H _ I h) fun xv s1 hx => thn hx fun itv s2 h2 => ?_)
  obtain ⟨it, fp, tn, J, H2, e, I2, T, st2, f2, q⟩ := h2
  subst e
  refine wpAny_newObj_type (newEnv_comp ?_) (by show 0 ≤ sizeLine; decide)
  generalize hD : s2.heap.objs.size = D
  have hDn : H2 D = none := I2.hok.fresh (Nat.le_of_eq hD)
  obtain ⟨W, ⟨m0, w0⟩, turn⟩ := q D hDn
  -- the new list
  generalize hs3 : ({ s2 with heap := s2.heap.push { cls := .type "list", data := .seq ([] : List Value).toArray } } : Shared) = s3
  have I3 : Inv X pins σ (upd H2 D (.lst [])) s3 := by
    rw [← hs3]
    refine I2.laid (t' := s2.toks) (fun b o e => Heap.get?_push_of_some _ e) (Nat.le_of_eq hD) ⟨Nat.zero_le _, [], 0, .nil, ?_⟩
    rw [← hD]
    exact Heap.get?_push_size _ rfl
  have h3 : s3.heap = s2.heap.push { cls := .type "list", data := .seq ([] : List Value).toArray } := by rw [← hs3]
  have sz : ∀ b ∈ fp, b < s2.heap.objs.size := fun b hb => by
    obtain ⟨o, e, _⟩ := T.obj _ _ st2 b hb
    exact Heap.lt_size e
  have f3 : ∀ b ∈ fp, FpOk X pins (upd H2 D (.lst [])) b ∧ b < s3.heap.objs.size := fun b hb => by
    have hlt := sz b hb
    refine ⟨⟨?_, (f2 b hb).2⟩, by rw [h3, Heap.size_push]; exact Nat.lt_succ_of_lt hlt⟩
    rw [upd_ne (by rw [← hD]; exact Nat.ne_of_lt hlt)]
    exact (f2 b hb).1
  have st3 : tn 0 s3.heap := T.keep _ _ _ st2 fun b _ o e => by rw [h3]; exact Heap.get?_push_of_some _ e
  have I4 := block_start I3 ok hN f3
  have pg := hg s3 (upd H2 D (.lst [])) s3.heap.objs.size (cellsFrom (s3.heap.objs.size + 1) scope.names (cloFrom X.env.cells scope.names [])) fp (hc.blk I3 fun b hb => (f3 b hb).1)
  have pt := ht s3 (upd H2 D (.lst [])) s3.heap.objs.size (cellsFrom (s3.heap.objs.size + 1) scope.names (cloFrom X.env.cells scope.names [])) fp
  have pe := he s3 (upd H2 D (.lst [])) s3.heap.objs.size (cellsFrom (s3.heap.objs.size + 1) scope.names (cloFrom X.env.cells scope.names [])) fp
  show codeAny _ _ (.compStart (.ListComp elt [⟨tg, iter, ifs, 0⟩] scope pos) 0 (.ref it) (.ref D) (compEnvC scope (cellsFrom (s3.heap.objs.size + 1) scope.names (cloFrom X.env.cells scope.names [])) s3.heap.objs.size X.env)) (compPost (model X.prog X.w) X.A X.xe use Qf (.ref D) s3.heap.objs.size) { s3 with heap := pushCells (s3.heap.push { cls := .type "dict", data := .dict #[] }) scope.names }
  have nfp : ∀ b ∈ fp, (upd H2 D (.lst [])) b = none := fun b hb => (f3 b hb).1.1
  generalize hce : compEnvC scope (cellsFrom (s3.heap.objs.size + 1) scope.names (cloFrom X.env.cells scope.names [])) s3.heap.objs.size X.env = ce at I4 pg pt pe ⊢
  have cL : ce.locals = s3.heap.objs.size := by subst hce; rfl
  generalize hH3 : upd H2 D (.lst []) = H3 at I3 I4 pg pt pe w0 nfp f3
  generalize hs4 : ({ s3 with heap := pushCells (s3.heap.push { cls := .type "dict", data := .dict #[] }) scope.names } : Shared) = s4 at I4 ⊢
  have st4 : tn 0 s4.heap := T.keep _ _ _ st3 fun b _ o e => by rw [← hs4]; exact pushCells_keeps _ _ _ _ (Heap.get?_push_of_some _ e)
  have stat : ∀ {σ' : St} {H' : Hp} {s' : Shared}, Inv (X.blk s3 H3 scope ce fp) [] σ' H' s' → (∀ b ∈ fp, H' b = none) → ∀ b ∈ fp, FpOk (X.blk s3 H3 scope ce fp) [] H' b := fun {σ' H' s'} I' hn b hb =>
    ⟨hn b hb, (I'.ok.exf b hb).1, I'.ok.exfs b hb, .inl hb, fun x c e => (I'.ok.exf b hb).2 x c e, fun p hp => absurd (show p ∈ ([] : List (Addr × Obj)) ++ [] from hp) (by simp)⟩
  have loop : codeAny (model X.prog X.w) X.A (.compLoop (.ListComp elt [⟨tg, iter, ifs, 0⟩] scope pos) 0 (.ref it) (.ref D) ce) (compPost (model X.prog X.w) X.A X.xe use Qf (.ref D) s3.heap.objs.size) s4 := by
    refine compLoop_any (fun n s' => ∃ i H', Inv (X.blk s3 H3 scope ce fp) [] (wipe σ (own.map (·.2))) H' s' ∧ tn i s'.heap ∧ (∀ b ∈ fp, H' b = none) ∧ W i n H') ?_ m0 ⟨0, H3, I4, st4, nfp, w0⟩
    rintro n s5 ⟨i, H5, I5, st5, n5, w5⟩
    rcases turn i n H5 w5 with ⟨stop, qq⟩ | ⟨go, Nx, hNx, step⟩
    · have td := T.done (X.blk s3 H3 scope ce fp) rfl rfl rfl (hc.blk I3 fun b hb => (f3 b hb).1) i [] s5 _ H5 (fun _ _ => False) I5 (stat I5 n5) st5 stop
      refine thnF td fun r s6 ⟨hr, I6⟩ => ?_
      subst hr
      -- back in the def's context
      have I7 : Inv X pins σ H5 s6 := I3.call' (ch := fp) I6.os I6.base I6.hok I6.bare fun b hb => ⟨(f3 b hb).1.2.2.2.1, (f3 b hb).1.2.1, (f3 b hb).1.2.2.2.2.1, (f3 b hb).1.2.2.2.2.2⟩
      have nC : H5 s3.heap.objs.size = none := by
        have z : H5 ce.locals = none := I6.free
        rw [cL] at z
        exact z
      obtain ⟨m, hn, _⟩ := I6.loc
      have hn : s6.heap.Ns ce.locals m := hn
      rw [cL] at hn
      exact hRR D s3.heap.objs.size s6 m H5 I7 qq hn (I3.fpOk (Nat.le_refl _) nC)
    · have ti := T.item (X.blk s3 H3 scope ce fp) rfl rfl rfl (hc.blk I3 fun b hb => (f3 b hb).1) i [] s5 _ H5 (fun _ _ => False) I5 (stat I5 n5) st5 go
      refine thnF ti fun r s6 ⟨u, hr, h6⟩ => ?_
      subst hr
      refine thnF h6 fun _ s7 ⟨x, H7, I7, r7, y7, st7, n7⟩ => ?_
      have I7' := I7.pinned (stat I7 n7) (T.obj _ _ st7)
      refine thnF (pg _ s7 _ H7 x u _ I7' r7 (step x H7 y7)) fun _ s8 ⟨σ8, H8, I8, hw8, q8⟩ => ?_
      refine thnF (pt _ s8 σ8 H8 _ I8 q8) fun b s9 ⟨H9, I9, q9⟩ => ?_
      -- the turn's end
      have fin : ∀ {s' : Shared} {H' : Hp}, Inv (X.blk s3 H3 scope ce fp) ([] ++ pinsAt fp s7.heap) σ8 H' s' → Nx H' → ∃ m, m < n ∧ ∃ i H', Inv (X.blk s3 H3 scope ce fp) [] (wipe σ (own.map (·.2))) H' s' ∧ tn i s'.heap ∧ (∀ b ∈ fp, H' b = none) ∧ W i m H' := fun {s' H'} I' nx => by
        obtain ⟨m', hm, w'⟩ := hNx H' nx
        have pin' : ∀ b ∈ fp, ∀ o, s7.heap.get? b = some o → s'.heap.get? b = some o ∧ H' b = none := fun b hb o e =>
          let z := I'.pin (b, o) (List.mem_append_right _ (List.mem_append_right _ (mem_pinsAt hb e)))
          ⟨z.1, z.2.1⟩
        have hl : (wipe σ (own.map (·.2))).length = σ8.length := by rw [← hw8, wipe_length]
        refine ⟨m', hm, i + 1, H', (I'.unpinned (pins := [])).weak hl (fun j v e => ?_), T.keep _ _ _ st7 fun b hb o e => (pin' b hb o e).1, fun b hb => ?_, w'⟩
        · rw [← hw8] at e
          exact (wipe_some e).1
        · obtain ⟨o, e, _⟩ := T.obj _ _ st7 b hb
          exact (pin' b hb o e).2
      cases b with
      | false =>
        simp only [Bool.false_eq_true, if_false] at q9 ⊢
        exact fin I9 q9
      | true =>
        simp only [if_true] at q9 ⊢
        refine thnF (pe _ s9 σ8 H9 _ I9 q9) fun z s10 ⟨yv, H10, I10, r10, acc, hD10, hz10, nx⟩ => ?_
        exact app_ok (X := X.blk s3 H3 scope ce fp) I10 hD10 hz10 r10 fun s11 I11 => fin I11 nx
  exact codeAny_compStart_list loop (T.self X.A 0 _ _ _ st4 loop)
theorem pe_lcQ {X : Cx} {elt tg iter : Expr} {ifs : List Expr} {scope : Scope} {own : List (Str × Nat)} {pos : Pos} {wi : TI} {g : TG} {tt : TT} {te : TE} (hc : Qu X) (hN : X.N.Nodup) (hi : PIQ X tg iter wi) (ok : BlkOk X.N X.env.scope scope own)
    (hg : ∀ (s : Shared) (H : Hp) (C : Addr) (cl : List (Str × Addr)) (fp : List Addr), Qu (X.blk s H scope (compEnvC scope cl C X.env) fp) → PG (X.blk s H scope (compEnvC scope cl C X.env) fp) tg g) (ht : ∀ (s : Shared) (H : Hp) (C : Addr) (cl : List (Str × Addr)) (fp : List Addr), PTs (X.blk s H scope (compEnvC scope cl C X.env) fp) ifs tt)
    (he : ∀ (s : Shared) (H : Hp) (C : Addr) (cl : List (Str × Addr)) (fp : List Addr), PE (X.blk s H scope (compEnvC scope cl C X.env) fp) elt te) (hs : ∀ x, foldedSetIterable iter X.env x = pure x := by intro _; rfl) :
    PE X (.ListComp elt [⟨tg, iter, ifs, 0⟩] scope pos) (tLc wi g tt te (own.map (·.2))) := by
  intro pins s σ H Q I h
  rw [eval_ListComp]
  refine lc_coreQ hc hN I hi ok hg ht he hs h fun D C s' m H' I' q hn f => ⟨m, hn, fun h'' sb => ?_⟩
  obtain ⟨f0, f1, f2, f3, f4, f5⟩ := f
  exact ⟨.ref D, H', I'.turned (t' := s'.toks) (fun b o hb e => (sb.2 b hb).trans e) f0 f1 f3 f4 f5, rfl, q⟩
theorem pg_tupQ {X : Cx} {pos : Pos} {es : List Expr} {k : Nat} {t : TGs} {n : Nat} (hc : Qu X) (h : PGs X es t)
    (hn : (assignEach es X.env).length = n := by rfl) (hst : (assignEach es X.env).findIdx? (·.1) = none := by rfl) : PG X (.Tuple es k pos) (gTup X.K n t) := by
  intro pins s σ H v u Q I r hw
  obtain ⟨a, xs, e1, hq, hl, hw⟩ := hw
  subst e1
  cases r
  obtain ⟨its, rv, ht, hz⟩ := I.tuple hq
  refine assign_hot (hc.hot I) ht (by simp [hn, ← hl, rv.length]) hst fun h' hx => ?_
  have I1 : Inv X pins σ H { s with heap := h' } := I.kept (t' := s.toks) fun b o e => hx b o (Nat.ne_of_lt (Heap.lt_size e)) e
  exact h pins _ σ H xs _ Q I1 (by simpa using rv) hw
/-- the turns of a comprehension over zip of two lists that the block leaves as they are -/
theorem lc_zip {K : PySem.W.Frag} {a b : Addr} {xs ys : List V} {g : TG} {tt : TT} {te : TE} {vs : List Nat} {σ : St} {H1 : Hp} {D : Addr} {Qd : Hp → Prop} {n : Nat} (Pv : Nat → Hp → Prop) (h0 : Pv 0 (upd H1 D (.lst []))) (hnx : n ≤ xs.length) (hny : n ≤ ys.length) (hn : n = xs.length ∨ n = ys.length)
    (hl : ∀ i H, i ≤ n → Pv i H → SqL K H a xs ∧ SqL K H b ys)
    (hs : ∀ i x y T H, xs[i]? = some x → ys[i]? = some y → H T = none → Pv i H → g (.ref T) (wipe σ vs) (upd H T (.tup [x, y])) fun σ2 H2 => wipe σ2 vs = wipe σ vs ∧ tt σ2 H2 fun b H3 =>
      if b = true then te σ2 H3 fun y H4 => ∃ acc, H4 D = some (.lst acc) ∧ acc.length < sizeLine ∧ Pv (i + 1) (upd H4 D (.lst (acc ++ [y]))) else Pv (i + 1) H3) (hd : ∀ H, Pv n H → Qd H) :
    ∃ W : Nat → Nat → Hp → Prop, (∃ m, W 0 m (upd H1 D (.lst []))) ∧ ∀ i m H, W i m H →
      ((Itz K a b).stop i H ∧ Qd H) ∨ ((Itz K a b).go i H ∧ ∃ Nx : Hp → Prop, (∀ H', Nx H' → ∃ m', m' < m ∧ W (i + 1) m' H') ∧ ∀ x H', (Itz K a b).yld i H x H' → g x (wipe σ vs) H' fun σ2 H2 => wipe σ2 vs = wipe σ vs ∧ tt σ2 H2 fun b H3 =>
        if b = true then te σ2 H3 fun y H4 => ∃ acc, H4 D = some (.lst acc) ∧ acc.length < sizeLine ∧ Nx (upd H4 D (.lst (acc ++ [y]))) else Nx H3) := by
  refine ⟨fun i m H => m = n - i ∧ i ≤ n ∧ Pv i H, ⟨n, by simp, Nat.zero_le _, h0⟩, ?_⟩
  rintro i m H ⟨rfl, hi, p⟩
  obtain ⟨q1, q2⟩ := hl i H hi p
  by_cases hlt : i < n
  · have e1 : xs[i]? = some xs[i] := by simp
    have e2 : ys[i]? = some ys[i] := by simp
    refine .inr ⟨⟨xs, ys, xs[i], ys[i], q1, q2, e1, e2⟩, Pv (i + 1), fun H' p' => ⟨n - (i + 1), by omega, rfl, hlt, p'⟩, fun x H' y => ?_⟩
    obtain ⟨T, x1, y1, rfl, hT, rfl, f1, f2⟩ := y
    exact hs i x1 y1 T H (f1 xs q1) (f2 ys q2) hT p
  · have e : i = n := by omega
    subst e
    exact .inl ⟨⟨xs, ys, q1, q2, by omega⟩, hd H p⟩
end L2

end
section
set_option maxHeartbeats 4000000
namespace L2
open PySem PySem.Spec PyProof.Rows PySem.W
section
variable {prog : Program} {w : World} {A : Around} {E : Value → Shared → Prop} {s : Shared} {K : Frag} {x D : Addr} {ox : Obj} {od : Option Obj} {name : Str}
/-- an attribute of an exception's object, as its class finds it -/
theorem exc_call {g a : Value} {tk : Tok} {R : Result → Shared → Prop} {P : Value → Shared → Prop} (X : K.In s.heap) (I : PySem.W.InstAt s.heap x ox D od) (hf : findObj K D od name = some (.bind g a)) (hm : mroIn K D (.type "BaseException") = some true)
    (h : ∀ (A : Around) (E : Value → Shared → Prop), wpAny (model prog w) A (call g [a, .ref x, .ref D]) P E s) (hR : ∀ v s', P v s' → R (.ok (.ret v)) s') : codeAny (model prog w) A (.call (.builtin "BaseException.__getattribute__") ⟨[.ref x, .str name tk], []⟩) R s := by
  obtain ⟨hh, gg, d, t, os⟩ := s
  have L0 := I.type (M := model prog w)
  have L1 := looks_find (M := model prog w) X I hf
  have L2 := looks_mroIn (M := model prog w) X hm
  refine codeAny_call_builtin (by decide +kernel) F.entry_bexc_ga ?_
  have hk : builtinKind "BaseException.__getattribute__" = some .slot := by decide +kernel
  have hsp : splitId "BaseException.__getattribute__" = some ("BaseException", "__getattribute__") := by decide +kernel
  have ha := F.args_bexc_ga (.ref x) (.str name tk)
  simp only [checkBuiltinCall, hk, hsp]
  refine wpAny_bind ?_
  unfold isInstance
  refine wpAny_bind (L0.at (L2.at ?_))
  have go : wpAny (model prog w) A.in1 (Builtin.«object.__getattribute__» ⟨[.ref x, .str name tk], []⟩) (fun fin s' => match fin with | .done f => R (.ok f) s' | .again c' => c'.quiet = true ∧ codeAny (model prog w) A c' R s') (fun e s' => R (.error e) s') ⟨hh, gg, d, t, os⟩ := by
    unfold Builtin.«object.__getattribute__»
    refine wpAny_bind (wpAny_pure (wpAny_bind (wpAny_pure (wpAny_bind (L0.at (wpAny_bind (L1.at ?_)))))))
    show wpAny _ _ (Builtin.ObjectAttr.bindTo g a (.ref x) (.ref D)) _ _ _
    unfold Builtin.ObjectAttr.bindTo
    dsimp only
    exact wpAny_bind (wpAny_holding (wpAny_mono (h _ _) (fun v s' q => wpAny_pure (hR v s' q)) fun _ _ z => z))
  simp only [if_true, Bool.not_true, Bool.false_eq_true, if_false]
  cases hsig : Manifest.signature? "BaseException.__getattribute__" with
  | none => exact wpAny_pure go
  | some sig =>
    simp only [argsOk, hsig] at ha
    have h2 : Bind.checkArgs "BaseException.__getattribute__" sig ⟨[.ref x, .str name tk], []⟩ = pure () := ha
    show wpAny _ A.in1 (Bind.checkArgs "BaseException.__getattribute__" sig ⟨[.ref x, .str name tk], []⟩) _ _ _
    rw [h2]
    exact wpAny_pure go
theorem exc_attr? {g a : Value} {Q : Option Value → Shared → Prop} {P : Value → Shared → Prop} (X : K.In s.heap) (I : PySem.W.InstAt s.heap x ox D od) (hga : findIn K (.ref D) "__getattribute__" = some (some (.builtin "BaseException.__getattribute__"))) (hgn : findIn K (.ref D) "__getattr__" = some none)
    (hf : findObj K D od name = some (.bind g a)) (hm : mroIn K D (.type "BaseException") = some true)
    (h : ∀ (A : Around) (E : Value → Shared → Prop), wpAny (model prog w) A (call g [a, .ref x, .ref D]) P E { s with toks := s.toks + 1 }) (hP : ∀ v s', P v s' → wpAny (model prog w) A (handedOut v) (fun v s2 => Q (some v) s2) (fun _ _ => False) s') :
    wpAny (model prog w) A (getAttr? (.ref x) name) Q E s := by
  obtain ⟨hh, gg, d, t, os⟩ := s
  have L0 := I.type (M := model prog w)
  have L1 := looks_findIn (M := model prog w) X hga
  have L2 := looks_findIn (M := model prog w) X hgn
  unfold getAttr? getAttrBy? getAttrBy
  refine wpAny_bind (wpAny_mkText (wpAny_bind (wpAny_attempt (wpAny_holding (wpAny_bind (L0.at (wpAny_bind (L1.at ?_))))))))
  show wpAny _ _ (getAttrByItsOwn (.ref x) _ (.ref D) (.builtin "BaseException.__getattribute__") false false) _ _ _
  unfold getAttrByItsOwn hookBefore callGetattribute
  have f3 := (PySem.F.attr_Exception).ga.bind (.ref x)
  rw [if_pos (show onTheHeap (Value.ref D) = true from rfl)]
  refine wpAny_bind (L2.at ?_)
  refine wpAny_bind (wpAny_attempt (wpAny_holding ?_))
  rw [if_neg (show ¬ ((false && onTheHeap (Value.builtin "BaseException.__getattribute__")) = true) by simp)]
  unfold boundAndCalled
  refine wpAny_bind (wpAny_of_eq f3 ?_)
  dsimp only
  refine wpAny_call (exc_call (s := ⟨hh, gg, d, t + 1, os⟩) (P := P) X I hf hm h fun v s' q => ?_)
  exact wpAny_mono (hP v s' q) (fun v s2 z => wpAny_pure z) fun _ _ z => z.elim
/-- isinstance of an exception's object: what its class is to be -/
structure ExcK (K : Frag) (D : Addr) : Prop where
  ga : findIn K (.ref D) "__getattribute__" = some (some (.builtin "BaseException.__getattribute__"))
  gn : findIn K (.ref D) "__getattr__" = some none
  ha : findIn K (.ref D) "__class__" = some (some (.builtin "object.__class__"))
  hn : specialIn K (.builtin "object.__class__") "__get__" = some (some (.builtin "getset_descriptor.__get__"))
  tk : takesIn K (.builtin "object.__class__") = some true
  mb : mroIn K D (.type "BaseException") = some true
  mo : mroIn K D (.type "object") = some true
  cd : ∃ cd, PySem.W.clsIn K D = some cd
theorem kitx_exc (Z : ExcK K D) : KitX K (.ref x) (.ref D) (fun h => ∃ od, PySem.W.InstAt h x ox D od) where
  ty := fun _ _ _ ⟨_, I⟩ => I.type
  it := fun _ _ X _ => by
    obtain ⟨cdD, hcD⟩ := Z.cd
    unfold PySem.W.clsIn at hcD
    split at hcD
    · rename_i c' d' cd' sl' ho
      intro A' Q' E' s' k q
      unfold isType loadHead
      exact wpAny_bind (wpAny_loadPart (k _ _ (X _ _ ho)) (wpAny_pure q))
    · cases hcD
  ne := fun h tp dd its n sl X htp => by
    obtain ⟨cdD, hcD⟩ := Z.cd
    refine Bool.eq_false_iff.mpr fun q => ?_
    have e : D = tp := Value.ref.inj (beq_iff_eq.mp q)
    subst e
    unfold PySem.W.clsIn at hcD
    split at hcD
    · rename_i c' d' cd' sl' ho
      have z := (X _ _ ho).symm.trans htp
      cases z
    · cases hcD
  ca := fun {prog w A E Q s} X J k => by
    obtain ⟨od, I⟩ := J
    obtain ⟨cd, hcd⟩ := Z.cd
    have hf : findObj K D od "__class__" = some (.bind (.builtin "getset_descriptor.__get__") (.builtin "object.__class__")) := by
      unfold findObj
      rw [hcd, Option.bind_some, Z.ha, Option.bind_some]
      simp [Z.hn, Z.tk]
    refine exc_attr? (P := fun v s' => v = .ref D ∧ s' = { s with toks := s.toks + 1 }) X I Z.ga Z.gn hf Z.mb (fun A E => wpAny_call (class_get (s := { s with toks := s.toks + 1 }) X I Z.mo ⟨rfl, rfl⟩)) fun v s' q => ?_
    obtain ⟨rfl, rfl⟩ := q
    exact handed_on rfl k
end
end L2

end
section
set_option maxHeartbeats 4000000
namespace L2
open PySem PySem.Spec PyProof.Rows
/-! ### defs that may raise -/
section
variable {P : Program} {w : World} {K : PySem.W.Frag} {mg : Str → Option Value} {base : Heap}
theorem Fun.okX {x qual : Str} {st : Stmt} {f : Addr} {fd : FuncData} {N ps : List Str} {k : Nat} {sp : Sp} (F : Fun K x qual st f fd) (S : FnScope N ps (defScope st)) (len : ∀ vs H Q E, sp vs H Q E → vs.length = ps.length)
    (hbody : ∀ (cdv : Value) (A : Around) (outer : List Env) (s : Shared) (H : Hp) (vs : List V) (Q : VK) (E : XK), Room k (A.deeper (envOfC qual (defScope st) s.heap.objs.size f cdv)) → XOk (cxOf (CX1 P w) P w K mg base N qual (defScope st) f cdv A outer s H E) E → sp vs H Q E →
      ∃ t, PSs (cxOf (CX1 P w) P w K mg base N qual (defScope st) f cdv A outer s H E) (defBody st) t ∧ t { nx := fun _ H' => Q .non H', rt := Q } (start N vs) H) : FnOk P w K mg base (CX1 P w) (k + 1) f fd ps sp := by
  obtain ⟨oc, od, kV, doc, pm, an, cdv, ct, osl, rfl, lk, hcd⟩ := F.ex
  exact fn_of lk hcd S len fun A outer s H vs Q E hr hsp => hbody cdv A outer s H vs Q E hr xok_def hsp
end
/-! ### defs that run within an except suite -/
structure RoomQ (k : Nat) (A : Around) : Prop where
  dp : A.depth + 3 * k + 5 < recursionLimit
  un : A.units + 16 * k + 200 < cLine
theorem Room.q {k : Nat} {A : Around} (r : Room k A) : RoomQ k A := ⟨r.dp, r.un⟩
theorem RoomQ.mono {j k : Nat} {A : Around} (r : RoomQ k A) (h : j ≤ k) : RoomQ j A := ⟨by have := r.dp; omega, by have := r.un; omega⟩
theorem RoomQ.deeper {k : Nat} {A : Around} (r : RoomQ (k + 1) A) (env : Env) : RoomQ k (A.deeper env) := ⟨by have := r.dp; show A.depth + 1 + 3 * k + 5 < _; omega, by have := r.un; show A.units + 3 + 16 * k + 200 < _; omega⟩
theorem RoomQ.mark {k : Nat} {A : Around} (r : RoomQ k A) (v : Option Value) : RoomQ k (A.mark v) := ⟨r.dp, r.un⟩
theorem RoomQ.depth {k : Nat} {A : Around} (r : RoomQ k A) : A.depth < recursionLimit := by have := r.dp; omega
theorem huq_of {A : Around} {k : Nat} (hr : RoomQ k A) : A.units + 64 < cLine := by have := hr.un; omega
def ExD (oe : Obj) : Prop := ∃ vs, oe.data = .fields vs ∧ vs[2]? = some .none
structure FnOkQ (P : Program) (w : World) (K : PySem.W.Frag) (mg : Str → Option Value) (base : Heap) (k : Nat) (f : Addr) (fd : FuncData) (ps : List Str) (sp : Addr → Obj → Sp) : Prop where
  len : ∀ ea oe vs H Q E, sp ea oe vs H Q E → vs.length = ps.length
  run : ∀ (A : Around) (outer : List Env) (s : Shared) (H : Hp) (args : Args) (us : List Value) (vs : List V) (Q : VK) (ea : Addr) (oe : Obj), RoomQ k A → A.handled = some (.ref ea) → s.heap.get? ea = some oe → H ea = none → ea ∉ frs outer → Env0 P w K mg base A outer s H → BindsTo s fd args (ps.zip us) → Vals vs us → sp ea oe vs H Q E0 →
    codeAny (model P w) A (.call (.ref f) args) (CR CX0 outer P w H s Q E0) s

def cxOfQ (CX : CXT) (P : Program) (w : World) (K : PySem.W.Frag) (mg : Str → Option Value) (base : Heap) (N : List Str) (qual : Str) (scope : Scope) (f : Addr) (cd : Value) (A : Around) (outer : List Env) (s : Shared) (H : Hp) (E : XK) : Cx where
  prog := P
  w := w
  K := K
  mg := mg
  base := base
  A := A.deeper (envOfC qual scope s.heap.objs.size f cd)
  N := N
  s_0 := s
  H_0 := H
  env := envOfC qual scope s.heap.objs.size f cd
  outer := outer
  stack := envOfC qual scope s.heap.objs.size f cd :: outer
  ex := []
  calm := false
  fn := fun _ => true
  pn := []
  xe := fun e s' => wpAny (model P w) (A.deeper (envOfC qual scope s.heap.objs.size f cd)) (leaving (envOfC qual scope s.heap.objs.size f cd) e) (fun _ s'' => CX outer H s E e s'') (fun e' s'' => CX outer H s E e' s'') s'

theorem inv_startQ {CX : CXT} {P : Program} {w : World} {K : PySem.W.Frag} {mg : Str → Option Value} {base : Heap} {N ps : List Str} {qual : Str} {scope : Scope} {f : Addr} {cd : Value} {A : Around} {outer : List Env} {s s1 : Shared} {H : Hp} {E : XK} {us : List Value} {vs : List V}
    (S : FnScope N ps scope) (e0 : Env0 P w K mg base A outer s H) (hl : vs.length = ps.length) (r : Vals vs us)
    (x : InCallC s s.heap.objs.size (bindL (envOfC qual scope s.heap.objs.size f cd).kindOf (ps.zip us) fun _ => none) (cellsFrom (s.heap.objs.size + 1) scope.names []) (bindC (envOfC qual scope s.heap.objs.size f cd).kindOf (ps.zip us) fun _ => none) s1) :
    Inv (cxOfQ CX P w K mg base N qual scope f cd A outer s H E) [] (start N vs) H s1 := by
  have hpl : ps.length ≤ N.length := by have := congrArg List.length S.pre; rw [List.length_take] at this; omega
  obtain ⟨h1, tk, rfl, hk⟩ := x.done
  have noA : ∀ b : Addr, b ∉ (cxOfQ CX P w K mg base N qual scope f cd A outer s H E).ex := fun b z => absurd (show b ∈ ([] : List Addr) from z) (by simp)
  refine ⟨⟨e0.mod, S.kind, rfl, rfl, Nat.le_refl _, fun y z c h1 h2 => ?_, fun y hy => ?_, fun y c _ h => ?_, fun z => (nomatch z), Around.frames_deeper e0.frames, .inr ⟨rfl, rfl⟩, fun b z => absurd z (noA b), e0.bs, e0.bsz, fun b _ _ => noA b, fun b z => absurd z (noA b), e0.funs, e0.frf⟩,
    rfl, e0.bare, Un.kept hk, ⟨_, x.toInCall.ns, fun i y v h1 h2 h3 => ?_⟩, fun y c h => ⟨_, x.cell y c h⟩, e0.hok.fresh (Nat.le_refl _), fun y c h => ?_, fun p hp => absurd (show p ∈ ([] : List (Addr × Obj)) from hp) (by simp), e0.hok.kept hk, ?_⟩
  · exact name_of_addr x.apart (PySem.mem_of_lookup h1) (PySem.mem_of_lookup h2)
  · have hy : scope.names.lookup y = some .cell ∨ scope.names.lookup y = some .free := hy
    rcases hy with hy | hy
    · exact cell_has hy
    · exact absurd rfl (S.nofree _ (PySem.mem_of_lookup hy))
  · exact Nat.le_of_lt (x.above y c (PySem.mem_of_lookup h))
  · have hi : i < vs.length := by
      unfold start at h2
      by_cases hi : i < vs.length
      · exact hi
      · rw [List.getElem?_append_right (by simpa using hi)] at h2
        rw [List.getElem?_replicate] at h2
        split at h2 <;> cases h2
    have ha : vs[i]? = some v := by
      unfold start at h2
      rw [List.getElem?_append_left (by simpa using hi), List.getElem?_map] at h2
      cases e : vs[i]? with
      | none => rw [e] at h2; cases h2
      | some a => rw [e] at h2; cases h2; rfl
    obtain ⟨u, hu, rv⟩ := r.get ha
    have hp : ps[i]? = some y := by
      rw [← S.pre, List.getElem?_take_of_lt (by omega)]; exact h1
    have ndP : ps.Nodup := by rw [← S.pre]; exact S.nd.sublist (List.take_sublist _ _)
    refine ⟨u, rv, ?_⟩
    rcases S.par y (List.mem_of_getElem? hp) with k | k
    · exact .inl ⟨k, bindL_get ndP hp hu k⟩
    · obtain ⟨c, e⟩ := cell_has (n := s.heap.objs.size + 1) k
      refine .inr ⟨.inl k, c, e, ?_⟩
      have q := x.cell y c e
      rw [bindC_get ndP hp hu (by show scope.names.lookup y ≠ _; rw [k]; decide)] at q
      exact q
  · exact e0.hok.fresh (Nat.le_of_lt (x.above y c (PySem.mem_of_lookup h)))
  · unfold start
    show _ = N.length
    rw [List.length_append, List.length_map, List.length_replicate]
    omega

theorem fn_ofQ {P : Program} {w : World} {K : PySem.W.Frag} {mg : Str → Option Value} {base : Heap} {k : Nat} {f : Addr} {name qual : Str} {params : Arguments} {body : List Stmt} {scope : Scope} {dV kV doc pm cdv ct oc : Value} {an od : Option Addr}
    {osl : Array (Option Value)} {N ps : List Str} {sp : Addr → Obj → Sp} (lk : K.lookup f = some ⟨oc, od, .func (PySem.W.fnOf name qual params body scope dV kV doc pm an cdv ct), osl⟩) (hcd : PySem.W.codeIn K cdv qual = true) (S : FnScope N ps scope)
    (len : ∀ ea oe vs H Q E, sp ea oe vs H Q E → vs.length = ps.length)
    (hbody : ∀ (A : Around) (outer : List Env) (s : Shared) (H : Hp) (vs : List V) (Q : VK) (ea : Addr) (oe : Obj), RoomQ k (A.deeper (envOfC qual scope s.heap.objs.size f cdv)) → A.handled = some (.ref ea) → s.heap.get? ea = some oe → H ea = none → ea ∉ frs outer → sp ea oe vs H Q E0 →
      ∃ t, PSs (cxOfQ CX0 P w K mg base N qual scope f cdv A outer s H E0).nox body t ∧ t { nx := fun _ H' => Q .non H', rt := Q } (start N vs) H) :
    FnOkQ P w K mg base (k + 1) f (PySem.W.fnOf name qual params body scope dV kV doc pm an cdv ct) ps sp := by
  refine ⟨len, fun A outer s H args us vs Q ea oe hr hA hx hH hfr e0 hb r hsp => ?_⟩
  have hl := len _ _ _ _ _ _ hsp
  have KX : K.In s.heap := e0.mod.kin.keeps fun b o e => (e0.bs b o e).1
  have lim : s.heap.NoLimit := e0.mod.nolimit.keeps fun b o e => (e0.bs b o e).1
  have hkind : ∀ y ∈ ps.zip us, scope.names.lookup y.1 = some .local ∨ (scope.names.lookup y.1 = some .cell ∧ ((cellsFrom (s.heap.objs.size + 1) scope.names []).lookup y.1).isSome = true) := fun ⟨n, v⟩ hy => by
    rcases S.par n (List.of_mem_zip hy).1 with q | q
    · exact .inl q
    · exact .inr ⟨q, PySem.W.cellsFrom_some _ _ _ (.inl q)⟩
  refine codeAny_call_function hr.depth (KX _ _ lk) rfl S.co S.gen rfl (PySem.W.codeRec_of KX hcd) (hb _ _ _ _ ?_)
  refine wpAny_newFunctionEnv_cells S.kind hkind fun env he s1 x => ?_
  subst he
  refine ⟨lim.keeps x.toInCall.keep, codeAny_func ?_⟩
  obtain ⟨t, ht, hq⟩ := hbody A outer s H vs Q ea oe (hr.deeper _) hA hx hH hfr hsp
  have I : Inv (cxOfQ CX0 P w K mg base N qual scope f cdv A outer s H E0) [] (start N vs) H s1 := inv_startQ S e0 hl r x
  refine wpAny_mono (ht.nox [] s1 (start N vs) H _ I hq) (fun fl s' hs => ?_) fun e s' hs => hs
  have fin : ∀ {σ' : St} {H' : Hp} {v : V} {u : Value}, Inv (cxOfQ CX0 P w K mg base N qual scope f cdv A outer s H E0) [] σ' H' s' → RelV v u → Q v H' → CE outer P w H s Q u s' :=
    fun {σ' H' v u} J rv q => ⟨v, H', J.os, J.bare, J.base, J.hok, rv, q⟩
  cases fl with
  | ret u =>
    obtain ⟨v, σ', H', J, rv, q⟩ := hs
    exact fin J rv q
  | next =>
    obtain ⟨σ', H', J, q⟩ := hs
    exact fin (v := V.non) (u := Value.none) J rfl q
  | brk =>
    obtain ⟨_, _, _, q⟩ := hs
    exact False.elim q
  | cont =>
    obtain ⟨_, _, _, q⟩ := hs
    exact False.elim q

theorem Fun.okQ {P : Program} {w : World} {K : PySem.W.Frag} {mg : Str → Option Value} {base : Heap} {x qual : Str} {st : Stmt} {f : Addr} {fd : FuncData} {N ps : List Str} {k : Nat} {sp : Addr → Obj → Sp} (F : Fun K x qual st f fd) (S : FnScope N ps (defScope st)) (len : ∀ ea oe vs H Q E, sp ea oe vs H Q E → vs.length = ps.length)
    (hbody : ∀ (cdv : Value) (A : Around) (outer : List Env) (s : Shared) (H : Hp) (vs : List V) (Q : VK) (ea : Addr) (oe : Obj), RoomQ k (A.deeper (envOfC qual (defScope st) s.heap.objs.size f cdv)) → A.handled = some (.ref ea) → s.heap.get? ea = some oe → H ea = none → ea ∉ frs outer → sp ea oe vs H Q E0 →
      ∃ t, PSs (cxOfQ CX0 P w K mg base N qual (defScope st) f cdv A outer s H E0).nox (defBody st) t ∧ t { nx := fun _ H' => Q .non H', rt := Q } (start N vs) H) : FnOkQ P w K mg base (k + 1) f fd ps sp := by
  obtain ⟨oc, od, kV, doc, pm, an, cdv, ct, osl, rfl, lk, hcd⟩ := F.ex
  exact fn_ofQ lk hcd S len fun A outer s H vs Q ea oe hr hA hx hH hfr hsp => hbody cdv A outer s H vs Q ea oe hr hA hx hH hfr hsp
section
variable {X : Cx} {k : Nat} {f : Addr} {fd : FuncData} {ps : List Str} {sp : Addr → Obj → Sp} {x : Str} {p pos : Pos} {e : Expr} {es : List Expr} {t : TA} {ea : Addr} {oe : Obj}
theorem pe_callQ (F : FnOkQ X.prog X.w X.K X.mg X.base k f fd ps sp) (hr : RoomQ k X.A) (hA : X.A.handled = some (.ref ea)) (hp : (ea, oe) ∈ X.pn) (hg : Gl X x) (hm : X.mg x = some (.ref f)) (hk : PySem.W.keepIn X.K (.ref f) = true) (hb : Binds X.K fd ps [])
    (ha : PA X (e :: es) t) (hdb : (x == ("__debug__" : Str)) = false := by decide) (he : starEach (e :: es) X.env = (false, eval e X.env) :: starEach es X.env := by rfl) (hpl : (backTo pos (starEach es X.env)).any (·.1) = false := by rfl) :
    PE X (.Call (.Name x p) (e :: es) [] pos) (tCall (sp ea oe) [] E0 t) := by
  intro pins s σ H Q I h
  refine wpAny_Call_Name_kw (ld_glob I hg hm ?_ hdb)
  refine PySem.W.callWith_K (h₀ := X.base) I.ok.mod.kin hk (thn (ha pos pins s σ H _ I h) fun us s1 ⟨vs, H1, I1, r, q⟩ => ⟨I1.kIn, ?_⟩) he hpl
  have q : sp ea oe vs H1 Q E0 := by simpa using q
  have hl : us.length = ps.length := by rw [← r.length]; exact F.len _ _ _ _ _ _ q
  have hb' := hb s1 us I1.kIn (by rw [List.append_nil]; exact hl)
  rw [List.append_nil] at hb'
  obtain ⟨q1, q2, q3, q4, _⟩ := I1.pin (ea, oe) (List.mem_append_left _ hp)
  refine wpAny_call (codeAny_mono (F.run X.A X.stack s1 H1 ⟨us, []⟩ us vs Q ea oe hr hA q1 q2 (fun z => ?_) I1.env0 hb' r q) fun r s' hq => ?_)
  · rcases List.mem_cons.mp (I1.stkSub _ z) with w | w
    · exact q3 w
    · exact q4 w
  cases r with
  | error e => exact False.elim hq
  | ok fl =>
    cases fl with
    | ret u => exact I1.after hq
    | next => exact False.elim hq
    | brk => exact False.elim hq
    | cont => exact False.elim hq
/-! ### isinstance -/
/-- the exception that was handed in -/
structure ExKn (X : Cx) (ea C : Addr) (oe : Obj) : Prop where
  at_ : X.s_0.heap.get? ea = some oe
  un : X.H_0 ea = none
  fs : ea ∉ X.fs
  ex : ea ∉ X.ex
  cls : oe.cls = .ref C
  dat : ExD oe
def ExDict (oe : Obj) (H : Hp) : Prop := oe.dict = none ∨ ∃ dx u, oe.dict = some dx ∧ H dx = some u
theorem call_isiE {C : Addr} (kn : ExKn X ea C oe) (Z : ExcK X.K C) : CallR X (.builtin "isinstance") (fun xs H Q => ∃ c b, (xs = [.ref ea, .ref c] ∧ PySem.W.kitOne X.K (.ref C) (.ref c) = some b) ∧ ExDict oe H ∧ Q (.bl b) H) := by
  intro pins s σ H xs us Q I r h
  obtain ⟨c, b, ⟨rfl, e⟩, hd, q⟩ := h
  cases r with
  | cons r1 rr =>
    cases rr with
    | cons r2 rr =>
      cases rr; cases r1; cases r2
      refine PySem.W.kia_one (kitx_exc (ox := oe) Z) I.kIn ?_ e (fun z => nomatch z) fun tk => ⟨.bl b, H, I.tok _, rfl, q⟩
      have g := I.base.keep ea oe kn.at_ kn.un kn.fs kn.ex
      obtain ⟨vs, dv, _⟩ := kn.dat
      rcases hd with z | ⟨dx, u, z, hu⟩
      · exact ⟨none, g, kn.cls, by unfold PySem.W.notCls; rw [dv], by rw [z]; trivial⟩
      · obtain ⟨o, ho⟩ := (I.hok dx u hu).there
        exact ⟨some o, g, kn.cls, by unfold PySem.W.notCls; rw [dv], by rw [z]; exact ho⟩
theorem call_isiET {C : Addr} {T : String} (kn : ExKn X ea C oe) (Z : ExcK X.K C) : CallR X (.builtin "isinstance") (fun xs H Q => ∃ b, (xs = [.ref ea, .ty T] ∧ PySem.W.kitOne X.K (.ref C) (.type T) = some b) ∧ ExDict oe H ∧ Q (.bl b) H) := by
  intro pins s σ H xs us Q I r h
  obtain ⟨b, ⟨rfl, e⟩, hd, q⟩ := h
  cases r with
  | cons r1 rr =>
    cases rr with
    | cons r2 rr =>
      cases rr; cases r1; cases r2
      refine PySem.W.kia_one (kitx_exc (ox := oe) Z) I.kIn ?_ e (fun z => nomatch z) fun tk => ⟨.bl b, H, I.tok _, rfl, q⟩
      have g := I.base.keep ea oe kn.at_ kn.un kn.fs kn.ex
      obtain ⟨vs, dv, _⟩ := kn.dat
      rcases hd with z | ⟨dx, u, z, hu⟩
      · exact ⟨none, g, kn.cls, by unfold PySem.W.notCls; rw [dv], by rw [z]; trivial⟩
      · obtain ⟨o, ho⟩ := (I.hok dx u hu).there
        exact ⟨some o, g, kn.cls, by unfold PySem.W.notCls; rw [dv], by rw [z]; exact ho⟩
/-- isinstance(x, T), T a built-in class, x a plain value -/
theorem call_isi {T : String} : CallR X (.builtin "isinstance") (fun xs H Q => ∃ x t b, xs = [x, .ty T] ∧ TyOf X.K H x t ∧ PySem.W.kitOne X.K t (.type T) = some b ∧ Q (.bl b) H) := by
  intro pins s σ H xs us Q I r h
  obtain ⟨x, t, b, rfl, ty, e, q⟩ := h
  cases r with
  | cons r1 rr =>
    cases rr with
    | cons r2 rr =>
      cases rr; cases r2
      exact isinst_ok I r1 ty e fun tk => ⟨.bl b, H, I.tok _, rfl, q⟩
end
end L2

end
section
set_option maxHeartbeats 4000000
namespace L2
open PySem PySem.Spec PyProof.Rows
section
variable {X : Cx}
/-- // by a positive divisor of up to some thousand bits -/
def CDivL (i j : Int) : Prop := 0 < j ∧ j.natAbs.log2 < 1000
theorem op_fdivL : OpR X (binaryOp .FloorDiv) (rI CDivL fun i j => .int (i / j)) := opI fun i j _ _ _ _ _ hc q => by
  have h1 : (0 : Int) < j := hc.1
  exact floordiv_int (by omega) (by rw [Int.fdiv_eq_ediv_of_nonneg i (by omega)]; exact q) (.inl (PyProof.noPylong_of_log2 (Nat.lt_of_lt_of_le hc.2 (by decide))))
/-! ### f-strings -/
def TJ := St → Hp → Str → (Str → Hp → Prop) → Prop
def PJ (X : Cx) (es : List Expr) (t : TJ) : Prop := ∀ (pins : List (Addr × Obj)) (s : Shared) (σ : St) (H : Hp) (acc : Str) (Q : Str → Hp → Prop), Inv X pins σ H s → t σ H acc Q →
  Joins (model X.prog X.w) X.A X.xe (evalEach es X.env) acc (fun out s' => ∃ H', Inv X pins σ H' s' ∧ Q out H') s
def tJnil : TJ := fun _ H acc Q => Q acc H
def tJcons (te : TE) (t : TJ) : TJ := fun σ H acc Q => te σ H fun v H1 => ∃ y, v = .str y ∧ (acc ++ y).length ≤ sizeLine ∧ t σ H1 (acc ++ y) Q
theorem pj_nil : PJ X [] tJnil := fun _ _ _ H _ _ I h => ⟨H, I, h⟩
theorem pj_cons {e : Expr} {es : List Expr} {te : TE} {t : TJ} (he : PE X e te) (hr : PJ X es t) : PJ X (e :: es) (tJcons te t) := by
  intro pins s σ H acc Q I h
  show wpAny _ _ (eval e X.env) _ _ s
  refine thn (he pins s σ H _ I h) fun u s1 ⟨v, H1, I1, r, y, ev, hz, q⟩ => ?_
  subst ev
  obtain ⟨t1, rfl⟩ := r
  exact ⟨y, t1, rfl, hz, hr pins s1 σ H1 _ Q I1 q⟩
def tFS (t : TJ) : TE := fun σ H Q => t σ H Str.empty fun out H1 => out.length ≤ sizeLine ∧ Q (.str out) H1
theorem Joins.imp {M : Model} {A : Around} {E : Value → Shared → Prop} : ∀ {parts : List (Sem Value)} {acc : Str} {Q Q' : Str → Shared → Prop} {s : Shared}, Joins M A E parts acc Q s → (∀ o s', Q o s' → Q' o s') → Joins M A E parts acc Q' s
  | [], _, _, _, _, h, k => k _ _ h
  | _ :: _, _, _, _, _, h, k => wpAny_mono h (fun v s1 ⟨y, t, e, z, q⟩ => ⟨y, t, e, z, Joins.imp q k⟩) fun _ _ z => z
theorem pe_fstr {v1 v2 : Expr} {rest : List Expr} {pos : Pos} {t : TJ} (h : PJ X (v1 :: v2 :: rest) t) : PE X (.JoinedStr (v1 :: v2 :: rest) pos) (tFS t) := by
  intro pins s σ H Q I hq
  refine wpAny_JoinedStr (Joins.imp (h pins s σ H _ _ I hq) fun o s1 ⟨H1, I1, z, q⟩ => ⟨z, ?_⟩)
  exact ⟨.str o, H1, I1.tok _, ⟨_, rfl⟩, q⟩
def tFmt (te : TE) : TE := fun σ H Q => te σ H fun v H1 => (∃ i, v = .int i ∧ i.natAbs.log2 < 1920 ∧ Q (.str (toString i)) H1) ∨ ∃ x, v = .str x ∧ x.length ≤ sizeLine ∧ Q (.str x) H1
theorem pe_fmt {e : Expr} {te : TE} {pos : Pos} (he : PE X e te) : PE X (.FormattedValue e (-1) none pos) (tFmt te) := by
  intro pins s σ H Q I h
  refine wpAny_FormattedValue_plain (thn (he pins s σ H _ I h) fun u s1 ⟨v, H1, I1, r, q⟩ => ?_)
  rcases q with ⟨i, rfl, hl, q⟩ | ⟨x, rfl, hl, q⟩
  · obtain ⟨t, rfl⟩ := r
    exact wpAny_formatField_int hl ⟨.str _, H1, I1.tok _, ⟨_, rfl⟩, q⟩
  · obtain ⟨t, rfl⟩ := r
    exact wpAny_formatField_str ⟨.str _, H1, I1, ⟨_, rfl⟩, q⟩ ⟨.str _, H1, I1.tok _, ⟨_, rfl⟩, q⟩ hl
/-- isinstance(x, (T1, T2)) -/
theorem call_isi2 : CallR X (.builtin "isinstance") (fun xs H Q => ∃ x t tp T1 T2 b, xs = [x, .ref tp] ∧ H tp = some (.tup [.ty T1, .ty T2]) ∧ TyOf X.K H x t ∧ (∀ a, t ≠ .ref a) ∧ PySem.W.kitAny X.K t [.type T1, .type T2] = some b ∧ Q (.bl b) H) := by
  intro pins s σ H xs us Q I r h
  obtain ⟨x, t, tp, T1, T2, b, rfl, htp, ty, nt, e, q⟩ := h
  cases r with
  | cons r1 rr =>
    cases rr with
    | cons r2 rr =>
      cases rr; cases r2
      obtain ⟨_, its, rvs, o, ho, hc, n, hd⟩ := I.hok tp _ htp
      have eits : its = [.type T1, .type T2] := by
        cases rvs with
        | cons r1 rr =>
          cases rr with
          | cons r2 rr => cases rr; cases r1; cases r2; rfl
      subst eits
      obtain ⟨oc, od, odt, osl⟩ := o
      have hc : oc = .type "tuple" := hc
      have hd : odt = .seq ([Value.type T1, Value.type T2].toArray) n := hd
      subst hc hd
      have fin : ∀ tk, EP X pins σ Q (.bool b) { s with toks := tk } := fun tk => ⟨.bl b, H, I.tok _, rfl, q⟩
      cases ty with
      | non => cases (show _ = Value.none from r1); exact PySem.W.kia_tup PySem.W.kitx_none I.kIn True.intro ho e (fun z => nomatch z) fin
      | bl y => cases (show _ = Value.bool y from r1); exact PySem.W.kia_tup PySem.W.kitx_bool I.kIn True.intro ho e (fun z => nomatch z) fin
      | int i => obtain ⟨t, z⟩ := (show ∃ t, _ = Value.int i t from r1); cases z; exact PySem.W.kia_tup PySem.W.kitx_int I.kIn True.intro ho e (fun z => nomatch z) fin
      | str y => obtain ⟨t, z⟩ := (show ∃ t, _ = Value.str y t from r1); cases z; exact PySem.W.kia_tup PySem.W.kitx_str I.kIn True.intro ho e (fun z => nomatch z) fin
      | flt y => obtain ⟨t, z⟩ := (show ∃ t, _ = Value.float y t from r1); cases z; exact PySem.W.kia_tup PySem.W.kitx_float I.kIn True.intro ho e (fun z => nomatch z) fin
      | @lst a xs ea =>
        cases (show _ = Value.ref a from r1)
        obtain ⟨_, _, n2, _, h1⟩ := (show ObjOk X.prog X.w H s.heap a (.lst xs) from I.hok a _ ea)
        exact PySem.W.kia_tup PySem.W.kitx_list I.kIn ⟨_, h1, rfl⟩ ho e (fun z => nomatch z) fin
      | @frz a ob xs ea =>
        cases (show _ = Value.ref a from r1)
        obtain ⟨_, _, _, n2, _, h1⟩ := (show ObjOk X.prog X.w H s.heap a (.frz ob (.lst xs)) from I.hok a _ ea)
        exact PySem.W.kia_tup PySem.W.kitx_list I.kIn ⟨_, h1, rfl⟩ ho e (fun z => nomatch z) fin
      | @tup a xs ea =>
        cases (show _ = Value.ref a from r1)
        obtain ⟨_, _, _, p⟩ := (show ObjOk X.prog X.w H s.heap a (.tup xs) from I.hok a _ ea)
        obtain ⟨o2, h1, h2, _⟩ := p
        exact PySem.W.kia_tup PySem.W.kitx_tuple I.kIn ⟨o2, h1, h2⟩ ho e (fun z => nomatch z) fin
      | @dK a kvs ea =>
        cases (show _ = Value.ref a from r1)
        obtain ⟨_, _, vs, _, p⟩ := (show ObjOk X.prog X.w H s.heap a (.dK kvs) from I.hok a _ ea)
        obtain ⟨o2, es, ep, h1, h2, _⟩ := p
        exact PySem.W.kia_tup PySem.W.kitx_dict I.kIn ⟨o2, h1, h2.1⟩ ho e (fun z => nomatch z) fin
      | @dT a kvs ea =>
        cases (show _ = Value.ref a from r1)
        obtain ⟨_, _, xs, _, o2, es, ep, h1, h2, _⟩ := (show ObjOk X.prog X.w H s.heap a (.dT kvs) from I.hok a _ ea)
        exact PySem.W.kia_tup PySem.W.kitx_dict I.kIn ⟨o2, h1, h2.1⟩ ho e (fun z => nomatch z) fin
      | @ins a C dx fs ea cl ha hn htk hm => exact absurd rfl (nt C)
end
end L2

end
section
set_option maxHeartbeats 4000000
namespace L2
open PySem PySem.Spec PyProof.Rows
section
variable {X : Cx} {CX : CXT} {k : Nat} {f C : Addr} {fd : FuncData} {ps ks : List Str} {sp : Sp} {E : XK} {x m : Str} {p pos apos kpos : Pos} {e o : Expr} {es : List Expr} {kws : List Keyword} {te ta : TE} {t tk : TA} {nm : Option Str}
variable {g : List Value → List Value → List Value} {gV : List V → List V → List V}
end
/-! ### a def with defaults -/
structure FunD (K : PySem.W.Frag) (x qual : Str) (st : Stmt) (f : Addr) (fd : FuncData) (ds : List Value) : Prop where
  ex : ∃ (oc : Value) (od : Option Addr) (kV doc pm : Value) (an : Option Addr) (cdv ct : Value) (osl : Array (Option Value)) (T : Addr) (o : Obj) (n : Nat),
    fd = PySem.W.fnOf x qual (defArgs st) (defBody st) (defScope st) (.ref T) kV doc pm an cdv ct ∧ K.lookup f = some ⟨oc, od, .func fd, osl⟩ ∧ PySem.W.codeIn K cdv qual = true ∧ K.lookup T = some o ∧ o.data = .seq ds.toArray n
  kp : PySem.W.keepIn K (.ref f) = true
theorem funD_mk {K : PySem.W.Frag} {x qual : Str} {st : Stmt} {f T : Addr} {oc c2 : Value} {od an d2 : Option Addr} {osl sl2 : Array (Option Value)} {kV doc pm cdv ct : Value} {ds : List Value} {n : Nat} (l : K.lookup f = some ⟨oc, od, .func (PySem.W.fnOf x qual (defArgs st) (defBody st) (defScope st) (.ref T) kV doc pm an cdv ct), osl⟩)
    (c : PySem.W.codeIn K cdv qual = true) (k : PySem.W.keepIn K (.ref f) = true) (lT : K.lookup T = some ⟨c2, d2, .seq ds.toArray n, sl2⟩) : FunD K x qual st f (PySem.W.fnOf x qual (defArgs st) (defBody st) (defScope st) (.ref T) kV doc pm an cdv ct) ds := ⟨⟨oc, od, kV, doc, pm, an, cdv, ct, osl, T, _, n, rfl, l, c, lT, rfl⟩, k⟩
section
variable {P : Program} {w : World} {K : PySem.W.Frag} {mg : Str → Option Value} {base : Heap}
/-- us written arguments, the rest by their defaults: h is «fun kV doc pm an cdv ct T => ⟨_, fun us hl => match us, hl with | [_], _ => rfl, ..⟩» -/
theorem FunD.binds {x qual : Str} {st : Stmt} {f : Addr} {fd : FuncData} {ps : List Str} {ds ds' : List Value} (F : FunD K x qual st f fd ds)
    (h : ∀ (kV doc pm : Value) (an : Option Addr) (cdv ct : Value) (T : Addr) (us : List Value), (us ++ ds').length = ps.length → ∃ k : Option (Array Value) → Sem (List (Str × Value)),
      bindArgs (PySem.W.fnOf x qual (defArgs st) (defBody st) (defScope st) (.ref T) kV doc pm an cdv ct) ⟨us, []⟩ = seqItems? (.ref T) >>= k ∧ k (some ds.toArray) = pure (ps.zip (us ++ ds'))) : Binds K fd ps ds' := by
  obtain ⟨oc, od, kV, doc, pm, an, cdv, ct, osl, T, o, n, rfl, lk, hcd, lT, hs⟩ := F.ex
  intro s us X hl
  obtain ⟨k, h1, h2⟩ := h kV doc pm an cdv ct T us hl
  exact BindsTo.of_defaults rfl (X _ _ lT) hs h1 h2
end
end L2

end
section
set_option maxHeartbeats 4000000
namespace L2
open PySem PySem.Spec PyProof.Rows
/-- a statement, then the others, with a word between -/
def tCut (t u : TS) : TS := fun D σ H => ∃ M : St → Hp → Prop, t { D with nx := M } σ H ∧ ∀ σ' H', M σ' H' → u D σ' H'
theorem pss_cut {X : Cx} {st : Stmt} {rest : List Stmt} {t u : TS} (h1 : PS X st t) (h2 : PSs X rest u) : PSs X (st :: rest) (tCut t u) := by
  intro pins s σ H D I h
  obtain ⟨M, a, b⟩ := h
  refine wpAny_execs_cons (thn (h1 pins s σ H { D with nx := M } I a) fun f s1 q => ?_)
  cases f with
  | next =>
    obtain ⟨σ', H', I', q⟩ := q
    exact h2 pins s1 σ' H' D I' (b σ' H' q)
  | ret v => exact q
  | brk => exact q
  | cont => exact q
/-- nothing but what stands at d has changed -/
def But (d : Addr) (H H' : Hp) : Prop := ∀ b, b ≠ d → H' b = H b
theorem But.refl (d : Addr) (H : Hp) : But d H H := fun _ _ => rfl
theorem But.put {d : Addr} {H H' : Hp} {o : HO} (h : But d H H') : But d H (upd H' d o) := fun b hb => by rw [upd_ne hb]; exact h b hb
/-- the numbers that a law draws from -/
structure Draw (H : Hp) (d : Addr) : Prop where
  ex : ∃ (l : Addr) (ns : List Int) (p c g : Int), H d = some (.lst [.ref l, .int p, .int c, .int g]) ∧ H l = some (.lst (ns.map V.int)) ∧ l ≠ d ∧ 0 ≤ p ∧ 0 ≤ g ∧ g < 2305843009213693951
def spTake : Sp := fun vs H Q _ => ∃ (d : Addr) (m : Int), vs = [.ref d, .int m] ∧ Draw H d ∧ 0 < m ∧ m.natAbs.log2 < 1000 ∧ ∀ (r : Int) (H' : Hp), 0 ≤ r → r < m → Draw H' d → But d H H' → Q (.int r) H'
def spBegin (K : PySem.W.Frag) : Sp := fun vs H Q _ => ∃ (a : Addr) (ns : List Int), vs = [.ref a] ∧ SqL K H a (ns.map V.int) ∧ ns.length ≤ 63 ∧ ∀ (d : Addr) (H' : Hp), Draw H' d → Same H H' → Q (.ref d) H'
/-- the built-ins that the laws name -/
structure Blt (mg : Str → Option Value) : Prop where
  len : mg "len" = none
  list : mg "list" = none
  range : mg "range" = none
  isinstance : mg "isinstance" = none
  int : mg "int" = none
  str : mg "str" = none
  bool : mg "bool" = none
  tuple : mg "tuple" = none
  all : mg "all" = none
  zip : mg "zip" = none
  min : mg "min" = none
theorem boot_list : bootBuiltins "list" = some (.type "list") := by decide +kernel
theorem boot_isinstance : bootBuiltins "isinstance" = some (.builtin "isinstance") := by decide +kernel
theorem boot_all : bootBuiltins "all" = some (.builtin "all") := by decide +kernel
theorem boot_int : bootBuiltins "int" = some (.type "int") := by decide +kernel
theorem boot_str : bootBuiltins "str" = some (.type "str") := by decide +kernel
theorem boot_bool : bootBuiltins "bool" = some (.type "bool") := by decide +kernel
theorem boot_tuple : bootBuiltins "tuple" = some (.type "tuple") := by decide +kernel
theorem boot_valueerror : bootBuiltins "ValueError" = some (.type "ValueError") := by decide +kernel
theorem boot_lookuperror : bootBuiltins "LookupError" = some (.type "LookupError") := by decide +kernel
end L2

end
section
set_option maxHeartbeats 4000000
namespace L2
open PySem PySem.Spec PyProof.Rows
/-! ### zip of any two of: list, tuple, text -/
inductive ZS where
  | L (a : Addr)
  | T (a : Addr)
  | S (x : Str)
def signs (x : Str) : List V := x.cps.toList.map fun c => V.str ⟨#[c]⟩
/-- what stands there -/
def ZS.rd (K : PySem.W.Frag) (H : Hp) : ZS → List V → Prop
  | .L a, xs => SqL K H a xs
  | .T a, xs => SqT K H a xs
  | .S x, xs => xs = signs x
def ZS.val : ZS → V
  | .L a => .ref a
  | .T a => .ref a
  | .S x => .str x
/-- the iterator -/
def ZS.st : ZS → Addr → Nat → Heap → Prop
  | .L a, i, k, h => h.IsListIter i a k
  | .T a, i, k, h => h.IsTupleIter i a k
  | .S x, i, k, h => ∃ ty t, (ty = "str_ascii_iterator" ∨ ty = "str_iterator") ∧ h.IsStrIter i ty x t k
def ZS.con : ZS → List Value → Heap → Prop
  | .L a, us, h => h.IsList a us.toArray
  | .T a, us, h => h.IsTuple a us.toArray
  | .S _, _, _ => True
def ZS.off : ZS → Addr → Prop
  | .L a, b => a ≠ b
  | .T a, b => a ≠ b
  | .S _, _ => True
def ZS.itm : ZS → List Value → Nat → Value → Prop
  | .L _, us, k, u => us[k]? = some u
  | .T _, us, k, u => us[k]? = some u
  | .S x, _, k, u => ∃ c t, x.cps[k]? = some c ∧ u = .str ⟨#[c]⟩ t
def ZS.len : ZS → List Value → Nat
  | .L _, us => us.length
  | .T _, us => us.length
  | .S x, _ => x.cps.size
theorem ZS.con_keep {p : ZS} {us : List Value} {b : Addr} {h h' : Heap} (c : p.con us h) (n : p.off b) (k : Heap.ExtBut b h h') : p.con us h' := by
  cases p with
  | L a => exact Heap.IsList.extBut c k n
  | T a => exact Heap.IsTuple.extBut c k n
  | S x => trivial
theorem ZS.st_obj {p : ZS} {i : Addr} {k : Nat} {h : Heap} (c : p.st i k h) : ∃ o, h.get? i = some o ∧ (∀ v, o.data ≠ .cell v) := by
  cases p with
  | L a => obtain ⟨o, e, _, d⟩ := c; exact ⟨o, e, fun v z => by rw [d] at z; cases z⟩
  | T a => obtain ⟨o, e, _, d⟩ := c; exact ⟨o, e, fun v z => by rw [d] at z; cases z⟩
  | S x => obtain ⟨_, _, _, o, e, _, d⟩ := c; exact ⟨o, e, fun v z => by rw [d] at z; cases z⟩
theorem ZS.st_at {p : ZS} {i : Addr} {k : Nat} {h h' : Heap} (c : p.st i k h) (q : ∀ o, h.get? i = some o → h'.get? i = some o) : p.st i k h' := by
  cases p with
  | L a => obtain ⟨o, e, r⟩ := c; exact ⟨o, q o e, r⟩
  | T a => obtain ⟨o, e, r⟩ := c; exact ⟨o, q o e, r⟩
  | S x => obtain ⟨ty, t, h1, o, e, r⟩ := c; exact ⟨ty, t, h1, o, q o e, r⟩
theorem ZS.st_lt {p : ZS} {i : Addr} {k : Nat} {h : Heap} (c : p.st i k h) : i < h.objs.size := by
  obtain ⟨o, e, _⟩ := ZS.st_obj c
  exact Heap.lt_size e
section
variable {prog : Program} {w : World} {A : Around} {E : Value → Shared → Prop} {s : Shared}
theorem stop_calm {α : Type} {Q : α → Shared → Prop} (hh : A.handled = none)
    (k : ∀ h' e, (∀ b o, s.heap.get? b = some o → h'.get? b = some o) → (∃ o, h'.get? e = some o ∧ o.cls = .type "StopIteration") → E (.ref e) { s with heap := h' }) :
    wpAny (model prog w) A (newExc (.type "StopIteration") [] >>= fun e => (raiseNew e : Sem α)) Q E s := by
  refine wpAny_bind ?_
  simp only [newExc, newTuple]
  refine wpAny_bind (wpAny_newObj_type ?_ (by size_fits))
  refine wpAny_bind (m := firstArgMember _ _) (wpAny_of_eq (a := Value.none) (by first | rfl | (simp only [firstArgMember]; rfl)) (wpAny_newObj_type ?_ (by size_fits)))
  unfold raiseNew
  refine wpAny_bind (wpAny_handled ?_)
  rw [hh]
  refine wpAny_bind (wpAny_pure (wpAny_throw (k _ _ (fun b o e => Heap.get?_push_of_some _ (Heap.get?_push_of_some _ e)) ⟨_, Heap.get?_push_size _ rfl, rfl⟩)))
theorem next_tup {it t : Addr} {i : Nat} {us : Array Value} {x : Value} {Q : Value → Shared → Prop} (hit : s.heap.IsTupleIter it t i) (ht : s.heap.IsTuple t us) (hx : us[i]? = some x)
    (k : ∀ h', h'.IsTupleIter it t (i + 1) → Heap.SameBut it s.heap h' → Q x { s with heap := h' }) : wpAny (model prog w) A (Builtin.SmallTypes.nextOf (.ref it)) Q E s := by
  obtain ⟨oi, gi, ci, di⟩ := id hit
  obtain ⟨ol, gl, _, nl, dl⟩ := ht
  unfold Builtin.SmallTypes.nextOf
  refine wpAny_bind (wpAny_callSpecial?_slot (name := Str.ofString "__next__") hit.typeIs PySem.F.slot_tuple_iterator_next (wpAny_call_entry PySem.F.slot_tuple_iterator_next hit.typeIs PySem.F.entry_tuple_iterator_next ?_ (PySem.F.args_tuple_iterator_next_1 _)))
  show wpAny _ A.in1 (field (.ref it) 0 >>= _) _ _ s
  refine wpAny_bind (wpAny_field gi di (x := .ref t) rfl ?_)
  rw [if_neg (show ¬ ((Value.ref t == Value.none) = true) from Bool.false_ne_true)]
  refine wpAny_bind (wpAny_field gi di (x := .int i 0) rfl ?_)
  refine wpAny_bind (wpAny_seqItems gl dl ?_)
  simp only [Int.toNat_natCast, hx]
  refine wpAny_bind (wpAny_setField gi di (by simp) (wpAny_pure ⟨x, rfl, wpAny_pure (k _ ?_ (Heap.SameBut.update ..))⟩))
  exact ⟨_, Heap.get?_update_self _ gi (Obj.isFreed_of_fields (Obj.data_mapFields di _)), (Obj.cls_mapFields ..).trans ci, by rw [Obj.data_mapFields di]; simp [rawInt]⟩
theorem next_tup_end {it t : Addr} {i : Nat} {us : Array Value} {Q : Value → Shared → Prop} (hh : A.handled = none) (hit : s.heap.IsTupleIter it t i) (ht : s.heap.IsTuple t us) (hx : us[i]? = none)
    (k : ∀ h' e, Heap.ExtBut it s.heap h' → (∃ o, h'.get? e = some o ∧ o.cls = .type "StopIteration") → E (.ref e) { s with heap := h' }) : wpAny (model prog w) A (Builtin.SmallTypes.nextOf (.ref it)) Q E s := by
  obtain ⟨oi, gi, ci, di⟩ := id hit
  obtain ⟨ol, gl, _, nl, dl⟩ := ht
  unfold Builtin.SmallTypes.nextOf
  refine wpAny_bind (wpAny_callSpecial?_slot (name := Str.ofString "__next__") hit.typeIs PySem.F.slot_tuple_iterator_next (wpAny_call_entry PySem.F.slot_tuple_iterator_next hit.typeIs PySem.F.entry_tuple_iterator_next ?_ (PySem.F.args_tuple_iterator_next_1 _)))
  show wpAny _ A.in1 (field (.ref it) 0 >>= _) _ _ s
  refine wpAny_bind (wpAny_field gi di (x := .ref t) rfl ?_)
  rw [if_neg (show ¬ ((Value.ref t == Value.none) = true) from Bool.false_ne_true)]
  refine wpAny_bind (wpAny_field gi di (x := .int i 0) rfl ?_)
  refine wpAny_bind (wpAny_seqItems gl dl ?_)
  simp only [Int.toNat_natCast, hx]
  refine wpAny_bind (wpAny_rule (wpAny_bind (wpAny_setField gi di (by simp) ?_)))
  have sb := Heap.SameBut.update s.heap it (Obj.mapFields (·.setIfInBounds 0 Value.none))
  exact stop_calm (A := A.in1) hh fun h' e k1 k2 => k h' e (fun b o hb e => k1 b o ((sb.2 b hb).trans e)) k2
theorem next_str {it : Addr} {x : Str} {t : Tok} {i c : Nat} {ty : String} {Q : Value → Shared → Prop} (hty : ty = "str_ascii_iterator" ∨ ty = "str_iterator") (hit : s.heap.IsStrIter it ty x t i) (hx : x.cps[i]? = some c)
    (k : ∀ h', h'.IsStrIter it ty x t (i + 1) → Heap.SameBut it s.heap h' → Q (.str ⟨#[c]⟩ s.toks) { s with heap := h', toks := s.toks + 1 }) : wpAny (model prog w) A (Builtin.SmallTypes.nextOf (.ref it)) Q E s := by
  obtain ⟨oi, gi, ci, di⟩ := id hit
  unfold Builtin.SmallTypes.nextOf
  rcases hty with rfl | rfl
  · refine wpAny_bind (wpAny_callSpecial?_slot (name := Str.ofString "__next__") hit.typeIs PySem.F.slot_str_ascii_iterator_next (wpAny_call_entry PySem.F.slot_str_ascii_iterator_next hit.typeIs PySem.F.entry_str_ascii_iterator_next ?_ (PySem.F.args_str_ascii_iterator_next_1 _)))
    show wpAny _ A.in1 (field (.ref it) 0 >>= _) _ _ s
    refine wpAny_bind (wpAny_field gi di (x := .str x t) rfl ?_)
    show wpAny _ A.in1 (field (.ref it) 1 >>= _) _ _ s
    refine wpAny_bind (wpAny_field gi di (x := .int i 0) rfl ?_)
    simp only [Int.toNat_natCast, hx]
    refine wpAny_bind (wpAny_setField gi di (by simp) (wpAny_bind (wpAny_mkStr (wpAny_pure ⟨_, rfl, wpAny_pure (k _ ?_ (Heap.SameBut.update ..))⟩) (by show 1 ≤ sizeLine; decide))))
    exact ⟨_, Heap.get?_update_self _ gi (Obj.isFreed_of_fields (Obj.data_mapFields di _)), (Obj.cls_mapFields ..).trans ci, by rw [Obj.data_mapFields di]; simp [rawInt]⟩
  · refine wpAny_bind (wpAny_callSpecial?_slot (name := Str.ofString "__next__") hit.typeIs PySem.F.slot_str_iterator_next (wpAny_call_entry PySem.F.slot_str_iterator_next hit.typeIs PySem.F.entry_str_iterator_next ?_ (PySem.F.args_str_iterator_next_1 _)))
    show wpAny _ A.in1 (field (.ref it) 0 >>= _) _ _ s
    refine wpAny_bind (wpAny_field gi di (x := .str x t) rfl ?_)
    show wpAny _ A.in1 (field (.ref it) 1 >>= _) _ _ s
    refine wpAny_bind (wpAny_field gi di (x := .int i 0) rfl ?_)
    simp only [Int.toNat_natCast, hx]
    refine wpAny_bind (wpAny_setField gi di (by simp) (wpAny_bind (wpAny_mkStr (wpAny_pure ⟨_, rfl, wpAny_pure (k _ ?_ (Heap.SameBut.update ..))⟩) (by show 1 ≤ sizeLine; decide))))
    exact ⟨_, Heap.get?_update_self _ gi (Obj.isFreed_of_fields (Obj.data_mapFields di _)), (Obj.cls_mapFields ..).trans ci, by rw [Obj.data_mapFields di]; simp [rawInt]⟩
theorem next_str_end {it : Addr} {x : Str} {t : Tok} {i : Nat} {ty : String} {Q : Value → Shared → Prop} (hty : ty = "str_ascii_iterator" ∨ ty = "str_iterator") (hh : A.handled = none) (hit : s.heap.IsStrIter it ty x t i) (hx : x.cps[i]? = none)
    (k : ∀ h' e, Heap.ExtBut it s.heap h' → (∃ o, h'.get? e = some o ∧ o.cls = .type "StopIteration") → E (.ref e) { s with heap := h' }) : wpAny (model prog w) A (Builtin.SmallTypes.nextOf (.ref it)) Q E s := by
  obtain ⟨oi, gi, ci, di⟩ := id hit
  unfold Builtin.SmallTypes.nextOf
  rcases hty with rfl | rfl
  · refine wpAny_bind (wpAny_callSpecial?_slot (name := Str.ofString "__next__") hit.typeIs PySem.F.slot_str_ascii_iterator_next (wpAny_call_entry PySem.F.slot_str_ascii_iterator_next hit.typeIs PySem.F.entry_str_ascii_iterator_next ?_ (PySem.F.args_str_ascii_iterator_next_1 _)))
    show wpAny _ A.in1 (field (.ref it) 0 >>= _) _ _ s
    refine wpAny_bind (wpAny_field gi di (x := .str x t) rfl ?_)
    show wpAny _ A.in1 (field (.ref it) 1 >>= _) _ _ s
    refine wpAny_bind (wpAny_field gi di (x := .int i 0) rfl ?_)
    simp only [Int.toNat_natCast, hx]
    refine wpAny_bind (wpAny_rule (wpAny_bind (wpAny_setField gi di (by simp) (wpAny_bind (wpAny_letGo ?_)))))
    have sb := Heap.SameBut.update s.heap it (Obj.mapFields (·.setIfInBounds 0 Value.none))
    exact stop_calm (A := A.in1) hh fun h' e k1 k2 => k h' e (fun b o hb e => k1 b o ((sb.2 b hb).trans e)) k2
  · refine wpAny_bind (wpAny_callSpecial?_slot (name := Str.ofString "__next__") hit.typeIs PySem.F.slot_str_iterator_next (wpAny_call_entry PySem.F.slot_str_iterator_next hit.typeIs PySem.F.entry_str_iterator_next ?_ (PySem.F.args_str_iterator_next_1 _)))
    show wpAny _ A.in1 (field (.ref it) 0 >>= _) _ _ s
    refine wpAny_bind (wpAny_field gi di (x := .str x t) rfl ?_)
    show wpAny _ A.in1 (field (.ref it) 1 >>= _) _ _ s
    refine wpAny_bind (wpAny_field gi di (x := .int i 0) rfl ?_)
    simp only [Int.toNat_natCast, hx]
    refine wpAny_bind (wpAny_rule (wpAny_bind (wpAny_setField gi di (by simp) (wpAny_bind (wpAny_letGo ?_)))))
    have sb := Heap.SameBut.update s.heap it (Obj.mapFields (·.setIfInBounds 0 Value.none))
    exact stop_calm (A := A.in1) hh fun h' e k1 k2 => k h' e (fun b o hb e => k1 b o ((sb.2 b hb).trans e)) k2
theorem zs_item {p : ZS} {us : List Value} {i : Addr} {k : Nat} {Q : Value → Shared → Prop} (st : p.st i k s.heap) (cn : p.con us s.heap) (hk : k < p.len us)
    (kk : ∀ u h' tk, p.itm us k u → p.st i (k + 1) h' → Heap.SameBut i s.heap h' → Q u { s with heap := h', toks := tk }) : wpAny (model prog w) A (Builtin.SmallTypes.nextOf (.ref i)) Q E s := by
  cases p with
  | L a =>
    have hk : k < us.length := hk
    have e : us[k]? = some us[k] := List.getElem?_eq_getElem hk
    exact wpAny_nextOf_list_item st cn (x := us[k]) (by rw [List.getElem?_toArray]; exact e) fun h' a b => kk _ h' s.toks e a b
  | T a =>
    have hk : k < us.length := hk
    have e : us[k]? = some us[k] := List.getElem?_eq_getElem hk
    exact next_tup st cn (x := us[k]) (by rw [List.getElem?_toArray]; exact e) fun h' a b => kk _ h' s.toks e a b
  | S x =>
    have hk : k < x.cps.size := hk
    have e : x.cps[k]? = some x.cps[k] := Array.getElem?_eq_getElem hk
    obtain ⟨ty, t, hty, st⟩ := st
    exact next_str hty st (c := x.cps[k]) e fun h' a b => kk _ h' _ ⟨_, _, e, rfl⟩ ⟨ty, t, hty, a⟩ b
theorem zs_end {p : ZS} {us : List Value} {i : Addr} {k : Nat} {Q : Value → Shared → Prop} (hh : A.handled = none) (st : p.st i k s.heap) (cn : p.con us s.heap) (hk : p.len us ≤ k)
    (kk : ∀ h' e, Heap.ExtBut i s.heap h' → (∃ o, h'.get? e = some o ∧ o.cls = .type "StopIteration") → E (.ref e) { s with heap := h' }) : wpAny (model prog w) A (Builtin.SmallTypes.nextOf (.ref i)) Q E s := by
  cases p with
  | L a => exact wpAny_nextOf_list_end hh st cn (by simp [show us.length ≤ k from hk]) kk
  | T a => exact next_tup_end hh st cn (by simp [show us.length ≤ k from hk]) kk
  | S x =>
    obtain ⟨ty, t, hty, st⟩ := st
    exact next_str_end hty hh st (by simp [show x.cps.size ≤ k from hk]) kk
end

/-! the zip object over two of them -/
section
variable {prog : Program} {w : World} {A : Around} {E : Value → Shared → Prop} {s : Shared}
structure ZOff (z TI TO i1 i2 : Addr) (p q : ZS) : Prop where
  TIz : TI ≠ z
  TOz : TO ≠ z
  i1z : i1 ≠ z
  i2z : i2 ≠ z
  TITO : TI ≠ TO
  TIi1 : TI ≠ i1
  TIi2 : TI ≠ i2
  TOi1 : TO ≠ i1
  TOi2 : TO ≠ i2
  i12 : i1 ≠ i2
theorem zipn_item {z TI TO i1 i2 : Addr} {p q : ZS} {us vs : List Value} {k : Nat} {a b : Value} {Q : Value → Shared → Prop} (D : ZOff z TI TO i1 i2 p q) (off : ∀ c, c = z ∨ c = TO ∨ c = i1 ∨ c = i2 → p.off c ∧ q.off c)
    (hz : IsZip s.heap z TI TO .none) (hTI : IsPair s.heap TI (.ref i1) (.ref i2)) (hTO : IsPair s.heap TO a b)
    (h1 : p.st i1 k s.heap) (h2 : q.st i2 k s.heap) (c1 : p.con us s.heap) (c2 : q.con vs s.heap) (hx : k < p.len us) (hy : k < q.len vs)
    (hQ : ∀ x y h' tk, p.itm us k x → q.itm vs k y → IsZip h' z TI TO (rawInt s.heap.objs.size) → IsPair h' TO x y → p.st i1 (k + 1) h' → q.st i2 (k + 1) h' → IsPair h' s.heap.objs.size x y → h'.objs.size = s.heap.objs.size + 1 →
      (∀ c o, c ≠ z → c ≠ TO → c ≠ i1 → c ≠ i2 → s.heap.get? c = some o → h'.get? c = some o) → Q (.ref s.heap.objs.size) { s with heap := h', toks := tk }) :
    wpAny (model prog w) A (Builtin.«zip.__next__» ⟨[.ref z], []⟩) (fun fin s' => ∃ v, fin = .done (.ret v) ∧ Q v s') E s := by
  show wpAny _ A (field (.ref z) 2 >>= _) _ E s
  refine wpAny_bind (wpAny_field hz rfl (x := .bool false) rfl ?_)
  show wpAny _ A (field (.ref z) 3 >>= _) _ E s
  refine wpAny_bind (wpAny_field hz rfl (x := .ref TI) rfl ?_)
  refine wpAny_bind (wpAny_seqItems hTI rfl ?_)
  show wpAny _ A (Builtin.SmallTypes.ownedTupleIsFree (.ref z) >>= _) _ E s
  refine wpAny_bind ?_
  unfold Builtin.SmallTypes.ownedTupleIsFree
  refine wpAny_bind (wpAny_field hz rfl (x := .none) rfl (wpAny_pure ?_))
  simp only [if_true]
  refine wpAny_bind (wpAny_rule ?_)
  refine wpAny_bind (wpAny_field hz rfl (x := .ref TO) rfl ?_)
  refine wpAny_bind (wpAny_setField_rec hz (by simp) fun ha za sa => ?_)
  replace za : IsZip ha z TI TO .ellipsis := za
  refine wpAny_bind ?_
  simp only [List.zipIdx_cons, List.zipIdx_nil, List.forIn_cons, List.forIn_nil]
  refine wpAny_bind (wpAny_bind (wpAny_onRaise ?_))
  show wpAny _ _ (Builtin.SmallTypes.nextOf (.ref i1) >>= _) _ _ _
  refine wpAny_bind (zs_item (p := p) (us := us) (ZS.st_at h1 fun o e => sa.extBut _ _ D.i1z e) (ZS.con_keep c1 (off z (.inl rfl)).1 sa.extBut) hx fun x hb tkb ix h1b sb => wpAny_pure ?_)
  have tob : IsPair hb TO a b := sb.extBut _ _ D.TOi1 (sa.extBut _ _ D.TOz hTO)
  refine wpAny_bind (wpAny_seqItems tob rfl ?_)
  refine wpAny_bind (wpAny_updateSeq_pair tob fun hc toc sc => ?_)
  replace toc : IsPair hc TO x b := toc
  refine wpAny_bind (wpAny_letGo (wpAny_pure ?_))
  refine wpAny_bind (wpAny_bind (wpAny_onRaise ?_))
  show wpAny _ _ (Builtin.SmallTypes.nextOf (.ref i2) >>= _) _ _ _
  refine wpAny_bind (zs_item (p := q) (us := vs) (ZS.st_at h2 fun o e => sc.extBut _ _ D.TOi2.symm (sb.extBut _ _ D.i12.symm (sa.extBut _ _ D.i2z e)))
    (ZS.con_keep (ZS.con_keep (ZS.con_keep c2 (off z (.inl rfl)).2 sa.extBut) (off i1 (.inr (.inr (.inl rfl)))).2 sb.extBut) (off TO (.inr (.inl rfl))).2 sc.extBut) hy fun y hd tkd iy h2d sd => wpAny_pure ?_)
  have tod : IsPair hd TO x b := sd.extBut _ _ D.TOi2 toc
  refine wpAny_bind (wpAny_seqItems tod rfl ?_)
  refine wpAny_bind (wpAny_updateSeq_pair tod fun he toe se => ?_)
  replace toe : IsPair he TO x y := toe
  refine wpAny_bind (wpAny_letGo (wpAny_pure (wpAny_pure ?_)))
  refine wpAny_bind (wpAny_seqItems toe rfl ?_)
  refine wpAny_bind (wpAny_newTuple ?_)
  have hsz : he.objs.size = s.heap.objs.size := by rw [se.1, sd.1, sc.1, sb.1, sa.1]
  have ze : IsZip he z TI TO .ellipsis := se.extBut _ _ D.TOz.symm (sd.extBut _ _ D.i2z.symm (sc.extBut _ _ D.TOz.symm (sb.extBut _ _ D.i1z.symm za)))
  have ke : ∀ c o, c ≠ z → c ≠ TO → c ≠ i1 → c ≠ i2 → s.heap.get? c = some o → he.get? c = some o := fun c o g1 g2 g3 g4 e =>
    se.extBut _ _ g2 (sd.extBut _ _ g4 (sc.extBut _ _ g2 (sb.extBut _ _ g3 (sa.extBut _ _ g1 e))))
  have h1e : p.st i1 (k + 1) he := ZS.st_at h1b fun o e => se.extBut _ _ D.TOi1.symm (sd.extBut _ _ D.i12 (sc.extBut _ _ D.TOi1.symm e))
  have h2e : q.st i2 (k + 1) he := ZS.st_at h2d fun o e => se.extBut _ _ D.TOi2.symm e
  have zlt : z < he.objs.size := Heap.lt_size ze
  show wpAny _ _ (Builtin.SmallTypes.ownedTupleHandOut (.ref z) (.ref he.objs.size) >>= _) _ _ _
  refine wpAny_bind ?_
  unfold Builtin.SmallTypes.ownedTupleHandOut
  have zf : IsZip (he.push { cls := .type "tuple", data := .seq #[x, y] }) z TI TO .ellipsis := Heap.get?_push_of_some _ ze
  refine wpAny_bind (wpAny_setField_rec zf (by simp) fun hg zg sg => ?_)
  replace zg : IsZip hg z TI TO (rawInt he.objs.size) := zg
  refine wpAny_setField_rec zg (by simp) fun hh zh sh => ?_
  replace zh : IsZip hh z TI TO (rawInt he.objs.size) := zh
  have up : ∀ c o, c ≠ z → he.get? c = some o → hh.get? c = some o := fun c o g e => sh.extBut _ _ g (sg.extBut _ _ g (Heap.get?_push_of_some _ e))
  have pT : IsPair hh he.objs.size x y := sh.extBut _ _ (Nat.ne_of_gt zlt) (sg.extBut _ _ (Nat.ne_of_gt zlt) (Heap.get?_push_size _ rfl))
  have sz : hh.objs.size = he.objs.size + 1 := by rw [sh.1, sg.1, Heap.size_push]
  rw [hsz] at zh pT sz
  refine wpAny_pure ⟨_, rfl, ?_⟩
  show Q (.ref he.objs.size) _
  rw [hsz]
  exact hQ x y hh tkd ix iy zh (up _ _ D.TOz toe) (ZS.st_at h1e fun o e => up _ o D.i1z e) (ZS.st_at h2e fun o e => up _ o D.i2z e) pT sz fun c o g1 g2 g3 g4 e => up c o g1 (ke c o g1 g2 g3 g4 e)
theorem zipn_end {z TI TO i1 i2 : Addr} {p q : ZS} {us vs : List Value} {k : Nat} {a b : Value} {Q : Fin → Shared → Prop} (hh : A.handled = none) (D : ZOff z TI TO i1 i2 p q) (off : ∀ c, c = z ∨ c = TO ∨ c = i1 ∨ c = i2 → p.off c ∧ q.off c)
    (hz : IsZip s.heap z TI TO .none) (hTI : IsPair s.heap TI (.ref i1) (.ref i2)) (hTO : IsPair s.heap TO a b)
    (h1 : p.st i1 k s.heap) (h2 : q.st i2 k s.heap) (c1 : p.con us s.heap) (c2 : q.con vs s.heap) (hend : p.len us ≤ k ∨ q.len vs ≤ k)
    (hE : ∀ h' e tk, (∀ c o, c ≠ z → c ≠ TO → c ≠ i1 → c ≠ i2 → s.heap.get? c = some o → h'.get? c = some o) → (∃ o, h'.get? e = some o ∧ o.cls = .type "StopIteration") → E (.ref e) { s with heap := h', toks := tk }) :
    wpAny (model prog w) A (Builtin.«zip.__next__» ⟨[.ref z], []⟩) Q E s := by
  show wpAny _ A (field (.ref z) 2 >>= _) _ E s
  refine wpAny_bind (wpAny_field hz rfl (x := .bool false) rfl ?_)
  show wpAny _ A (field (.ref z) 3 >>= _) _ E s
  refine wpAny_bind (wpAny_field hz rfl (x := .ref TI) rfl ?_)
  refine wpAny_bind (wpAny_seqItems hTI rfl ?_)
  show wpAny _ A (Builtin.SmallTypes.ownedTupleIsFree (.ref z) >>= _) _ E s
  refine wpAny_bind ?_
  unfold Builtin.SmallTypes.ownedTupleIsFree
  refine wpAny_bind (wpAny_field hz rfl (x := .none) rfl (wpAny_pure ?_))
  simp only [if_true]
  refine wpAny_bind (wpAny_rule ?_)
  refine wpAny_bind (wpAny_field hz rfl (x := .ref TO) rfl ?_)
  refine wpAny_bind (wpAny_setField_rec hz (by simp) fun ha za sa => ?_)
  replace za : IsZip ha z TI TO .ellipsis := za
  refine wpAny_bind ?_
  simp only [List.zipIdx_cons, List.zipIdx_nil, List.forIn_cons, List.forIn_nil]
  refine wpAny_bind (wpAny_bind (wpAny_onRaise ?_))
  show wpAny _ _ (Builtin.SmallTypes.nextOf (.ref i1) >>= _) _ _ _
  by_cases hx : p.len us ≤ k
  · refine wpAny_bind (zs_end (p := p) (us := us) hh (ZS.st_at h1 fun o e => sa.extBut _ _ D.i1z e) (ZS.con_keep c1 (off z (.inl rfl)).1 sa.extBut) hx fun hb e sb ⟨oe, goe, coe⟩ => ?_)
    have zb : IsZip hb z TI TO .ellipsis := sb _ _ D.i1z.symm za
    have hez : e ≠ z := fun g => by subst g; rw [zb] at goe; cases goe; simp at coe
    refine wpAny_setField_rec zb (by simp) fun hc _ sc => hE hc e _ (fun c o g1 _ g3 _ g => sc.extBut _ _ g1 (sb _ _ g3 (sa.extBut _ _ g1 g))) ⟨oe, sc.extBut _ _ hez goe, coe⟩
  · have hy : q.len vs ≤ k := hend.resolve_left hx
    refine wpAny_bind (zs_item (p := p) (us := us) (ZS.st_at h1 fun o e => sa.extBut _ _ D.i1z e) (ZS.con_keep c1 (off z (.inl rfl)).1 sa.extBut) (by omega) fun x hb tkb ix h1b sb => wpAny_pure ?_)
    have tob : IsPair hb TO a b := sb.extBut _ _ D.TOi1 (sa.extBut _ _ D.TOz hTO)
    refine wpAny_bind (wpAny_seqItems tob rfl ?_)
    refine wpAny_bind (wpAny_updateSeq_pair tob fun hc toc sc => ?_)
    refine wpAny_bind (wpAny_letGo (wpAny_pure ?_))
    refine wpAny_bind (wpAny_bind (wpAny_onRaise ?_))
    show wpAny _ _ (Builtin.SmallTypes.nextOf (.ref i2) >>= _) _ _ _
    refine wpAny_bind (zs_end (p := q) (us := vs) hh (ZS.st_at h2 fun o e => sc.extBut _ _ D.TOi2.symm (sb.extBut _ _ D.i12.symm (sa.extBut _ _ D.i2z e)))
      (ZS.con_keep (ZS.con_keep (ZS.con_keep c2 (off z (.inl rfl)).2 sa.extBut) (off i1 (.inr (.inr (.inl rfl)))).2 sb.extBut) (off TO (.inr (.inl rfl))).2 sc.extBut) hy fun hd e sd ⟨oe, goe, coe⟩ => ?_)
    have zd : IsZip hd z TI TO .ellipsis := sd _ _ D.i2z.symm (sc.extBut _ _ D.TOz.symm (sb.extBut _ _ D.i1z.symm za))
    have hez : e ≠ z := fun g => by subst g; rw [zd] at goe; cases goe; simp at coe
    refine wpAny_setField_rec zd (by simp) fun hc2 _ sc2 => hE hc2 e _ (fun c o g1 g2 g3 g4 g => sc2.extBut _ _ g1 (sd _ _ g4 (sc.extBut _ _ g2 (sb.extBut _ _ g3 (sa.extBut _ _ g1 g))))) ⟨oe, sc2.extBut _ _ hez goe, coe⟩
theorem next_zipn {z TI TO i1 i2 : Addr} {p q : ZS} {us vs : List Value} {k : Nat} {a b : Value} {Q : Option Value → Shared → Prop} (D : ZOff z TI TO i1 i2 p q) (off : ∀ c, c = z ∨ c = TO ∨ c = i1 ∨ c = i2 → p.off c ∧ q.off c)
    (hz : IsZip s.heap z TI TO .none) (hTI : IsPair s.heap TI (.ref i1) (.ref i2)) (hTO : IsPair s.heap TO a b)
    (h1 : p.st i1 k s.heap) (h2 : q.st i2 k s.heap) (c1 : p.con us s.heap) (c2 : q.con vs s.heap) (hx : k < p.len us) (hy : k < q.len vs)
    (hQ : ∀ x y h' tk, p.itm us k x → q.itm vs k y → IsZip h' z TI TO (rawInt s.heap.objs.size) → IsPair h' TO x y → p.st i1 (k + 1) h' → q.st i2 (k + 1) h' → IsPair h' s.heap.objs.size x y → h'.objs.size = s.heap.objs.size + 1 →
      (∀ c o, c ≠ z → c ≠ TO → c ≠ i1 → c ≠ i2 → s.heap.get? c = some o → h'.get? c = some o) → Q (some (.ref s.heap.objs.size)) { s with heap := h', toks := tk }) : wpAny (model prog w) A (pyNext (.ref z)) Q E s := by
  have hT : s.TypeIs (.ref z) "zip" := ⟨_, hz, rfl⟩
  unfold pyNext
  exact wpAny_bind (wpAny_attempt (wpAny_callSpecial?_slot (name := Str.ofString "__next__") hT PySem.F.slot_zip_next (wpAny_call_entry PySem.F.slot_zip_next hT PySem.F.entry_zip_next
      (zipn_item D off hz hTI hTO h1 h2 c1 c2 hx hy fun x y h' tk ix iy a1 a2 a3 a4 a5 a6 a7 => wpAny_pure (hQ x y h' tk ix iy a1 a2 a3 a4 a5 a6 a7)) (PySem.F.args_zip_next_1 _))))
theorem next_zipn_end {z TI TO i1 i2 : Addr} {p q : ZS} {us vs : List Value} {k : Nat} {a b : Value} {Q : Option Value → Shared → Prop} (hh : A.handled = none) (D : ZOff z TI TO i1 i2 p q) (off : ∀ c, c = z ∨ c = TO ∨ c = i1 ∨ c = i2 → p.off c ∧ q.off c)
    (hz : IsZip s.heap z TI TO .none) (hTI : IsPair s.heap TI (.ref i1) (.ref i2)) (hTO : IsPair s.heap TO a b)
    (h1 : p.st i1 k s.heap) (h2 : q.st i2 k s.heap) (c1 : p.con us s.heap) (c2 : q.con vs s.heap) (hend : p.len us ≤ k ∨ q.len vs ≤ k)
    (hQ : ∀ h' tk, (∀ c o, c ≠ z → c ≠ TO → c ≠ i1 → c ≠ i2 → s.heap.get? c = some o → h'.get? c = some o) → Q none { s with heap := h', toks := tk }) : wpAny (model prog w) A (pyNext (.ref z)) Q E s := by
  have hT : s.TypeIs (.ref z) "zip" := ⟨_, hz, rfl⟩
  unfold pyNext
  refine wpAny_bind (wpAny_attempt (wpAny_callSpecial?_slot (name := Str.ofString "__next__") hT PySem.F.slot_zip_next (wpAny_call_entry PySem.F.slot_zip_next hT PySem.F.entry_zip_next (zipn_end hh D off hz hTI hTO h1 h2 c1 c2 hend fun h' e tk hk ⟨o, ho, hc⟩ => ?_) (PySem.F.args_zip_next_1 _))))
  refine wpAny_bind (wpAny_isInstance (T := "StopIteration") (b := true) ⟨o, ho, hc⟩ isSubtype_stop ?_)
  exact wpAny_pure (hQ _ tk hk)
end
end L2

end
section
set_option maxHeartbeats 4000000
namespace L2
open PySem PySem.Spec PyProof.Rows
section
variable {prog : Program} {w : World} {A : Around} {E : Value → Shared → Prop} {s : Shared}
/-- iter(u) lays o -/
def Iters (prog : Program) (w : World) (s : Shared) (u : Value) (o : Obj) : Prop := ∀ (A : Around) (E : Value → Shared → Prop) (Q : Value → Shared → Prop), Q (.ref s.heap.objs.size) { s with heap := s.heap.push o } → wpAny (model prog w) A (pyIter u) Q E s
abbrev zipT2 (h : Heap) (o1 o2 : Obj) : Heap := (h.push o1).push o2
abbrev zipT3 (h : Heap) (o1 o2 : Obj) : Heap := (zipT2 h o1 o2).push { cls := .type "tuple", data := .seq #[.ref h.objs.size, .ref (h.push o1).objs.size] }
abbrev zipT4 (h : Heap) (o1 o2 : Obj) : Heap := (zipT3 h o1 o2).push { cls := .type "tuple", data := .seq #[.none, .none] }
abbrev zipT5 (h : Heap) (o1 o2 : Obj) : Heap := (zipT4 h o1 o2).push { cls := .type "zip", data := .fields #[.none, .bool false, .bool false, .ref (zipT2 h o1 o2).objs.size, .ref (zipT3 h o1 o2).objs.size] }
theorem zip_newn (u1 u2 : Value) (o1 o2 : Obj) : MeetsIn prog w (Builtin.«zip.__new__» ⟨[.type "zip", u1, u2], []⟩) (fun _ R s => Iters prog w s u1 o1 ∧ Iters prog w { s with heap := s.heap.push o1 } u2 o2 ∧ R (.ok (.ret (.ref (zipT4 s.heap o1 o2).objs.size))) { s with heap := zipT5 s.heap o1 o2 }) :=
  .of_wp fun A R s h => by
    obtain ⟨hp, g, d, tk, os⟩ := s
    obtain ⟨i1, i2, h⟩ := h
    have hsub := sub_zip
    have j1 : ∀ {A : Around} {E : Value → Shared → Prop} {Q : Value → Shared → Prop}, Q (.ref hp.objs.size) ⟨hp.push o1, g, d, tk, os⟩ → wpAny (model prog w) A (pyIter u1) Q E ⟨hp, g, d, tk, os⟩ := fun {A E Q} q => i1 A E Q q
    have j2 : ∀ {A : Around} {E : Value → Shared → Prop} {Q : Value → Shared → Prop}, Q (.ref (hp.push o1).objs.size) ⟨(hp.push o1).push o2, g, d, tk, os⟩ → wpAny (model prog w) A (pyIter u2) Q E ⟨hp.push o1, g, d, tk, os⟩ := fun {A E Q} q => i2 A E Q q
    wp_walk using j1, j2
    exact ⟨_, rfl, h⟩
theorem call_zipn {u1 u2 : Value} {o1 o2 : Obj} {Q : Value → Shared → Prop} (i1 : Iters prog w s u1 o1) (i2 : Iters prog w { s with heap := s.heap.push o1 } u2 o2) (f1 : o1.isFreed = false) (f2 : o2.isFreed = false)
    (h : ∀ h', IsZip h' (s.heap.objs.size + 4) (s.heap.objs.size + 2) (s.heap.objs.size + 3) .none → IsPair h' (s.heap.objs.size + 2) (.ref s.heap.objs.size) (.ref (s.heap.objs.size + 1)) →
      IsPair h' (s.heap.objs.size + 3) .none .none → h'.get? s.heap.objs.size = some o1 → h'.get? (s.heap.objs.size + 1) = some o2 →
      (∀ c o, s.heap.get? c = some o → h'.get? c = some o) → Q (.ref (s.heap.objs.size + 4)) { s with heap := h' }) : wpAny (model prog w) A (call (.type "zip") [u1, u2]) Q E s := by
  refine callType_newIn PySem.F.called_zip (by decide) (PySem.F.typeCall_zip_2 _ _) (PySem.F.newCall_zip_2 _ _) (fun obj => PySem.F.args_object_init_3 obj _ _) PySem.F.entry_zip_new (zip_newn u1 u2 o1 o2) ⟨i1, i2, ?_⟩
  have z1 : (s.heap.push o1).objs.size = s.heap.objs.size + 1 := Heap.size_push ..
  have z2 : (zipT2 s.heap o1 o2).objs.size = s.heap.objs.size + 2 := by rw [Heap.size_push, z1]
  have z3 : (zipT3 s.heap o1 o2).objs.size = s.heap.objs.size + 3 := by rw [Heap.size_push, z2]
  have z4 : (zipT4 s.heap o1 o2).objs.size = s.heap.objs.size + 4 := by rw [Heap.size_push, z3]
  have g5 : (zipT5 s.heap o1 o2).get? (zipT4 s.heap o1 o2).objs.size = some _ := Heap.get?_push_size _ rfl
  have g4 : (zipT5 s.heap o1 o2).get? (zipT3 s.heap o1 o2).objs.size = some _ := Heap.get?_push_of_some _ (Heap.get?_push_size _ rfl)
  have g3 : (zipT5 s.heap o1 o2).get? (zipT2 s.heap o1 o2).objs.size = some _ := Heap.get?_push_of_some _ (Heap.get?_push_of_some _ (Heap.get?_push_size _ rfl))
  have g2 : (zipT5 s.heap o1 o2).get? (s.heap.push o1).objs.size = some o2 := Heap.get?_push_of_some _ (Heap.get?_push_of_some _ (Heap.get?_push_of_some _ (Heap.get?_push_size _ f2)))
  have g1 : (zipT5 s.heap o1 o2).get? s.heap.objs.size = some o1 := Heap.get?_push_of_some _ (Heap.get?_push_of_some _ (Heap.get?_push_of_some _ (Heap.get?_push_of_some _ (Heap.get?_push_size _ f1))))
  show _ ∧ _
  rw [z2, z3, z4] at g5
  rw [z1, z2] at g3
  rw [z3] at g4
  rw [z1] at g2
  rw [z4]
  exact ⟨⟨_, g5, rfl⟩, h _ g5 g3 g4 g1 g2 fun c o x => Heap.get?_push_of_some _ (Heap.get?_push_of_some _ (Heap.get?_push_of_some _ (Heap.get?_push_of_some _ (Heap.get?_push_of_some _ x))))⟩
theorem zs_iters {p : ZS} {u : Value} {us : List Value} (r : RelV p.val u) (c : p.con us s.heap) : ∃ o : Obj, o.isFreed = false ∧ Iters prog w s u o ∧ ∀ (h' : Heap) (i : Addr), h'.get? i = some o → p.st i 0 h' := by
  cases p with
  | L a =>
    cases r
    exact ⟨{ cls := .type "list_iterator", data := .fields #[.ref a, .int 0 0] }, rfl, fun A E Q q => wpAny_pyIter_list c q, fun h' i e => ⟨_, e, rfl, rfl⟩⟩
  | T a =>
    cases r
    exact ⟨{ cls := .type "tuple_iterator", data := .fields #[.ref a, .int 0 0] }, rfl, fun A E Q q => wpAny_pyIter_tuple c q, fun h' i e => ⟨_, e, rfl, rfl⟩⟩
  | S x =>
    obtain ⟨t, rfl⟩ := r
    cases ha : x.cps.all (· < 128)
    · exact ⟨{ cls := .type "str_iterator", data := .fields #[.str x t, .int 0 0] }, rfl, fun A E Q q => wpAny_pyIter_wide ha q, fun h' i e => ⟨_, t, .inr rfl, _, e, rfl, rfl⟩⟩
    · exact ⟨{ cls := .type "str_ascii_iterator", data := .fields #[.str x t, .int 0 0] }, rfl, fun A E Q q => wpAny_pyIter_ascii ha q, fun h' i e => ⟨_, t, .inl rfl, _, e, rfl, rfl⟩⟩
end
/-- the things at p and q as they stand at each turn, the items in new pairs -/
def Itzn (K : PySem.W.Frag) (p q : ZS) : It :=
  ⟨fun i H => ∃ (xs ys : List V) (x y : V), p.rd K H xs ∧ q.rd K H ys ∧ xs[i]? = some x ∧ ys[i]? = some y,
    fun i H v H' => ∃ T x y, v = .ref T ∧ H T = none ∧ H' = upd H T (.tup [x, y]) ∧ (∀ xs, p.rd K H xs → xs[i]? = some x) ∧ ∀ ys, q.rd K H ys → ys[i]? = some y,
    fun i H => ∃ xs ys : List V, p.rd K H xs ∧ q.rd K H ys ∧ (xs.length ≤ i ∨ ys.length ≤ i)⟩
section
variable {X : Cx} {pins : List (Addr × Obj)} {σ : St} {H : Hp} {s : Shared}
theorem Inv.zs (I : Inv X pins σ H s) {p : ZS} {xs : List V} (r : p.rd X.K H xs) : ∃ us : List Value, p.con us s.heap ∧ p.len us = xs.length ∧ (∀ k u, p.itm us k u → ∃ x, xs[k]? = some x ∧ RelV x u) ∧ (∀ b : Addr, s.heap.objs.size ≤ b → p.off b) := by
  cases p with
  | L a =>
    obtain ⟨its, rv, pl, _⟩ := I.list r
    refine ⟨its, pl.isList, rv.length.symm, fun k u e => ?_, fun b hb z => ?_⟩
    · have hk : k < xs.length := by
        have := (List.getElem?_eq_some_iff.mp e).1
        rw [rv.length]; exact this
      obtain ⟨u', e', r'⟩ := rv.get (List.getElem?_eq_getElem hk)
      rw [show its[k]? = some u from e] at e'
      cases e'
      exact ⟨_, List.getElem?_eq_getElem hk, r'⟩
    · have := pl.lt
      rw [z] at this
      exact absurd this (Nat.not_lt.mpr hb)
  | T a =>
    obtain ⟨its, rv, pl, _⟩ := I.tuple r
    refine ⟨its, pl, rv.length.symm, fun k u e => ?_, fun b hb z => ?_⟩
    · have hk : k < xs.length := by
        have := (List.getElem?_eq_some_iff.mp e).1
        rw [rv.length]; exact this
      obtain ⟨u', e', r'⟩ := rv.get (List.getElem?_eq_getElem hk)
      rw [show its[k]? = some u from e] at e'
      cases e'
      exact ⟨_, List.getElem?_eq_getElem hk, r'⟩
    · obtain ⟨o, ho, _⟩ := pl
      have := Heap.lt_size ho
      rw [z] at this
      exact absurd this (Nat.not_lt.mpr hb)
  | S x =>
    have r : xs = signs x := r
    refine ⟨[], trivial, ?_, fun k u e => ?_, fun b hb => trivial⟩
    · rw [r]; unfold signs; rw [List.length_map]; rfl
    · obtain ⟨c, t, e, rfl⟩ := e
      refine ⟨.str ⟨#[c]⟩, ?_, ⟨t, rfl⟩⟩
      rw [r]; unfold signs
      rw [List.getElem?_map]
      rw [Array.getElem?_toList, e]
      rfl
end
end L2

end
section
set_option maxHeartbeats 4000000
namespace L2
open PySem PySem.Spec PyProof.Rows
theorem Inv.zs_inj {X : Cx} {pins : List (Addr × Obj)} {σ : St} {H : Hp} {s : Shared} (I : Inv X pins σ H s) {p : ZS} {xs ys : List V} (h1 : p.rd X.K H xs) (h2 : p.rd X.K H ys) : xs = ys := by
  cases p with
  | L a => exact I.list_inj h1 h2
  | T a => exact I.tuple_inj h1 h2
  | S x => exact Eq.trans (show xs = signs x from h1) (show ys = signs x from h2).symm
theorem turn_zipn {P : Program} {w : World} {K : PySem.W.Frag} {elts : List Expr} {kk : Nat} {tpos : Pos} {p q : ZS} {z TI TO i1 i2 : Addr} (D : ZOff z TI TO i1 i2 p q) (off : ∀ c, c = z ∨ c = TO ∨ c = i1 ∨ c = i2 → p.off c ∧ q.off c) :
    Turn P w K (.Tuple elts kk tpos) (Itzn K p q) [z, TI, TO, i1, i2] z (fun i h => IsZip h z TI TO .none ∧ IsPair h TI (.ref i1) (.ref i2) ∧ (∃ x y, IsPair h TO x y) ∧ p.st i1 i h ∧ q.st i2 i h) where
  mem := by simp
  obj := fun i h st c hc => by
    obtain ⟨hz, hTI, ⟨x, y, hTO⟩, h1, h2⟩ := st
    have e' : c = z ∨ c = TI ∨ c = TO ∨ c = i1 ∨ c = i2 := by simpa using hc
    rcases e' with g | g | g | g | g
    · rw [g]; exact ⟨_, hz, fun v q => nomatch q⟩
    · rw [g]; exact ⟨_, hTI, fun v q => nomatch q⟩
    · rw [g]; exact ⟨_, hTO, fun v q => nomatch q⟩
    · rw [g]; exact ZS.st_obj h1
    · rw [g]; exact ZS.st_obj h2
  keep := fun i h h' st k => by
    obtain ⟨hz, hTI, ⟨x, y, hTO⟩, h1, h2⟩ := st
    exact ⟨k z (by simp) _ hz, k TI (by simp) _ hTI, ⟨x, y, k TO (by simp) _ hTO⟩, ZS.st_at h1 fun o g => k i1 (by simp) o g, ZS.st_at h2 fun o g => k i2 (by simp) o g⟩
  item := by
    intro X hP hw hK hc i pins s σ H E I hf st hg
    subst hP hw hK
    obtain ⟨hz, hTI, ⟨x0, y0, hTO⟩, h1, h2⟩ := st
    obtain ⟨xs, ys, x, y, hqx, hqy, hx, hy⟩ := hg
    obtain ⟨us, c1, l1, m1, _⟩ := I.zs hqx
    obtain ⟨vs, c2, l2, m2, _⟩ := I.zs hqy
    have lx := (List.getElem?_eq_some_iff.mp hx).1
    have ly := (List.getElem?_eq_some_iff.mp hy).1
    have hzl : z < s.heap.objs.size := Heap.lt_size hz
    refine next_zipn D off hz hTI hTO h1 h2 c1 c2 (by omega) (by omega) fun u u2 h' tk iu iu2 z' TO' h1' h2' hT hsz hk => ?_
    obtain ⟨x', ex, ru⟩ := m1 _ _ iu
    obtain ⟨y', ey, ru2⟩ := m2 _ _ iu2
    rw [hx] at ex
    cases ex
    rw [hy] at ey
    cases ey
    refine ⟨_, rfl, wpAny_letOwnedTupleGo_zip (s := { s with heap := h', toks := tk }) z' fun h'' z'' sb => ?_⟩
    have hT2 : h''.get? s.heap.objs.size = some { cls := .type "tuple", data := .seq #[u, u2] } := (sb.2 _ (Nat.ne_of_gt hzl)).trans hT
    have new : ObjOk X.prog X.w (upd H s.heap.objs.size (.tup [x, y])) h'' s.heap.objs.size (.tup [x, y]) :=
      ⟨by show 2 ≤ sizeLine; decide, [u, u2], .cons ru (.cons ru2 .nil), ⟨_, hT2, rfl, _, rfl⟩⟩
    have I1 : Inv X pins σ (upd H s.heap.objs.size (.tup [x, y])) { s with heap := h'', toks := tk } :=
      I.turnedNew (t' := tk) (ch := [z, TI, TO, i1, i2]) (fun c o hb g => (sb.2 c (fun g' => hb (by simp [g']))).trans (hk c o (fun g' => hb (by simp [g'])) (fun g' => hb (by simp [g'])) (fun g' => hb (by simp [g'])) (fun g' => hb (by simp [g'])) g)) hf (Nat.le_refl _) new
    refine ⟨.ref s.heap.objs.size, _, I1, rfl, ⟨_, x, y, rfl, I.hok.fresh (Nat.le_refl _), rfl, fun l hl => by rw [I.zs_inj hl hqx]; exact hx, fun l hl => by rw [I.zs_inj hl hqy]; exact hy⟩, ⟨z'', ?_, ⟨u, u2, ?_⟩, ?_, ?_⟩, fun c hcm => ?_⟩
    · exact (sb.2 _ D.TIz).trans (hk _ _ D.TIz D.TITO D.TIi1 D.TIi2 hTI)
    · exact (sb.2 _ D.TOz).trans TO'
    · exact ZS.st_at h1' fun o g => (sb.2 _ D.i1z).trans g
    · exact ZS.st_at h2' fun o g => (sb.2 _ D.i2z).trans g
    · have hlt : c < s.heap.objs.size := by
        have e' : c = z ∨ c = TI ∨ c = TO ∨ c = i1 ∨ c = i2 := by simpa using hcm
        rcases e' with g | g | g | g | g
        · rw [g]; exact hzl
        · rw [g]; exact Heap.lt_size hTI
        · rw [g]; exact Heap.lt_size hTO
        · rw [g]; exact ZS.st_lt h1
        · rw [g]; exact ZS.st_lt h2
      rw [upd_ne (Nat.ne_of_lt hlt)]
      exact (hf c hcm).1
  done := by
    intro X hP hw hK hc i pins s σ H E I hf st hg
    subst hP hw hK
    obtain ⟨hz, hTI, ⟨x0, y0, hTO⟩, h1, h2⟩ := st
    obtain ⟨xs, ys, hqx, hqy, hend⟩ := hg
    obtain ⟨us, c1, l1, _⟩ := I.zs hqx
    obtain ⟨vs, c2, l2, _⟩ := I.zs hqy
    exact next_zipn_end (I.ok.hd hc) D off hz hTI hTO h1 h2 c1 c2 (by omega) fun h' tk hk => ⟨rfl, I.turnedL (t' := tk) (ch := [z, TI, TO, i1, i2]) (fun c o hb g =>
      hk c o (fun g' => hb (by simp [g'])) (fun g' => hb (by simp [g'])) (fun g' => hb (by simp [g'])) (fun g' => hb (by simp [g'])) g) hf⟩
  self := fun A i s Q E st h => wpAny_pyIter_zip st.1 h
theorem zoff_new (n : Nat) (p q : ZS) : ZOff (n + 4) (n + 2) (n + 3) n (n + 1) p q :=
  have e : ∀ {a b : Nat}, a ≠ b → (a : Addr) ≠ b := fun h => h
  ⟨e (by omega), e (by omega), e (by omega), e (by omega), e (by omega), e (by omega), e (by omega), e (by omega), e (by omega), e (by omega)⟩
def iZipn (K : PySem.W.Frag) (ta : TA) : TI := fun σ H R => ta σ H fun vs H1 => ∃ (p q : ZS) (xs ys : List V), vs = [p.val, q.val] ∧ p.rd K H1 xs ∧ q.rd K H1 ys ∧ R (Itzn K p q) H1
theorem pi_zipn {X : Cx} {e e2 : Expr} {ta : TA} {p pos tpos : Pos} {elts : List Expr} {kk : Nat} (hg : Gl X "zip") (hm : X.mg "zip" = none) (ha : PA X [e, e2] ta)
    (hs : starEach [e, e2] X.env = (false, eval e X.env) :: starEach [e2] X.env := by rfl) (hpl : (backTo pos (starEach [e2] X.env)).any (·.1) = false := by rfl) :
    PI X (.Tuple elts kk tpos) (.Call (.Name "zip" p) [e, e2] [] pos) (iZipn X.K ta) := by
  intro pins s σ H R I h
  refine Call_ (ld_blt I hg hm boot_zip5 (PyProof.Rows.callWith_type1 (thn (ha pos pins s σ H _ I h) fun us s1 ⟨vs, H1, I1, r1, q1⟩ => ?_) hs hpl))
  obtain ⟨a, b, xs, ys, ex, hqx, hqy, q⟩ := q1
  subst ex
  cases r1 with
  | cons r rr =>
    cases rr with
    | cons r' rr =>
      cases rr
      obtain ⟨us, c1, l1, m1, o1⟩ := I1.zs hqx
      obtain ⟨vs, c2, l2, m2, o2⟩ := I1.zs hqy
      obtain ⟨ob1, fr1, it1, st1⟩ := zs_iters (prog := X.prog) (w := X.w) (s := s1) r c1
      have c2' : b.con vs (s1.heap.push ob1) := by
        cases b with
        | L a => exact Heap.IsList.push c2 _
        | T a => exact Heap.IsTuple.push c2 _
        | S x => trivial
      obtain ⟨ob2, fr2, it2, st2⟩ := zs_iters (prog := X.prog) (w := X.w) (s := { s1 with heap := s1.heap.push ob1 }) r' c2'
      refine call_zipn it1 it2 fr1 fr2 fun h' hz hTI hTO h1 h2 hk => wpAny_pyIter_zip hz ?_
      have I2 : Inv X pins σ H1 { s1 with heap := h' } := I1.kept (t' := s1.toks) hk
      refine ⟨s1.heap.objs.size + 4, [s1.heap.objs.size + 4, s1.heap.objs.size + 2, s1.heap.objs.size + 3, s1.heap.objs.size, s1.heap.objs.size + 1], _, _, H1, rfl, I2, turn_zipn (p := a) (q := b) (zoff_new _ a b) (fun c hc => ?_), ⟨hz, hTI, ⟨_, _, hTO⟩, st1 _ _ h1, st2 _ _ h2⟩, fun c hcm => ?_, q⟩
      · have : s1.heap.objs.size ≤ c := by
          rcases hc with z | z | z | z <;> (rw [z]; first | exact Nat.le_refl _ | exact Nat.le_add_right _ _)
        exact ⟨o1 c this, o2 c this⟩
      · have e' : c = s1.heap.objs.size + 4 ∨ c = s1.heap.objs.size + 2 ∨ c = s1.heap.objs.size + 3 ∨ c = s1.heap.objs.size ∨ c = s1.heap.objs.size + 1 := by simpa using hcm
        have hle : s1.heap.objs.size ≤ c := by
          rcases e' with z | z | z | z | z <;> (rw [z]; first | exact Nat.le_refl _ | exact Nat.le_add_right _ _)
        exact I1.fpOk hle (I1.hok.fresh hle)
/-! ### loops and comprehensions over anything that turns n times -/
theorem for_it {J : It} {n : Nat} {g : TG} {tb : TS} {D : Ends} {σ : St} {H : Hp} (Pv : Nat → St → Hp → Prop) (h0 : Pv 0 σ H)
    (hs : ∀ i σ H, i < n → Pv i σ H → J.go i H ∧ ∀ x H', J.yld i H x H' → g x σ H' fun σ2 H2 => tb { D with nx := Pv (i + 1), ct := Pv (i + 1), bk := D.nx } σ2 H2) (hd : ∀ σ H, Pv n σ H → J.stop n H ∧ D.nx σ H) :
    ∃ W : Nat → Nat → St → Hp → Prop, (∃ m, W 0 m σ H) ∧ ∀ i m σ H, W i m σ H →
      (J.stop i H ∧ D.nx σ H) ∨ (J.go i H ∧ ∃ N : St → Hp → Prop, (∀ σ' H', N σ' H' → ∃ m', m' < m ∧ W (i + 1) m' σ' H') ∧ ∀ x H', J.yld i H x H' → g x σ H' fun σ2 H2 => tb { D with nx := N, ct := N, bk := D.nx } σ2 H2) := by
  refine ⟨fun i m σ H => m = n - i ∧ i ≤ n ∧ Pv i σ H, ⟨n, by simp, Nat.zero_le _, h0⟩, ?_⟩
  rintro i m σ H ⟨rfl, hi, p⟩
  by_cases hlt : i < n
  · obtain ⟨a, b⟩ := hs i σ H hlt p
    exact .inr ⟨a, Pv (i + 1), fun σ' H' p' => ⟨n - (i + 1), by omega, rfl, hlt, p'⟩, b⟩
  · have e : i = n := by omega
    subst e
    exact .inl (hd σ H p)
theorem lc_it {J : It} {n : Nat} {g : TG} {tt : TT} {te : TE} {vs : List Nat} {σ : St} {H1 : Hp} {D : Addr} {Qd : Hp → Prop} (Pv : Nat → Hp → Prop) (h0 : Pv 0 (upd H1 D (.lst [])))
    (hs : ∀ i H, i < n → Pv i H → J.go i H ∧ ∀ x H', J.yld i H x H' → g x (wipe σ vs) H' fun σ2 H2 => wipe σ2 vs = wipe σ vs ∧ tt σ2 H2 fun b H3 =>
      if b = true then te σ2 H3 fun y H4 => ∃ acc, H4 D = some (.lst acc) ∧ acc.length < sizeLine ∧ Pv (i + 1) (upd H4 D (.lst (acc ++ [y]))) else Pv (i + 1) H3) (hd : ∀ H, Pv n H → J.stop n H ∧ Qd H) :
    ∃ W : Nat → Nat → Hp → Prop, (∃ m, W 0 m (upd H1 D (.lst []))) ∧ ∀ i m H, W i m H →
      (J.stop i H ∧ Qd H) ∨ (J.go i H ∧ ∃ Nx : Hp → Prop, (∀ H', Nx H' → ∃ m', m' < m ∧ W (i + 1) m' H') ∧ ∀ x H', J.yld i H x H' → g x (wipe σ vs) H' fun σ2 H2 => wipe σ2 vs = wipe σ vs ∧ tt σ2 H2 fun b H3 =>
        if b = true then te σ2 H3 fun y H4 => ∃ acc, H4 D = some (.lst acc) ∧ acc.length < sizeLine ∧ Nx (upd H4 D (.lst (acc ++ [y]))) else Nx H3) := by
  refine ⟨fun i m H => m = n - i ∧ i ≤ n ∧ Pv i H, ⟨n, by simp, Nat.zero_le _, h0⟩, ?_⟩
  rintro i m H ⟨rfl, hi, p⟩
  by_cases hlt : i < n
  · obtain ⟨a, b⟩ := hs i H hlt p
    exact .inr ⟨a, Pv (i + 1), fun H' p' => ⟨n - (i + 1), by omega, rfl, hlt, p'⟩, b⟩
  · have e : i = n := by omega
    subst e
    exact .inl (hd H p)
end L2

end
section
set_option maxHeartbeats 4000000
namespace L2
open PySem PySem.Spec PyProof.Rows
/-! ### pairs of numbers -/
abbrev C2 := Int × Int
def Pr (_K : PySem.W.Frag) (H : Hp) (v : V) (c : C2) : Prop := ∃ p, v = .ref p ∧ H p = some (.tup [.int c.1, .int c.2])
abbrev Prs (K : PySem.W.Frag) (H : Hp) : List V → List C2 → Prop := Paired (Pr K H)
/-- a list of pairs -/
def PL (K : PySem.W.Frag) (H : Hp) (l : Addr) (cs : List C2) : Prop := ∃ xs, H l = some (.lst xs) ∧ Prs K H xs cs

/-- the pair at a value, as the heap has it -/
def prOf (h : Heap) : Value → Option C2
  | .ref a => match h.get? a with
    | some o => match o.data with
      | .seq its _ => match its.toList with
        | [.int i _, .int j _] => some (i, j)
        | _ => none
      | _ => none
    | none => none
  | _ => none
section
variable {X : Cx} {pins : List (Addr × Obj)} {σ : St} {H : Hp} {s : Shared}
def prEq (h : Heap) (c : C2) (u : Value) : Bool := decide (prOf h u = some c)
end
section
variable {X : Cx}
def rInP (K : PySem.W.Frag) (neg : Bool) : R2 := fun x y H Q => ∃ p xs c cs, y = .ref p ∧ (SqL K H p xs ∨ SqT K H p xs) ∧ Pr K H x c ∧ Prs K H xs cs ∧ Q (.bl (if neg then !decide (c ∈ cs) else decide (c ∈ cs))) H
def rCountP (K : PySem.W.Frag) : V → List V → Hp → VK → Prop := fun x xs H Q => ∃ (a : Addr) (ys : List V) (y : V) (c : C2) (cs : List C2), x = V.ref a ∧ xs = [y] ∧ SqL K H a ys ∧ Prs K H ys cs ∧ Pr K H y c ∧ Q (.int (cs.count c : Nat)) H
end
end L2

end
section
set_option maxHeartbeats 4000000
namespace L2
open PySem PySem.Spec PyProof.Rows
/-! ### sorted(a list of pairs) -/
def plt (a b : C2) : Bool := decide (a.1 < b.1 ∨ (a.1 = b.1 ∧ a.2 < b.2))
def Rising (cs : List C2) : Prop := cs.Pairwise fun a b => plt b a = false
def sh0 : Nat → Bool := fun _ => false
def unref : Value → Addr
  | .ref a => a
  | _ => 0
section
variable {X : Cx}
def rSortedP (K : PySem.W.Frag) : List V → Hp → VK → Prop := fun vs H Q => ∃ (a : Addr) (xs : List V) (cs : List C2), vs = [V.ref a] ∧ SqL K H a xs ∧ Prs K H xs cs ∧
  ∀ (xs' : List V) (cs' : List C2) (l : Addr), Prs K H xs' cs' → cs'.Perm cs → Rising cs' → H l = none → Q (.ref l) (upd H l (.lst xs'))
end
end L2

end
section
set_option maxHeartbeats 4000000
namespace L2
open PySem PySem.Spec PyProof.Rows
/-! ### texts of w and f -/
def cw (b : Bool) : Nat := if b then 119 else 102
def stS (l : List Bool) : Str := ⟨(l.map cw).toArray⟩
/-- a stair -/
structure Stair (l : List Bool) : Prop where
  w1 : 1 ≤ l.count true
  w8 : l.count true ≤ 8
  f1 : 1 ≤ l.count false
  f8 : l.count false ≤ 8
end L2

end
section
set_option maxHeartbeats 4000000
namespace L2
open PySem PySem.Spec PyProof.Rows
/-! ### corners and squares, pushed -/
def step (p : C2) (b : Bool) : C2 := if b then (p.1, p.2 - 1) else (p.1 + 1, p.2)
def go (p : C2) : List Bool → C2
  | [] => p
  | b :: r => go (step p b) r
def pre (p : C2) : List Bool → List C2
  | [] => []
  | b :: r => p :: pre (step p b) r
def cor (p : C2) (l : List Bool) : List C2 := pre p l ++ [go p l]
def row (p : C2) : List C2 := (List.range p.1.toNat).map fun k => ((1 : Int) + (k : Nat), p.2)
def sq (p : C2) : List Bool → List C2
  | [] => []
  | b :: r => (if b then row p else []) ++ sq (step p b) r
end L2

end
section
set_option maxHeartbeats 4000000
namespace L2
open PySem PySem.Spec PyProof.Rows
section
variable {K : PySem.W.Frag}
/-- all but d stands, new things may have come -/
def Ext (d : Addr) (H H' : Hp) : Prop := ∀ b o, b ≠ d → H b = some o → H' b = some o
theorem Ext.refl (d : Addr) (H : Hp) : Ext d H H := fun _ _ _ h => h
theorem Ext.trans {d : Addr} {H H1 H2 : Hp} (a : Ext d H H1) (b : Ext d H1 H2) : Ext d H H2 := fun c o n h => b c o n (a c o n h)
theorem Ext.but {d : Addr} {H H' : Hp} (h : But d H H') : Ext d H H' := fun b o n e => by rw [h b n]; exact e
theorem Ext.same {d : Addr} {H H' : Hp} (h : Same H H') : Ext d H H' := fun b o _ e => h b o e
theorem Ext.new {d a : Addr} {H H' : Hp} {o : HO} (h : Ext d H H') (n : H' a = none) : Ext d H (upd H' a o) := fun b u nb e => by
  have := h b u nb e
  rw [upd_ne (ne_of_none this n)]
  exact this
theorem Same.new' {H H' : Hp} {a : Addr} {o : HO} (h : Same H H') (n : H' a = none) : Same H (upd H' a o) := fun b u e => by
  have := h b u e
  rw [upd_ne (ne_of_none this n)]
  exact this
/-- a list that stands apart from d -/
theorem Ext.list {d a : Addr} {H H' : Hp} {xs : List V} (h : Ext d H H') (n : a ≠ d) (e : SqL K H a xs) : SqL K H' a xs := by
  rcases e with (e | ⟨o, e⟩) | e
  · exact .inl (.inl (h _ _ n e))
  · exact .inl (.inr ⟨o, h _ _ n e⟩)
  · exact .inr e
theorem log_small {n : Nat} (h : n < 1000) : (n : Int).natAbs.log2 < 1000 := by
  have e : (n : Int).natAbs = n := rfl
  rw [e]
  by_cases h0 : n = 0
  · subst h0; decide
  · exact (Nat.log2_lt h0).mpr (Nat.lt_of_lt_of_le h (Nat.le_of_lt (Nat.lt_two_pow_self)))
/-- a corner between two unlike cells -/
def Good (l : List Bool) (c : Nat) : Prop := ∃ (a b : List Bool) (x : Bool), l = a ++ x :: (!x) :: b ∧ c = a.length + 1
abbrev dC (c : C2) : PyData := .tuple [.int c.1, .int c.2]
end
end L2

end
section
set_option maxHeartbeats 4000000
namespace L2
open PySem PySem.Spec PyProof.Rows
/-! ### exceptions whose class has an __init__ of its own -/
def excInI (K : PySem.W.Frag) (C : Addr) (bmB : List Value) (newId : String) : Bool := match K.lookup C with
  | some ⟨.type "type", _, .cls cd, sl⟩ => (match cd.mro, sl.toList with
    | .ref C' :: bm, [_, _, _, _, some (.builtin n), _] => C' == C && n == newId && !cd.hasDel && PySem.W.tailIn K bmB bm
    | _, _ => false)
  | _ => false
theorem exc_objI {K : PySem.W.Frag} {h : Heap} {C : Addr} {bmB : List Value} {newId : String} (X : K.In h) (q : excInI K C bmB newId = true) :
    ∃ bm N nm qn bs hdct sn sub ab col dd k0 k1 k2 k3 k5, h.get? C = some (excClassObj nm qn C N bs bm hdct sn sub ab col dd k0 k1 k2 k3 k5 newId) ∧ OwnTail h bmB bm := by
  unfold excInI at q
  split at q
  · rename_i dd cd sl ho
    split at q
    · rename_i C2 bm k0 k1 k2 k3 n k5 hm hs
      simp only [Bool.and_eq_true, beq_iff_eq, Bool.not_eq_true'] at q
      obtain ⟨⟨⟨rfl, rfl⟩, hdel⟩, ht⟩ := q
      obtain ⟨nm, bs, mro, ns, qn, hd, sn, sub, ab, col, del⟩ := cd
      dsimp only at hm hdel
      subst hm hdel
      have hsl : sl = #[k0, k1, k2, k3, some (.builtin n), k5] := by
        obtain ⟨l⟩ := sl
        simp only at hs
        rw [hs]
      subst hsl
      exact ⟨bm, ns, nm, qn, bs, hd, sn, sub, ab, col, dd, k0, k1, k2, k3, k5, X _ _ ho, PySem.W.tail_of_in X ht⟩
    · cases q
  · cases q
section
variable {prog : Program} {w : World} {A : Around} {E : Value → Shared → Prop} {h : Heap} {g : Array GenState} {d : Drawn} {t : Nat} {os : OsState} {K : PySem.W.Frag}
variable {nm q : Str} {C N f : Addr} {bs bm bmB : List Value} {hdct : Bool} {sn : List Str} {sub : List Value} {ab : Bool} {col : Option Bool} {dd : Option Addr} {k0 k1 k2 k3 k5 : Option Value} {B newId initId : String}
abbrev excH (h : Heap) (C : Addr) (rest : List Value) : Heap := (h.push { cls := .type "tuple", data := .seq rest.toArray }).push { cls := .ref C, data := .fields #[.ref h.objs.size, .none, .none, .none, .bool false, .none] }
theorem tcall_excI (F : ExcBaseFacts B newId initId bmB) (T : OwnTail h bmB bm) {rest : List Value} {Q : Fin → Shared → Prop} (X : K.In h)
    (hC : h.get? C = some (excClassObj nm q C N bs bm hdct sn sub ab col dd k0 k1 k2 k3 k5 newId)) (hi : PySem.W.findIn K (.ref C) "__init__" = some (some (.ref f))) (hf : PySem.W.typeIn K (.ref f) = some (.type "function"))
    (k : codeAny (model prog w) A (.call (.ref f) ⟨.ref (h.objs.size + 1) :: rest, []⟩) (fun r s' => match r with | .ok (.ret v) => v = .none ∧ Q (.done (.ret (.ref (h.objs.size + 1)))) s' | .ok _ => False | .error e => E e s') ⟨excH h C rest, g, d, t, os⟩) (hrest : rest.length ≤ sizeLine) :
    wpAny (model prog w) A (Builtin.«type.__call__» ⟨.ref C :: rest, []⟩) Q E ⟨h, g, d, t, os⟩ := by
  repeat (first | with_reducible refine wpAny_loadPart_at hC ?_ | with_reducible refine wpAny_madeBy_exc hC ?_ | wp_step)
  refine codeAny_call_builtin_code (Code.quiet_builtin _ F.quiet) (wpAny_check_new_subT F T hC ?_)
  refine codeAny_exc_new_subT F T hC ?_ hrest
  show wpAny _ _ _ _ _ _
  have kp : ∀ b o, h.get? b = some o → (excH h C rest).get? b = some o := fun b o e => Heap.get?_push_of_some _ (Heap.get?_push_of_some _ e)
  have hC1 := kp _ _ hC
  have hge : (excH h C rest).get? (h.objs.size + 1) = some { cls := .ref C, data := .fields #[.ref h.objs.size, .none, .none, .none, .bool false, .none] } := by heap_get
  have hcC : (Value.ref C :: bm).contains (.ref C) = true := by simp
  unfold isInstance
  repeat (first | with_reducible refine wpAny_loadPart_at hge ?_ | (with_reducible refine wpAny_isSubtype_exc hC1 ?_; rw [hcC]) | wp_step)
  show wpAny _ _ (typeLookup (.ref C) _) _ _ _
  have X1 : K.In (excH h C rest) := X.keeps kp
  refine (PySem.W.looks_findIn (M := model prog w) X1 hi).at ?_
  refine wpAny_holding (wpAny_bind ((PySem.W.bind_fn X1 _ hf).at ?_))
  dsimp only
  refine wpAny_bind (wpAny_call (codeAny_mono k fun r s' hq => ?_))
  cases r with
  | error e => exact hq
  | ok fl =>
    cases fl with
    | ret v =>
      obtain ⟨rfl, hq⟩ := hq
      refine wpAny_pure ?_
      dsimp only
      rw [if_neg (by decide)]
      exact wpAny_pure hq
    | next => exact hq.elim
    | brk => exact hq.elim
    | cont => exact hq.elim
theorem call_excI (F : ExcBaseFacts B newId initId bmB) (T : OwnTail h bmB bm) {rest : List Value} {Q : Value → Shared → Prop} (X : K.In h)
    (hC : h.get? C = some (excClassObj nm q C N bs bm hdct sn sub ab col dd k0 k1 k2 k3 k5 newId)) (hi : PySem.W.findIn K (.ref C) "__init__" = some (some (.ref f))) (hf : PySem.W.typeIn K (.ref f) = some (.type "function"))
    (k : codeAny (model prog w) (A.under (.builtin "type.__call__" ⟨.ref C :: rest, []⟩)) (.call (.ref f) ⟨.ref (h.objs.size + 1) :: rest, []⟩) (fun r s' => match r with | .ok (.ret v) => v = .none ∧ Q (.ref (h.objs.size + 1)) s' | .ok _ => False | .error e => E e s') ⟨excH h C rest, g, d, t, os⟩) (hrest : rest.length ≤ sizeLine) :
    wpAny (model prog w) A (call (.ref C) rest) Q E ⟨h, g, d, t, os⟩ := by
  have f1 := tc_lookup
  have f2 := tc_bind (.ref C)
  have hT : (⟨h, g, d, t, os⟩ : Shared).TypeIs (.ref C) "type" := ⟨_, hC, rfl⟩
  refine wpAny_call (codeAny_of_tree ?_)
  show wpAny _ _ (callAny (.ref C) _) _ _ _
  repeat (any_goals (first | assumption | with_reducible refine wpAny_loadPart_at hC ?_ | wp_step))
  refine ⟨rfl, ?_⟩
  refine codeAny_call_builtin_at (Code.quiet_builtin _ (by decide +kernel)) entry_typeCall (wpAny_check_type_call_sub hC (tcall_excI F T X hC hi hf (codeAny_mono k fun r s' hq => ?_) hrest))
  cases r with
  | error e => exact hq
  | ok fl => cases fl <;> exact hq
end
/-! ### C.__init__(self, text), C without an __init__ of its own -/
section
variable {prog : Program} {w : World} {A : Around} {E : Value → Shared → Prop} {s : Shared}
theorem bexc_init {K : PySem.W.Frag} {e C : Addr} {d : Option Addr} {v1 : Value} {B newId initId : String} {bmB : List Value} {rest : List Value} {Q : Value → Shared → Prop} (F : ExcBaseFacts B newId initId bmB) (X : K.In s.heap) (q : excInI K C bmB newId = true) (hx : ExAt s.heap e C d v1) (hz : rest.length ≤ sizeLine)
    (k : ∀ h', ExAt h' e C d v1 → (∀ b o, b ≠ e → s.heap.get? b = some o → h'.get? b = some o) → Q .none { s with heap := h' }) : wpAny (model prog w) A (call (.builtin initId) (.ref e :: rest)) Q E s := by
  obtain ⟨bm, N, nm, qn, bs, hdct, sn, sub, ab, col, dd, k0, k1, k2, k3, k5, hC, T⟩ := exc_objI X q
  obtain ⟨oe, vs, he, c1, c2, c3, c4, c5, c6⟩ := id hx
  obtain ⟨hp, g, dr, tk, os⟩ := s
  refine wpAny_call (codeAny_call_builtin F.init.plain F.initEntry (wpAny_check_init_subT F T hC he c1 ?_))
  show wpAny _ _ (newTuple rest >>= fun t => Builtin.BaseException.bexcPut (.ref e) 0 t >>= fun _ => ret .none) _ _ _
  refine wpAny_bind (wpAny_newTuple ?_)
  have e1 : (hp.push { cls := .type "tuple", data := .seq rest.toArray }).get? e = some oe := Heap.get?_push_of_some _ he
  obtain ⟨v0, hv0⟩ : ∃ v0, vs[0]? = some v0 := ⟨_, Array.getElem?_eq_getElem (by omega)⟩
  refine wpAny_bind ?_
  unfold Builtin.BaseException.bexcPut
  refine wpAny_bind (wpAny_field e1 c3 hv0 ?_)
  refine wpAny_bind (wpAny_setField e1 c3 (by omega) ?_)
  have fin : ∀ s' : Shared, s' = ⟨(hp.push { cls := .type "tuple", data := .seq rest.toArray }).update e (Obj.mapFields (·.setIfInBounds 0 (.ref hp.objs.size))), g, dr, tk, os⟩ → Q .none s' := by
    rintro s' rfl
    refine k _ ?_ fun b o hb hbo => ?_
    · refine ⟨_, _, Heap.get?_update_self _ e1 (Obj.isFreed_of_fields (Obj.data_mapFields c3 _)), (Obj.cls_mapFields _ _).trans c1, ?_, Obj.data_mapFields c3 _, by simp [c4], ?_, ?_⟩
      · obtain ⟨k, dd, dt, sl⟩ := oe
        cases dt <;> first | exact c2 | cases c3
      · rw [Array.getElem?_setIfInBounds_ne (by decide)]; exact c5
      · rw [Array.getElem?_setIfInBounds_ne (by decide)]; exact c6
    · rw [Heap.get?_update_other _ _ (Ne.symm hb)]
      exact Heap.get?_push_of_some _ hbo
  cases v0 <;> first | exact wpAny_letGo (wpAny_pure (fin _ rfl)) | exact wpAny_pure (wpAny_pure (fin _ rfl))
end
end L2

end
section
set_option maxHeartbeats 4000000
namespace L2
open PySem PySem.Spec PyProof.Rows
/-- an exception that is being made -/
abbrev XQ (e C : Addr) (d : Option Addr) : HO := .ext fun h => ExAt h e C d .none
theorem xq_ok {P : Program} {w : World} {H : Hp} {h : Heap} {e C : Addr} {d : Option Addr} (x : ExAt h e C d .none) : ObjOk P w H h e (XQ e C d) := by
  obtain ⟨o, _, g, _⟩ := id x
  exact ⟨x, ⟨o, g⟩, fun h1 h2 x1 k => x1.keep k⟩
theorem upd_id {H : Hp} {a : Addr} {o : HO} (h : H a = some o) : upd H a o = H := by
  funext b
  unfold upd
  split
  · next e => rw [e, h]
  · rfl
section
variable {X : Cx} {x : Str} {CE : Addr} {mc : Value} {B newId initId : String} {bmB : List Value} {e : Expr} {es : List Expr} {t : TA} {p apos pos : Pos}
def tXin (K : PySem.W.Frag) (bmB : List Value) (newId : String) (t : TA) : TE := fun σ H Q => t σ H fun vs H1 => ∃ e C d rest, vs = .ref e :: rest ∧ H1 e = some (XQ e C d) ∧ excInI K C bmB newId = true ∧ rest.length ≤ 1000 ∧ Q .non H1
/-- C.__init__(self, ..), C an exception class of the text without one of its own -/
theorem pe_xinit {pl : Sem Bool} (hg : Gl X x) (hm : X.mg x = some (.ref CE)) (hs : PySem.W.specialIn X.K (.ref CE) "__getattribute__" = some (some (.builtin "type.__getattribute__"))) (hr : PySem.W.readsIn X.K CE mc = true)
    (hf : PySem.W.findCls X.K (.ref CE) mc "__init__" = some (.val (.builtin initId))) (hh : PySem.W.handedIn (.builtin initId) = true) (F : ExcBaseFacts B newId initId bmB) (ha : PA X (e :: es) t) (hdb : (x == ("__debug__" : Str)) = false := by decide)
    (he : starEach (e :: es) X.env = (false, eval e X.env) :: starEach es X.env := by rfl) (hpl : (backTo pos (starEach es X.env)).any (·.1) = false := by rfl)
    (ht : eval (.Call (.Attribute (.Name x p) "__init__" apos) (e :: es) [] pos) X.env = (do
      let ov ← eval (.Name x p) X.env
      standAt apos.atName
      let (f, first) ← holding [ov] (getMethod ov "__init__" pl)
      callWith pos f first (backTo pos (starEach (e :: es) X.env)) (backToKw pos (keywordEach [] X.env))) := by rfl) :
    PE X (.Call (.Attribute (.Name x p) "__init__" apos) (e :: es) [] pos) (tXin X.K bmB newId t) := by
  intro pins s σ H Q I h
  refine PySem.W.methodCall_KW (pl := pl) (ld_glob I hg hm ?_ hdb) ht
  refine PySem.W.method_cls I.kIn hs (PySem.W.cls_value I.kIn hr hf hh ?_)
  refine PyProof.Rows.callWith_builtin1 (thn (ha pos pins _ σ H _ (I.tok _) h) fun us s1 ⟨vs, H1, I1, r1, ea, C, d, rest, ev, hE, hC, hl, q⟩ => ?_) he hpl
  subst ev
  cases r1 with
  | cons r0 rr =>
  cases r0
  have hx : ExAt s1.heap ea C d .none := (I1.hok ea _ hE).1
  refine bexc_init F I1.kIn hC hx (by rw [← rr.length]; exact Nat.le_of_lt (small1000 hl)) fun h' x' k => ?_
  have I2 := I1.write (t' := s1.toks) (x := ea) (e := ea) (o := XQ ea C d) (by rw [hE]; trivial) (.inl rfl) k (by obtain ⟨o, _, g, _⟩ := x'; exact ⟨o, g⟩) (xq_ok x')
  rw [upd_id hE] at I2
  exact ⟨.non, H1, I2, rfl, q⟩
end
end L2

end
section
set_option maxHeartbeats 4000000
namespace L2
open PySem PySem.Spec PyProof.Rows
/-! ### e.name = v on an exception without a dict -/
abbrev bmV : List Value := [.type "ValueError", .type "Exception", .type "BaseException", .type "object"]
section
variable {prog : Program} {w : World} {A : Around} {E : Value → Shared → Prop} {s : Shared} {K : PySem.W.Frag}
theorem exc_inst {h : Heap} {e C : Addr} {v1 : Value} (hx : ExAt h e C none v1) : ∃ ox, PySem.W.InstAt h e ox C none ∧ h.get? e = some ox ∧ ox.dict = none ∧ ∃ vs, ox.data = .fields vs := by
  obtain ⟨oe, vs, he, c1, c2, c3, c4, c5, c6⟩ := hx
  refine ⟨oe, ⟨he, c1, ?_, ?_⟩, he, c2, vs, c3⟩
  · unfold PySem.W.notCls
    rw [c3]
  · rw [c2]
    trivial
theorem set_exc {e C CE : Addr} {name : Str} {v : Value} {cd : ClassData} {Q : Unit → Shared → Prop} (X : K.In s.heap) (hx : ExAt s.heap e C none .none)
    (hs : PySem.W.findIn K (.ref C) "__setattr__" = some (some (.builtin "object.__setattr__"))) (hc : PySem.W.clsIn K C = some cd) (hdt : cd.hasDict = true) (hm : cd.mro = .ref C :: .ref CE :: bmV) (ht : PySem.W.takerIn K C name = some none)
    (h : ∀ h' tk, ExAt h' e C (some s.heap.objs.size) .none → h'.Ns1 s.heap.objs.size (fun y => if y = name then some v else none) → (∀ b o, b ≠ e → s.heap.get? b = some o → h'.get? b = some o) → Q () { s with heap := h', toks := tk }) :
    wpAny (model prog w) A (setAttr (.ref e) name v) Q E s := by
  obtain ⟨ox, I, he, hdn, vs, hd⟩ := exc_inst hx
  have SF := PySem.F.store_object
  refine PySem.W.set_plain X I hs ?_
  have X1 : K.In ({ s with toks := s.toks + 1 } : Shared).heap := X
  have I1 : PySem.W.InstAt ({ s with toks := s.toks + 1 } : Shared).heap e ox C none := I
  have hcon : cd.mro.contains (.type "object") = true := by rw [hm]; simp
  have sub : PySem.W.Looks (model prog w) s.heap (isInstance (.ref e) (.type "object")) true := I.type.andThen (PySem.W.looks_mroIn X (by unfold PySem.W.mroIn; rw [hc, Option.bind_some, hm]; simp))
  refine codeAny_call_builtin SF.slot.plain SF.entry (@PySem.W.check_slot (model prog w) _ _ { s with toks := s.toks + 1 } "object.__setattr__" "object" "__setattr__" (.ref e) [.str name s.toks, v] [] _ SF.kind SF.split sub (SF.args (.ref e) (.str name s.toks) v) ?_)
  obtain ⟨attr, ha, hr⟩ := Option.bind_eq_some_iff.mp ht
  have hmr : PySem.W.Looks (model prog w) s.heap (mroOf (.ref C)) cd.mro := (PySem.W.looks_clsIn X hc).andThen .now
  have L3 : PySem.W.Looks (model prog w) s.heap (Builtin.ObjectAttr.storeTaker? attr) none := by
    cases attr with
    | none => exact .now
    | some a =>
      obtain ⟨b, hb, hbr⟩ := Option.map_eq_some_iff.mp hr
      refine (PySem.W.looks_takesIn X hb).andThen ?_
      cases b
      · exact .now
      · cases hbr
  rw [PySem.W.osa_eq, refuse_eq]
  refine wpAny_bind (wpAny_bind (I1.type.here (wpAny_bind (PySem.W.Looks.here (s := { s with toks := s.toks + 1 }) hmr ?_))))
  rw [hm, refuseLoop_ref, refuseLoop_ref, PySem.F.store_ValueError.passes]
  refine wpAny_pure (wpAny_bind (I1.type.here (wpAny_bind (PySem.W.Looks.here (s := { s with toks := s.toks + 1 }) (PySem.W.looks_findIn X ha) (wpAny_bind (PySem.W.Looks.here (s := { s with toks := s.toks + 1 }) L3 ?_))))))
  refine wpAny_bind (wpAny_pure (wpAny_bind (wpAny_bind (wpAny_loadPart he ?_))))
  obtain ⟨oc, od, odat, osl⟩ := ox
  have c1 : oc = .ref C := I.cls
  have c2 : od = none := hdn
  have c3 : odat = .fields vs := hd
  subst c1 c2 c3
  refine wpAny_bind (PySem.W.Looks.here (s := { s with toks := s.toks + 1 }) (PySem.W.looks_clsIn X hc) ?_)
  rw [hdt]
  rw [if_neg (by decide)]
  dsimp only
  rw [if_neg (by simp [typeHasDict])]
  have hxs : e ≠ s.heap.objs.size := Nat.ne_of_lt (Heap.lt_size he)
  have he1 : (s.heap.push { cls := .type "dict", data := .dict #[] }).get? e = some ⟨.ref C, none, .fields vs, osl⟩ := Heap.get?_push_of_some _ he
  refine wpAny_bind (wpAny_alloc' (wpAny_bind (wpAny_update' he1 (wpAny_pure ?_))))
  have hgd : ((s.heap.push { cls := .type "dict", data := .dict #[] }).update e fun o => { cls := o.cls, dict := some s.heap.objs.size, data := o.data, slots := o.slots }).get? s.heap.objs.size = some { cls := .type "dict", data := .dict #[] } :=
    (Heap.get?_update_ne _ _ _ _ hxs.symm).trans (Heap.get?_push_at rfl rfl)
  have hnd : ((s.heap.push { cls := .type "dict", data := .dict #[] }).update e fun o => { cls := o.cls, dict := some s.heap.objs.size, data := o.data, slots := o.slots }).Ns s.heap.objs.size (fun _ => none) :=
    ⟨_, #[], _, hgd, rfl, fun e he => absurd he (by simp), fun _ => rfl⟩
  show wpAny _ _ (Builtin.ObjectAttr.storeInDict s.heap.objs.size (.str name s.toks) name v) _ _ _
  unfold Builtin.ObjectAttr.storeInDict Builtin.ObjectAttr.newKeyGuard
  refine wpAny_bind (wpAny_pure (wpAny_bind (wpAny_nsSet1 (Heap.Ns1.of_empty hnd) fun h' hn' hsb => ?_)))
  obtain ⟨oD, esD, epD, hoD, hdD, hcD⟩ := hn'.count (PySem.Within.cons name v PySem.Within.nil)
  refine wpAny_bind (wpAny_lookBehind hoD (by rw [hdD]; exact pastItsLine_dict (Nat.le_trans hcD (by rw [List.length_cons, List.length_nil, sizeLine_eq]; omega))) ?_)
  refine wpAny_pure ?_
  have hx' : h'.get? e = some ⟨.ref C, some s.heap.objs.size, .fields vs, osl⟩ := by
    refine (hsb.2 e hxs).trans (Heap.get?_update_self _ he1 ?_)
    rfl
  obtain ⟨oe2, vs2, g1, g2, g3, g4, g5, g6, g7⟩ := hx
  rw [he] at g1
  cases g1
  cases g4
  refine h h' _ ⟨_, _, hx', rfl, rfl, rfl, g5, g6, g7⟩ ?_ fun b ob hb hbo => ?_
  · obtain ⟨o', es, ep, e1, e2, e3, eu, e4⟩ := hn'
    exact ⟨o', es, ep, e1, e2, e3, eu, fun y => by rw [e4 y]⟩
  · exact (hsb.2 b (Nat.ne_of_lt (Heap.lt_size hbo))).trans ((Heap.get?_update_ne _ _ _ _ hb).trans (Heap.get?_push_of_some _ hbo))
end
end L2

end
section
set_option maxHeartbeats 4000000
namespace L2
open PySem PySem.Spec PyProof.Rows
section
variable {M : Model} {A : Around} {E : Value → Shared → Prop} {s : Shared} {env : Env}
theorem raise_ex {x : Sem Value} {Q : Flow → Shared → Prop} (hh : A.handled = none)
    (h : wpAny M A x (fun v s1 => ∃ e C d bm, v = .ref e ∧ ExAt s1.heap e C d .none ∧ ClsAt s1.heap C bm ∧ bm.contains (.type "BaseException") = true ∧ E (.ref e) s1) E s) : wpAny M A (raiseStmt env (some x) none) Q E s := by
  unfold raiseStmt
  refine wpAny_bind (wpAny_mono h (fun v s1 h1 => ?_) fun _ _ x => x)
  obtain ⟨e, C, d, bm, rfl, ⟨oe, vs, he, c1, c2, c3, c4, c5, c6⟩, hC, hb, hE⟩ := h1
  obtain ⟨oc, od, odat, osl⟩ := oe
  cases c1
  cases c3
  have hcB : (Value.ref C :: bm).contains (.type "BaseException") = true := by rw [List.contains_cons, hb, Bool.or_true]
  obtain ⟨hp, g, dr, tk, os⟩ := s1
  repeat (first | with_reducible refine wpAny_loadPart_at he ?_ | (with_reducible refine sub_cls hC ?_; rw [hcB]) | wp_step)
  obtain ⟨oC, cd, hoC, hcC, hdC, hmC⟩ := id hC
  refine wpAny_loadPart_at hoC (wpAny_pure ?_)
  rw [hcC, if_pos (by decide)]
  refine wpAny_pure ?_
  dsimp only
  refine wpAny_bind ?_
  unfold setFlight
  refine wpAny_bind (wpAny_field he rfl c5 ?_)
  rw [if_neg (by decide)]
  exact wpAny_pure (wpAny_raiseNew_none hh hE)
end
/-! ### an exception tracked no more -/
section
variable {X : Cx} {pins : List (Addr × Obj)} {σ : St} {H : Hp} {s : Shared}
def drp (H : Hp) (a : Addr) : Hp := fun b => if b = a then none else H b
theorem drp_same {H : Hp} {a : Addr} : drp H a a = none := by unfold drp; rw [if_pos rfl]
theorem drp_ne {H : Hp} {a b : Addr} (h : b ≠ a) : drp H a b = H b := by unfold drp; rw [if_neg h]
theorem Inv.drop {e C : Addr} {d : Option Addr} (I : Inv X pins σ H s) (hE : H e = some (XQ e C d)) (hn : X.s_0.heap.get? e = none) : Inv X pins σ (drp H e) s := by
  have ne : ∀ b o, X.s_0.heap.get? b = some o → b ≠ e := fun b o q z => by rw [z, hn] at q; cases q
  refine ⟨I.ok, I.os, I.bare, ⟨I.base.keep, I.base.slot, fun b o q n hx => ?_, I.base.there, fun b xs q => ?_, fun b o u q => ?_, fun b ps q => ?_⟩, I.loc, I.cell, ?_, fun x c q => ?_, fun p hp => ?_, fun b o q => ?_, I.len⟩
  · by_cases z : b = e
    · rw [z]; exact drp_same
    · rw [drp_ne z]; exact I.base.free b o q n hx
  · have z := I.base.tups b xs q
    have nb : b ≠ e := fun y => by rw [y, hE] at z; cases z
    rw [drp_ne nb]; exact z
  · have z := I.base.frzs b o u q
    have nb : b ≠ e := fun y => by rw [y, hE] at z; cases z
    rw [drp_ne nb]; exact z
  · obtain ⟨more, z⟩ := I.base.tbls b ps q
    have nb : b ≠ e := fun y => by rw [y, hE] at z; cases z
    exact ⟨more, by rw [drp_ne nb]; exact z⟩
  · by_cases z : X.env.locals = e
    · rw [z]; exact drp_same
    · rw [drp_ne z]; exact I.free
  · by_cases z : c = e
    · rw [z]; exact drp_same
    · rw [drp_ne z]; exact I.freeC x c q
  · obtain ⟨a1, a2, a3, a4, a5⟩ := I.pin p hp
    refine ⟨a1, ?_, a3, a4, a5⟩
    by_cases z : p.1 = e
    · rw [z]; exact drp_same
    · rw [drp_ne z]; exact a2
  · have nb : b ≠ e := fun y => by rw [y, drp_same] at q; cases q
    rw [drp_ne nb] at q
    refine (I.hok b o q).stay (fun _ _ _ y => y) (fun c y => ?_) fun c xs y => ?_
    · have nc : c ≠ e := fun z => by rw [z, hE] at y; cases y
      rw [drp_ne nc]; exact y
    · have nc : c ≠ e := fun z => by rw [z, hE] at y; cases y
      rw [drp_ne nc]; exact y
end
end L2

end
section
set_option maxHeartbeats 4000000
namespace L2
open PySem PySem.Spec PyProof.Rows
/-- an exception class of the text with an __init__ of its own, straight under CE, which is straight under ValueError -/
structure XCls (K : PySem.W.Frag) (C CE : Addr) : Prop where
  ini : excInI K C bmV "ValueError.__new__" = true
  set : PySem.W.findIn K (.ref C) "__setattr__" = some (some (.builtin "object.__setattr__"))
  cls : ∃ cd, PySem.W.clsIn K C = some cd ∧ cd.hasDict = true ∧ cd.mro = .ref C :: .ref CE :: bmV
section
variable {X : Cx}
def sXset (K : PySem.W.Frag) (CE : Addr) (ta tv : TE) (f : Str) : TS := fun D σ H => tv σ H fun y H1 => ta σ H1 fun x H2 => ∃ e C, x = .ref e ∧ H2 e = some (XQ e C none) ∧ XCls K C CE ∧ PySem.W.takerIn K C f = some none ∧
  ∀ dx, H2 dx = none → D.nx σ (upd (upd H2 dx (.xd [(f, y)])) e (XQ e C (some dx)))
theorem ps_xset {o value : Expr} {ta tv : TE} {f : Str} {pos pos' : Pos} {CE : Addr} (ha : PE X o ta) (hv : PE X value tv) (hs : swapsWith value (some (.Attribute o f pos')) pos.line X.env = pure false) : PS X (.Assign [.Attribute o f pos'] value pos) (sXset X.K CE ta tv f) := by
  intro pins s σ H D I h
  refine plainObj_wpAny_Assign_Attribute (thn (hv pins s σ H _ I h) fun u s1 ⟨y, H1, I1, ry, q⟩ => thn (ha pins s1 σ H1 _ I1 q) fun ov s2 ⟨x, H2, I2, rx, e, C, ex, eE, Z, ht, q2⟩ => ?_) hs
  subst ex
  obtain rfl : ov = Value.ref e := rx
  obtain ⟨cd, hc, hdt, hm⟩ := Z.cls
  have hx : ExAt s2.heap e C none .none := (I2.hok e _ eE).1
  refine set_exc (CE := CE) I2.kIn hx Z.set hc hdt hm ht fun h' tk x' n' k => ?_
  have hdx : H2 s2.heap.objs.size = none := I2.hok.fresh (Nat.le_refl _)
  have hne : e ≠ s2.heap.objs.size := by
    obtain ⟨_, _, g, _⟩ := hx
    exact Nat.ne_of_lt (Heap.lt_size g)
  obtain ⟨oD, es, ep, eD, dD, r1⟩ := id n'
  have hfr : oD.isFreed = false := (Heap.get?_some_iff.mp eD).2
  -- the dict is laid, then the exception is written
  have kp : ∀ b u, s2.heap.get? b = some u → (s2.heap.push oD).get? b = some u := fun b u z => Heap.get?_push_of_some _ z
  have gD : (s2.heap.push oD).get? s2.heap.objs.size = some oD := Heap.get?_push_size _ hfr
  have Ia := I2.laid (t' := tk) (h' := s2.heap.push oD) (a := s2.heap.objs.size) (o := .xd [(f, y)]) kp (Nat.le_refl _) ⟨_, ⟨oD, es, ep, gD, dD, r1⟩, fun g => by
    show RelO (([(f, y)] : List (Str × V)).lookup g) (if g = f then some u else none)
    by_cases z : g = f
    · subst z
      simp [List.lookup]
      exact ry
    · rw [if_neg z]
      have : (g == f) = false := by simpa using z
      simp [List.lookup, this]
      trivial⟩
  have eE' : (upd H2 s2.heap.objs.size (.xd [(f, y)])) e = some (XQ e C none) := by rw [upd_ne hne]; exact eE
  have Ib := Ia.write (t' := tk) (h' := h') (x := e) (e := e) (o := XQ e C (some s2.heap.objs.size)) (by rw [eE']; trivial) (.inl rfl) (fun b u hb z => ?_) (by obtain ⟨o, _, g, _⟩ := x'; exact ⟨o, g⟩) (xq_ok x')
  · exact ⟨σ, _, Ib, q2 _ hdx⟩
  · by_cases zb : b = s2.heap.objs.size
    · subst zb
      rw [gD] at z
      cases z
      exact eD
    · rw [Heap.get?_push_ne _ _ _ zb] at z
      exact k b u hb z
end
section
variable {X : Cx} {CX : CXT} {k : Nat} {f C CE : Addr} {fd : FuncData} {ps : List Str} {sp : Sp} {ds : List Value} {dvs : List V} {initId : String}
theorem run_makeX {pins : List (Addr × Obj)} {σ : St} {H : Hp} {s : Shared} {Q : Addr → Hp → Prop} {us : List Value} {vs : List V} (Z : XCls X.K C CE) (hi : PySem.W.findIn X.K (.ref C) "__init__" = some (some (.ref f))) (hf : PySem.W.typeIn X.K (.ref f) = some (.type "function"))
    (FB : ExcBaseFacts "ValueError" "ValueError.__new__" initId bmV) (F : FnOk X.prog X.w X.K X.mg X.base CX0 k f fd ps sp) (hr : Room (k + 1) X.A) (hb : Binds X.K fd ps ds) (hd : Vals dvs ds) (I : Inv X pins σ H s) (r : Vals vs us) (hz : us.length ≤ sizeLine)
    (h : ∀ e, H e = none → sp (.ref e :: (vs ++ dvs)) (upd H e (XQ e C none)) (fun v H2 => v = .non ∧ Q e H2) E0) :
    wpAny (model X.prog X.w) X.A (call (.ref C) us) (fun u s' => ∃ e H', u = .ref e ∧ Inv X pins σ H' s' ∧ s.heap.get? e = none ∧ Q e H') X.xe s := by
  have hn : s.heap.get? (s.heap.objs.size + 1) = none := Heap.get?_none_of_le (Nat.le_succ _)
  have hq := h (s.heap.objs.size + 1) (I.hok.fresh (Nat.le_succ _))
  obtain ⟨bm, N, nm, qn, bs, hdct, sn, sub, ab, col, dd, k0, k1, k2, k3, k5, hC, T⟩ := exc_objI I.kIn Z.ini
  obtain ⟨hp, g, dr, tk, os⟩ := s
  have I2 : Inv X pins σ (upd H (hp.objs.size + 1) (XQ (hp.objs.size + 1) C none)) ⟨excH hp C us, g, dr, tk, os⟩ := I.laid (t' := tk) (h' := excH hp C us) (fun b u z => Heap.get?_push_of_some _ (Heap.get?_push_of_some _ z)) (Nat.le_succ _)
    (xq_ok ⟨_, _, by
      show (excH hp C us).get? (hp.objs.size + 1) = some { cls := .ref C, data := .fields #[.ref hp.objs.size, .none, .none, .none, .bool false, .none] }
      rw [show hp.objs.size + 1 = (hp.push { cls := .type "tuple", data := .seq us.toArray }).objs.size from (Heap.size_push ..).symm]
      exact Heap.get?_push_size _ rfl, rfl, rfl, rfl, rfl, rfl, rfl⟩)
  have r2 : Vals (V.ref (hp.objs.size + 1) :: (vs ++ dvs)) (Value.ref (hp.objs.size + 1) :: (us ++ ds)) := .cons rfl (r.append hd)
  have hl : (Value.ref (hp.objs.size + 1) :: us ++ ds).length = ps.length := by
    have e := r2.length
    rw [F.len _ _ _ _ hq] at e
    exact e.symm
  refine call_excI FB T I.kIn hC hi hf (codeAny_mono (F.run _ X.stack _ _ ⟨Value.ref (hp.objs.size + 1) :: us, []⟩ (Value.ref (hp.objs.size + 1) :: (us ++ ds)) _ _ E0 (hr.make C us [])
    (I2.env0.make C us []) (hb _ (Value.ref (hp.objs.size + 1) :: us) I2.kIn hl) r2 hq) fun r s' hq' => ?_) hz
  cases r with
  | error e => exact hq'.elim
  | ok fl =>
    cases fl with
    | ret u =>
      obtain ⟨v, H', I3, rv, ev, q3⟩ := I2.after hq'
      subst ev
      exact ⟨rv, _, H', rfl, I3, hn, q3⟩
    | next => exact False.elim hq'
    | brk => exact False.elim hq'
    | cont => exact False.elim hq'

def tRaiseI (C : Addr) (sp : Sp) (dvs : List V) (E : XK) (t : TA) : TS := fun _ σ H => t σ H fun vs H1 => vs.length ≤ sizeLine ∧ ∀ e, H1 e = none → sp (.ref e :: (vs ++ dvs)) (upd H1 e (XQ e C none)) (fun v H2 => v = .non ∧ ∃ dx, H2 e = some (XQ e C (some dx)) ∧ E (.ref C) (some dx) (drp H2 e)) E0
theorem raise_out {E : XK} {x : Sem Value} {pins : List (Addr × Obj)} {σ : St} {s1 : Shared} {Q : Flow → Shared → Prop} {bm : List Value} {env : Env} (hx : XOk X E) (hh : X.A.handled = none) (hC : ClsAt X.base C bm) (hb : bm.contains (.type "BaseException") = true)
    (h : wpAny (model X.prog X.w) X.A x (fun u s' => ∃ e H', u = .ref e ∧ Inv X pins σ H' s' ∧ (X.s_0.heap.get? e = none ∧ ∀ p ∈ X.pn, p.1 ≠ e) ∧ ∃ dx, H' e = some (XQ e C (some dx)) ∧ E (.ref C) (some dx) (drp H' e)) X.xe s1) :
    wpAny (model X.prog X.w) X.A (raiseStmt env (some x) none) Q X.xe s1 := by
  refine raise_ex hh (wpAny_mono h (fun u s' hq => ?_) fun _ _ y => y)
  obtain ⟨e, H', rfl, I', ⟨hn0, hpn⟩, dx, hE, q⟩ := hq
  have hxa : ExAt s'.heap e C (some dx) .none := (I'.hok e _ hE).1
  refine ⟨e, C, some dx, bm, rfl, hxa, ?_, hb, ?_⟩
  · obtain ⟨o, cd, ho, r⟩ := hC
    exact ⟨o, cd, I'.bk _ _ ho, r⟩
  · exact hx pins σ _ s' e C (some dx) none (I'.drop hE hn0) ⟨hxa, hn0, drp_same, fun T z => (nomatch z), fun p hp => ⟨hpn p hp, fun z => (nomatch z)⟩⟩ q
theorem raise_new {pins : List (Addr × Obj)} {σ : St} {H1 : Hp} {s : Shared} {e : Addr} (I : Inv X pins σ H1 s) (hex : X.ex = []) (hn : s.heap.get? e = none) : X.s_0.heap.get? e = none ∧ ∀ p ∈ X.pn, p.1 ≠ e := by
  refine ⟨I.gone hex hn, fun p hp z => ?_⟩
  have y := (I.pin p (List.mem_append_left _ hp)).1
  rw [z, hn] at y
  cases y
/-- raise X() -/
theorem ps_raiseI0 {E : XK} {x : Str} {np cpos pos : Pos} {bm : List Value} (hx : XOk X E) (hh : X.A.handled = none) (hg : Gl X x) (hm : X.mg x = some (.ref C)) (hk : PySem.W.keepIn X.K (.ref C) = true) (Z : XCls X.K C CE) (hi : PySem.W.findIn X.K (.ref C) "__init__" = some (some (.ref f))) (hf : PySem.W.typeIn X.K (.ref f) = some (.type "function"))
    (FB : ExcBaseFacts "ValueError" "ValueError.__new__" initId bmV) (F : FnOk X.prog X.w X.K X.mg X.base CX0 k f fd ps sp) (hr : Room (k + 1) X.A) (hb : Binds X.K fd ps ds) (hd : Vals dvs ds) (hC : clsIn X.K C bm = true) (hbm : bm.contains (.type "BaseException") = true) (hex : X.ex = [] := by rfl) (hdb : (x == ("__debug__" : Str)) = false := by decide) :
    PS X (.Raise (some (.Call (.Name x np) [] [] cpos)) none pos) (tRaiseI C sp dvs E tNil) := by
  intro pins s σ H D I h
  rw [arm_exec_Raise]
  simp only [evalOpt, Option.map]
  refine wpAny_bind (wpAny_standAt (raise_out (pins := pins) (σ := σ) hx hh (cls_at I.ok.mod.kin hC) hbm (wpAny_bind (wpAny_mono ?_ (fun v s3 h3 => wpAny_bind (wpAny_standAt (wpAny_pure h3))) fun _ _ y => y))))
  refine wpAny_Call_Name_kw (ld_glob I hg hm ?_ hdb)
  refine PySem.W.callWith_K0 I.kIn hk (wpAny_mono (run_makeX (us := []) (vs := []) (Q := fun e H2 => ∃ dx, H2 e = some (XQ e C (some dx)) ∧ E (.ref C) (some dx) (drp H2 e)) Z hi hf FB F hr hb hd I .nil (Nat.zero_le _) h.2) (fun u s' hq => ?_) fun _ _ y => y)
  obtain ⟨ea, H', e1, e2, e3, e4⟩ := hq
  exact ⟨ea, H', e1, e2, raise_new I hex e3, e4⟩
end
end L2

end
section
set_option maxHeartbeats 4000000
namespace L2
open PySem PySem.Spec PyProof.Rows PySem.W
section
variable {prog : Program} {w : World} {A : Around} {E : Value → Shared → Prop} {s : Shared} {K : Frag} {x D : Addr} {ox : Obj} {od : Option Obj} {name : Str}
theorem exc_callV {v : Value} {tk : Tok} {R : Result → Shared → Prop} (X : K.In s.heap) (I : PySem.W.InstAt s.heap x ox D od) (hf : findObj K D od name = some (.value v)) (hm : mroIn K D (.type "BaseException") = some true)
    (hR : R (.ok (.ret v)) s) : codeAny (model prog w) A (.call (.builtin "BaseException.__getattribute__") ⟨[.ref x, .str name tk], []⟩) R s := by
  obtain ⟨hh, gg, d, t, os⟩ := s
  have L0 := I.type (M := model prog w)
  have L1 := looks_find (M := model prog w) X I hf
  have L2 := looks_mroIn (M := model prog w) X hm
  refine codeAny_call_builtin (by decide +kernel) F.entry_bexc_ga ?_
  have hk : builtinKind "BaseException.__getattribute__" = some .slot := by decide +kernel
  have hsp : splitId "BaseException.__getattribute__" = some ("BaseException", "__getattribute__") := by decide +kernel
  have ha := F.args_bexc_ga (.ref x) (.str name tk)
  simp only [checkBuiltinCall, hk, hsp]
  refine wpAny_bind ?_
  unfold isInstance
  refine wpAny_bind (L0.at (L2.at ?_))
  have go : wpAny (model prog w) A.in1 (Builtin.«object.__getattribute__» ⟨[.ref x, .str name tk], []⟩) (fun fin s' => match fin with | .done f => R (.ok f) s' | .again c' => c'.quiet = true ∧ codeAny (model prog w) A c' R s') (fun e s' => R (.error e) s') ⟨hh, gg, d, t, os⟩ := by
    unfold Builtin.«object.__getattribute__»
    refine wpAny_bind (wpAny_pure (wpAny_bind (wpAny_pure (wpAny_bind (L0.at (wpAny_bind (L1.at ?_)))))))
    exact wpAny_pure hR
  simp only [if_true, Bool.not_true, Bool.false_eq_true, if_false]
  cases hsig : Manifest.signature? "BaseException.__getattribute__" with
  | none => exact wpAny_pure go
  | some sig =>
    simp only [argsOk, hsig] at ha
    have h2 : Bind.checkArgs "BaseException.__getattribute__" sig ⟨[.ref x, .str name tk], []⟩ = pure () := ha
    show wpAny _ A.in1 (Bind.checkArgs "BaseException.__getattribute__" sig ⟨[.ref x, .str name tk], []⟩) _ _ _
    rw [h2]
    exact wpAny_pure go
theorem exc_getv {v : Value} {expr : Bool} {Q : Value → Shared → Prop} (X : K.In s.heap) (I : PySem.W.InstAt s.heap x ox D od) (hga : findIn K (.ref D) "__getattribute__" = some (some (.builtin "BaseException.__getattribute__"))) (hgn : findIn K (.ref D) "__getattr__" = some none)
    (hf : findObj K D od name = some (.value v)) (hm : mroIn K D (.type "BaseException") = some true) (hh : handedIn v = true) (h : Q v { s with toks := s.toks + 1 }) : wpAny (model prog w) A (getAttr (.ref x) name expr) Q E s := by
  obtain ⟨hp, gg, d, t, os⟩ := s
  have L0 := I.type (M := model prog w)
  have L1 := looks_findIn (M := model prog w) X hga
  have L2 := looks_findIn (M := model prog w) X hgn
  unfold getAttr getAttrBy
  refine wpAny_bind (wpAny_mkText (wpAny_holding (wpAny_bind (L0.at (wpAny_bind (L1.at ?_))))))
  show wpAny _ _ (getAttrByItsOwn (.ref x) _ (.ref D) (.builtin "BaseException.__getattribute__") true expr) _ _ _
  unfold getAttrByItsOwn hookBefore callGetattribute
  have f3 := (PySem.F.attr_Exception).ga.bind (.ref x)
  rw [if_pos (show onTheHeap (Value.ref D) = true from rfl)]
  refine wpAny_bind (L2.at ?_)
  refine wpAny_bind (wpAny_attempt (wpAny_holding ?_))
  rw [if_neg (show ¬ ((expr && onTheHeap (Value.builtin "BaseException.__getattribute__")) = true) by simp [onTheHeap])]
  unfold boundAndCalled
  refine wpAny_bind (wpAny_of_eq f3 ?_)
  dsimp only
  refine wpAny_call (exc_callV (s := ⟨hp, gg, d, t + 1, os⟩) X I hf hm ?_)
  show wpAny _ _ (handedOut v) _ _ _
  rw [handedOut_of hh]
  exact wpAny_pure h
end
/-- what its class is to an attribute of an exception -/
structure XGet (K : Frag) (C : Addr) (f : Str) : Prop where
  ga : findIn K (.ref C) "__getattribute__" = some (some (.builtin "BaseException.__getattribute__"))
  gn : findIn K (.ref C) "__getattr__" = some none
  hd : hasDictIn K C = true
  no : findIn K (.ref C) f = some none
  mr : mroIn K C (.type "BaseException") = some true
section
variable {X : Cx} {e : Expr} {ta : TE} {f : Str} {pos : Pos}
def tXfld (X : Cx) (ta : TE) (f : Str) : TE := fun σ H Q => ta σ H fun x H1 => ∃ ea oe C dx fs v, x = .ref ea ∧ (ea, oe) ∈ X.pn ∧ ExO C (some dx) oe ∧ H1 dx = some (.xd fs) ∧ fs.lookup f = some v ∧ XGet X.K C f ∧ Q v H1
theorem pe_xfld (he : PE X e ta) (hb : attributeBase e f X.env (eval e X.env) = eval e X.env := by rfl) : PE X (.Attribute e f pos) (tXfld X ta f) := by
  intro pins s σ H Q I h
  refine attr_of hb (thn (he pins s σ H _ I h) fun u s1 ⟨x, H1, I1, rx, ea, oe, C, dx, fs, v, ex, hp, ⟨c1, c2, vs, c3, _⟩, hd, l, Z, q⟩ => ?_)
  subst ex
  obtain rfl : u = Value.ref ea := rx
  obtain ⟨mA, hn, r⟩ := I1.hok dx _ hd
  obtain ⟨od, ho, hl⟩ := lookIn_ns hn
  have hpe := (I1.pin _ (List.mem_append_left _ hp)).1
  have J : PySem.W.InstAt s1.heap ea oe C (some od) := ⟨hpe, c1, by unfold PySem.W.notCls; rw [c3], by rw [c2]; exact ho⟩
  obtain ⟨u, hu, ru⟩ := RelO.some_of (v := v) (o := mA f) (by rw [← l]; exact r f)
  exact exc_getv I1.kIn J Z.ga Z.gn (findObj_own Z.hd Z.no rfl (by rw [hl, hu])) Z.mr (handed_of ru) ⟨v, H1, I1.tok _, ru, q⟩
end
/-- a def with defaults that raises nothing -/
theorem FunD.ok0 {P : Program} {w : World} {K : PySem.W.Frag} {mg : Str → Option Value} {base : Heap} {x qual : Str} {st : Stmt} {f : Addr} {fd : FuncData} {ds : List Value} {N ps : List Str} {k : Nat} {sp : Sp} (F : FunD K x qual st f fd ds) (S : FnScope N ps (defScope st)) (len : ∀ vs H Q E, sp vs H Q E → vs.length = ps.length)
    (hbody : ∀ (cdv : Value) (A : Around) (outer : List Env) (s : Shared) (H : Hp) (vs : List V) (Q : VK) (E : XK), Room k (A.deeper (envOfC qual (defScope st) s.heap.objs.size f cdv)) → sp vs H Q E →
      ∃ t, PSs (cxOf CX0 P w K mg base N qual (defScope st) f cdv A outer s H E).nox (defBody st) t ∧ t { nx := fun _ H' => Q .non H', rt := Q } (start N vs) H) : FnOk P w K mg base CX0 (k + 1) f fd ps sp := by
  obtain ⟨oc, od, kV, doc, pm, an, cdv, ct, osl, T, o, n, rfl, lk, hcd, _, _⟩ := F.ex
  refine fn_of lk hcd S len fun A outer s H vs Q E hr hsp => ?_
  obtain ⟨t, h, q⟩ := hbody cdv A outer s H vs Q E hr hsp
  exact ⟨t, h.nox, q⟩
end L2

end
section
set_option maxHeartbeats 4000000
namespace L2
open PySem PySem.Spec PyProof.Rows
theorem kt_bool (K : PySem.W.Frag) : PySem.W.kitOne K (.type "NoneType") (.type "bool") = some false ∧ PySem.W.kitOne K (.type "bool") (.type "bool") = some true ∧ PySem.W.kitOne K (.type "int") (.type "bool") = some false ∧ PySem.W.kitOne K (.type "str") (.type "bool") = some false ∧ PySem.W.kitOne K (.type "list") (.type "bool") = some false ∧ PySem.W.kitOne K (.type "tuple") (.type "bool") = some false := by
  refine ⟨?_, ?_, ?_, ?_, ?_, ?_⟩ <;> with_unfolding_all rfl
theorem kt_two (K : PySem.W.Frag) : PySem.W.kitAny K (.type "int") [.type "int", .type "str"] = some true ∧ PySem.W.kitAny K (.type "str") [.type "int", .type "str"] = some true ∧ PySem.W.kitAny K (.type "list") [.type "int", .type "str"] = some false ∧ PySem.W.kitAny K (.type "tuple") [.type "int", .type "str"] = some false := by
  refine ⟨?_, ?_, ?_, ?_⟩ <;> with_unfolding_all rfl
theorem kt_int (K : PySem.W.Frag) : PySem.W.kitOne K (.type "int") (.type "int") = some true ∧ PySem.W.kitOne K (.type "str") (.type "int") = some false := by
  refine ⟨?_, ?_⟩ <;> with_unfolding_all rfl
theorem kt_list (K : PySem.W.Frag) : PySem.W.kitOne K (.type "list") (.type "list") = some true ∧ PySem.W.kitOne K (.type "tuple") (.type "list") = some false := by
  refine ⟨?_, ?_⟩ <;> with_unfolding_all rfl
theorem kt_tuple (K : PySem.W.Frag) : PySem.W.kitOne K (.type "list") (.type "tuple") = some false ∧ PySem.W.kitOne K (.type "tuple") (.type "tuple") = some true := by
  refine ⟨?_, ?_⟩ <;> with_unfolding_all rfl
/-- flat and equal, or two lists (two tuples) of things that are R of one another -/
def StepR (R : Hp → V → V → Prop) (H : Hp) (x y : V) : Prop := (flatV x = true ∧ x = y) ∨ (∃ a b xs ys, x = .ref a ∧ y = .ref b ∧ H a = some (.lst xs) ∧ H b = some (.lst ys) ∧ xs.length = ys.length ∧ xs.length < sizeLine ∧ ∀ (i : Nat) x y, xs[i]? = some x → ys[i]? = some y → R H x y) ∨
  ∃ a b xs ys, x = .ref a ∧ y = .ref b ∧ H a = some (.tup xs) ∧ H b = some (.tup ys) ∧ xs.length = ys.length ∧ xs.length < sizeLine ∧ ∀ (i : Nat) x y, xs[i]? = some x → ys[i]? = some y → R H x y
/-- the same data on both sides, of so many floors -/
def Alike : Nat → Hp → V → V → Prop
  | 0 => fun _ _ _ => False
  | n + 1 => StepR (Alike n)
theorem Alike.keep {H H' : Hp} (s : Same H H') : ∀ {n : Nat} {x y : V}, Alike n H x y → Alike n H' x y
  | 0, _, _, h => h
  | n + 1, x, y, h => by
    show StepR (Alike n) H' x y
    rcases (show StepR (Alike n) H x y from h) with h | ⟨a, b, xs, ys, e1, e2, h1, h2, hl, hz, k⟩ | ⟨a, b, xs, ys, e1, e2, h1, h2, hl, hz, k⟩
    · exact Or.inl h
    · exact Or.inr (Or.inl ⟨a, b, xs, ys, e1, e2, s _ _ h1, s _ _ h2, hl, hz, fun i x y p q => Alike.keep s (k i x y p q)⟩)
    · exact Or.inr (Or.inr ⟨a, b, xs, ys, e1, e2, s _ _ h1, s _ _ h2, hl, hz, fun i x y p q => Alike.keep s (k i x y p q)⟩)
theorem Alike.flat {H : Hp} {n : Nat} {x : V} (h : flatV x = true) : Alike (n + 1) H x x := Or.inl ⟨h, rfl⟩
def spR (R : Hp → V → V → Prop) : Sp := fun vs H Q _ => ∃ x y, vs = [x, y] ∧ R H x y ∧ ∀ H', Same H H' → Q (.bl true) H'
theorem FnOk.never {P : Program} {w : World} {K : PySem.W.Frag} {mg : Str → Option Value} {base : Heap} {CX : CXT} {k : Nat} {f : Addr} {fd : FuncData} {ps : List Str} : FnOk P w K mg base CX k f fd ps (spR fun _ _ _ => False) :=
  ⟨fun _ _ _ _ h => by obtain ⟨_, _, _, z, _⟩ := h; exact z.elim, fun _ _ _ _ _ _ _ _ _ _ _ _ _ h => by obtain ⟨_, _, _, z, _⟩ := h; exact z.elim⟩
theorem Same.new {H H' : Hp} {p : Addr} {o : HO} (s : Same H H') (hp : H' p = none) : Same H (upd H' p o) := fun b u e => by
  have z := s b u e
  rw [upd_ne (ne_of_none z hp)]
  exact z
/-- a list that the def has made is changed -/
theorem Same.turn {H H' : Hp} {p : Addr} {o : HO} (s : Same H H') (hp : H p = none) : Same H (upd H' p o) := fun b u e => by
  rw [upd_ne (ne_of_none e hp)]
  exact s b u e
end L2

end
section
set_option maxHeartbeats 4000000
namespace L2
open PySem PySem.Spec PyProof.Rows
/-- the refusals in the order of the laws' list -/
def errNames : List String := ["BadSize", "BadStair", "BadNumber", "NoColumn", "NoCell", "NoCorner", "NoEdge", "NotJoined", "NotSlit", "Unlike", "Wide", "BadView", "BadDrawing", "NoPatch", "TooMany", "BadName", "BadText", "NoCard", "NoPlan", "Taken", "SameCard", "Full", "NothingLeft"]
/-- where they stand -/
structure Errs (K : PySem.W.Frag) (mg : Str → Option Value) (e : Nat → Addr) (cE rE : Addr) : Prop where
  m0 : mg "BadSize" = some (.ref (e 0))
  m1 : mg "BadStair" = some (.ref (e 1))
  m2 : mg "BadNumber" = some (.ref (e 2))
  m3 : mg "NoColumn" = some (.ref (e 3))
  m4 : mg "NoCell" = some (.ref (e 4))
  m5 : mg "NoCorner" = some (.ref (e 5))
  m6 : mg "NoEdge" = some (.ref (e 6))
  m7 : mg "NotJoined" = some (.ref (e 7))
  m8 : mg "NotSlit" = some (.ref (e 8))
  m9 : mg "Unlike" = some (.ref (e 9))
  m10 : mg "Wide" = some (.ref (e 10))
  m11 : mg "BadView" = some (.ref (e 11))
  m12 : mg "BadDrawing" = some (.ref (e 12))
  m13 : mg "NoPatch" = some (.ref (e 13))
  m14 : mg "TooMany" = some (.ref (e 14))
  m15 : mg "BadName" = some (.ref (e 15))
  m16 : mg "BadText" = some (.ref (e 16))
  m17 : mg "NoCard" = some (.ref (e 17))
  m18 : mg "NoPlan" = some (.ref (e 18))
  m19 : mg "Taken" = some (.ref (e 19))
  m20 : mg "SameCard" = some (.ref (e 20))
  m21 : mg "Full" = some (.ref (e 21))
  m22 : mg "NothingLeft" = some (.ref (e 22))
  mC : mg "CardError" = some (.ref cE)
  mR : mg "RoomError" = some (.ref rE)
  mV : mg "ValueError" = none
  mL : mg "LookupError" = none
  qC : clsIn K cE [.type "ValueError", .type "Exception", .type "BaseException", .type "object"] = true
  qR : clsIn K rE [.type "LookupError", .type "Exception", .type "BaseException", .type "object"] = true
/-- the j-th refusal's class, by itself -/
structure ErrAt (K : PySem.W.Frag) (e : Nat → Addr) (cE rE : Addr) (j : Nat) : Prop where
  lt : j < 23
  z : ExcK K (e j)
  is : ∀ i, i < 23 → PySem.W.kitOne K (.ref (e j)) (.ref (e i)) = some (decide (i = j))
  c : PySem.W.kitOne K (.ref (e j)) (.ref cE) = some (decide (j < 17))
  v : PySem.W.kitOne K (.ref (e j)) (.type "ValueError") = some (decide (j < 17))
  r : PySem.W.kitOne K (.ref (e j)) (.ref rE) = some (!decide (j < 17))
  l : PySem.W.kitOne K (.ref (e j)) (.type "LookupError") = some (!decide (j < 17))
def spKind (K : PySem.W.Frag) (e : Nat → Addr) (cE rE : Addr) : Addr → Obj → Sp := fun ea oe vs H Q _ => ∃ j, vs = [.ref ea] ∧ ErrAt K e cE rE j ∧ oe.cls = .ref (e j) ∧ ExD oe ∧ ExDict oe H ∧ ∀ H', Same H H' → Q (.str (errNames.getD j "")) H'
def flg (j n : Nat) : List V := (List.range n).map fun i => V.bl (decide (i = j))
theorem flg_room : ∀ j, j < 23 → inV (.bl true) (cutV (flg j 23) (some 17) none) = (!decide (j < 17)) ∧ (cutV (flg j 23) (some 17) none).all flatV = true := by decide +kernel
def wordsA : Str := "BadSize BadStair BadNumber NoColumn NoCell NoCorner NoEdge NotJoined NotSlit Unlike Wide BadView "
def wordsB : Str := "BadDrawing NoPatch TooMany BadName BadText NoCard NoPlan Taken SameCard Full NothingLeft"
theorem words_split : Txt.split (wordsA ++ wordsB) " " = errNames.map Str.ofString := by decide +kernel
theorem words_len : wordsA.length + wordsB.length ≤ 1000 := by decide +kernel
theorem join_one : ∀ j, j < 23 → Txt.join "+" [Str.ofString (errNames.getD j "")] = Str.ofString (errNames.getD j "") := by decide +kernel
theorem ExDict.keep {oe : Obj} {H H' : Hp} (h : ExDict oe H) (s : Same H H') : ExDict oe H' := by
  rcases h with h | ⟨dx, u, a, b⟩
  · exact .inl h
  · exact .inr ⟨dx, u, a, s _ _ b⟩
end L2

end
section
set_option maxHeartbeats 4000000
namespace L2
open PySem PySem.Spec PyProof.Rows
section
variable {X : Cx} {o : Expr} {to : TE} {i : Nat} {x : Str} {apos pos p1 p2 p3 p4 p5 p6 : Pos} {j1 j2 j3 : Nat}
def tRep (to : TE) (i : Nat) : TE := fun σ H Q => to σ H fun a H1 => ∃ (z : Str) (n : Nat), a = .str z ∧ z.length ≤ 1000 ∧ σ[i]? = some (some (.int (n : Nat))) ∧ ∀ z' : Str, z'.length ≤ z.length → Q (.str z') H1
end
end L2

end
section
set_option maxHeartbeats 4000000
namespace L2
open PySem PySem.Spec PyProof.Rows
/-! ### the wall cells of a stair -/
def ws (p : C2) : List Bool → List C2
  | [] => []
  | b :: r => (if b then [p] else []) ++ ws (step p b) r
/-! ### a call of one of two defs that a list holds -/
section
variable {X : Cx} {CX : CXT} {k1 k2 : Nat} {f1 f2 : Addr} {fd1 fd2 : FuncData} {ps1 ps2 : List Str} {sp1 sp2 : Sp} {E : XK} {e0 e : Expr} {es : List Expr} {t0 : TE} {t : TA} {pos : Pos}
def tCallE (f1 f2 : Addr) (sp1 sp2 : Sp) (E : XK) (t0 : TE) (t : TA) : TE := fun σ H Q => t0 σ H fun v H1 => (v = .ref f1 ∧ t σ H1 fun vs H2 => sp1 (vs ++ []) H2 Q E) ∨ (v = .ref f2 ∧ t σ H1 fun vs H2 => sp2 (vs ++ []) H2 Q E)
end
end L2

end
section
set_option maxHeartbeats 4000000
namespace L2
open PySem PySem.Spec PyProof.Rows
/-! ### a text turned round -/
def revS (z : Str) : Str := ⟨z.cps.toList.reverse.toArray⟩
section
variable {X : Cx} {e st : Expr} {te ts : TE} {pos p2 : Pos}
def tRevS (te ts : TE) : TE := fun σ H Q => te σ H fun v H1 => ts σ H1 fun u H2 => ∃ z, v = .str z ∧ u = .int (-1) ∧ z.length ≤ sizeLine ∧ Q (.str (revS z)) H2
end
end L2

end
section
set_option maxHeartbeats 4000000
namespace L2
open PySem PySem.Spec PyProof.Rows
section
variable {X : Cx} {a b : Expr} {ta : TA} {p p' pos pos' : Pos}
/-- list(range(a, b)) -/
def tLR (ta : TA) : TE := fun σ H Q => ta σ H fun vs H1 => ∃ i j : Int, vs = [.int i, .int j] ∧ (-(2 ^ 62) ≤ i ∧ i < 2 ^ 62 ∧ -(2 ^ 62) ≤ j ∧ j < 2 ^ 62) ∧ (j - i).toNat ≤ 1000 ∧
  ∀ l, H1 l = none → Q (.ref l) (upd H1 l (.lst ((List.range (j - i).toNat).map fun k => V.int (i + (k : Nat)))))
end
section
variable {X : Cx} {i : Nat} {x : Str} {es : List Expr} {tr : TA} {p1 p2 p3 p4 p5 p6 apos cpos : Pos} {k1 k2 k3 : Nat}
/-- (x + "x", x.replace("w", ""), ..) -/
def tTwo (i : Nat) (tr : TA) : TA := fun σ H Q => ∃ z : Str, σ[i]? = some (some (.str z)) ∧ 1 ≤ z.length ∧ z.length ≤ 1000 ∧ tr σ H fun xs H2 => Q (.str (z ++ "x") :: .str (Txt.replace z "w" "") :: xs) H2
end
end L2

end
section
set_option maxHeartbeats 4000000
namespace L2
open PySem PySem.Spec PyProof.Rows
/-! ### a set of up to four pairs: its table -/
def tab (led : Bool) (l : List Nat) : SetTable := ⟨7, l.toArray, #[], 0, led, 0, true⟩
/-- rising lists of places: n of them from lo on -/
def rlists : Nat → Nat → List (List Nat)
  | 0, _ => [[]]
  | n + 1, lo => (List.range 8).flatMap fun a => if lo ≤ a then (rlists n (a + 1)).map (a :: ·) else []
def Pl (n : Nat) : List (List Nat) := rlists n 0
def rchB (l : List Nat) : Nat → SetTable.Probe → Bool
  | 0, p => decide ((tab true l).slot p.j = .empty)
  | n + 1, p => decide ((tab true l).slot p.j = .empty) || rchB l n ((tab true l).advance p)
def PGood (p : SetTable.Probe) : Prop := p.more = 0 ∧ p.j = p.i ∧ p.i < 8 ∧ p.dummy = none
/-- a place more -/
def putL (l : List Nat) (j : Nat) : List Nat := (SetTable.insertAt l.toArray (SetTable.below l.toArray j) j).toList
end L2

end
section
set_option maxHeartbeats 4000000
namespace L2
open PySem PySem.Spec PyProof.Rows
section
variable {prog : Program} {w : World} {A : Around} {E : Value → Shared → Prop} {s : Shared}
abbrev PKy (prog : Program) (w : World) (h : Heap) (c : C2) (a : Addr) : Prop := IsTupleKey (intKind prog w) h [c.1, c.2] a
def hP (prog : Program) (w : World) (c : C2) : Int := tupleKeyHash (intKind prog w) [c.1, c.2]
def setO (es : Array (Int × Value)) (ep : Nat) (t : SetTable) : Obj := { cls := .type "set", dict := none, data := .set es ep t, slots := #[] }
def entP (prog : Program) (w : World) (d : C2 × Addr) : Int × Value := (hP prog w d.1, .ref d.2)
/-- the set at S holds the pairs ds, in the order of its entries -/
def SetP (prog : Program) (w : World) (h : Heap) (S : Addr) (led : Bool) (ds : List (C2 × Addr)) : Prop :=
  ∃ (es : Array (Int × Value)) (ep : Nat) (l : List Nat), h.get? S = some (setO es ep (tab led l)) ∧ l ∈ Pl ds.length ∧ es.toList = ds.map (entP prog w)
end
end L2

end
section
set_option maxHeartbeats 4000000
namespace L2
open PySem PySem.Spec PyProof.Rows
section
variable {prog : Program} {w : World} {A : Around} {R : Result → Shared → Prop} {I : Addr} {fp wr : List Addr} {G : Array GenState → Array GenState → Prop} {n : Nat} {P : Nat → Value → Prop} {St : Nat → Shared → Prop}
end
end L2

end
section
set_option maxHeartbeats 4000000
namespace L2
open PySem PySem.Spec PyProof.Rows
def byT (w : World) : Bool := w.params.followText "set-order"
section
variable {prog : Program} {w : World} {A : Around} {E : Value → Shared → Prop} {s : Shared}
end
end L2

end
section
set_option maxHeartbeats 4000000
namespace L2
open PySem PySem.Spec PyProof.Rows
def itO (a : Addr) (slot i n ep : Int) : Obj := { cls := .type "set_iterator", data := .fields #[.int slot 0, .int i 0, .ref a, .int n 0, .int ep 0] }
section
variable {prog : Program} {w : World} {A : Around} {E : Value → Shared → Prop} {s : Shared}
def ordS (w : World) (S : Addr) (ep : Nat) (es : Array (Int × Value)) : Array (Int × Value) := if byT w then pickOrder (w.params.setOrder S ep) es else es
def slotAt (b : Bool) (l : List Nat) (i : Nat) : Nat := if b then 0 else match i with | 0 => 0 | i + 1 => l.getD i 0 + 1
end
end L2

end
section
set_option maxHeartbeats 4000000
namespace L2
open PySem PySem.Spec PyProof.Rows
section
variable {prog : Program} {w : World} {A : Around} {E : Value → Shared → Prop} {s : Shared}
end
end L2

end
section
set_option maxHeartbeats 4000000
namespace L2
open PySem PySem.Spec PyProof.Rows
section
variable {prog : Program} {w : World} {A : Around} {E : Value → Shared → Prop} {s : Shared}
end
end L2

end
section
set_option maxHeartbeats 4000000
namespace L2
open PySem PySem.Spec PyProof.Rows
section
variable {X : Cx} {e : Expr} {te : TE} {p p' pos pos' : Pos}
def tSortedSet (K : PySem.W.Frag) (te : TE) : TE := fun σ H Q => te σ H fun v H1 => ∃ (a : Addr) (xs : List V) (cs : List C2), v = .ref a ∧ SqL K H1 a xs ∧ Prs K H1 xs cs ∧ cs.Nodup ∧ cs.length ≤ 4 ∧
  ∀ (xs' : List V) (cs' : List C2) (l : Addr), Prs K H1 xs' cs' → cs'.Perm cs → Rising cs' → H1 l = none → Q (.ref l) (upd H1 l (.lst xs'))
end
end L2

end
section
set_option maxHeartbeats 4000000
namespace L2
open PySem PySem.Spec PyProof.Rows
section
variable {X : Cx} {e st : Expr} {es : List Expr} {te ts : TE} {tr : TA} {p p2 pos : Pos}
/-- *e, .. in a display -/
def tStar (K : PySem.W.Frag) (te : TE) (tr : TA) : TA := fun σ H Q => te σ H fun v H1 => ∃ (a : Addr) (ys : List V), v = .ref a ∧ (SqL K H1 a ys ∨ SqT K H1 a ys) ∧ tr σ H1 fun xs H2 => Q (ys ++ xs) H2
theorem pa_star (he : PE X e te) (hr : PA X es tr) : PA X (.Starred e p :: es) (tStar X.K te tr) := by
  intro pos pins s σ H Q I h
  refine PySem.W.items_star (thn (he pins s σ H _ I h) fun v s1 ⟨x, H1, I1, r1, a, ys, ex, hq, q⟩ => ?_)
  subst ex
  cases r1
  have fin : ∀ (its : List Value), Vals ys its → ∀ h' : Heap, (∀ b o, s1.heap.get? b = some o → h'.get? b = some o) → wpAny (model X.prog X.w) X.A (spliced (backTo pos (starEach es X.env))) (fun vs s3 => AP X pins σ Q (its ++ vs) s3) X.xe { s1 with heap := h' } := fun its rv h' k =>
    thn (hr pos pins _ σ H1 _ (I1.kept (t' := s1.toks) k) q) fun us s2 ⟨xs, H2, I2, r2, q2⟩ => ⟨ys ++ xs, H2, I2, rv.append r2, q2⟩
  unfold PySem.W.StarOf notIterableAtAll
  rcases hq with hq | hq
  · obtain ⟨its, rv, pl, hz⟩ := I1.list hq
    have hlen := rv.length
    obtain ⟨o, ho, hc, n, hd⟩ := pl.isList
    refine wpAny_bind (wpAny_specialOf (T := "list") ⟨o, ho, hc⟩ PySem.F.slot_list_iter.lookup (wpAny_pure ⟨rfl, ?_⟩))
    exact wpAny_collect_seq a (.inl rfl) ho hc hd (fun h' k => fin its rv h' k) (by simp only [List.size_toArray]; omega)
  · obtain ⟨its, rv, pl, hz⟩ := I1.tuple hq
    have hlen := rv.length
    obtain ⟨o, ho, hc, n, hd⟩ := pl
    refine wpAny_bind (wpAny_specialOf (T := "tuple") ⟨o, ho, hc⟩ PySem.F.slot_tuple_iter.lookup (wpAny_pure ⟨rfl, ?_⟩))
    exact wpAny_collect_seq a (.inr rfl) ho hc hd (fun h' k => fin its rv h' k) (by simp only [List.size_toArray]; omega)
/-- e[::-1], e a list -/
def tRevL (K : PySem.W.Frag) (te ts : TE) : TE := fun σ H Q => te σ H fun v H1 => ts σ H1 fun u H2 => ∃ (a : Addr) (ys : List V), v = .ref a ∧ u = .int (-1) ∧ SqL K H2 a ys ∧ ∀ l, H2 l = none → Q (.ref l) (upd H2 l (.lst ys.reverse))
end
end L2

end
section
set_option maxHeartbeats 4000000
namespace L2
open PySem PySem.Spec PyProof.Rows
section
variable {X : Cx} {CX : CXT} {k : Nat} {f C : Addr} {fd : FuncData} {ps : List Str} {sp : Sp} {E : XK}
/-- a == b, both of a class whose __eq__ is a def of the text -/
def rEqO (C : Addr) (sp : Sp) (E : XK) : R2 := fun x y H Q => ∃ a b dx fs dx' fs', x = .ref a ∧ y = .ref b ∧ H a = some (.ins C dx fs) ∧ H b = some (.ins C dx' fs') ∧ sp [.ref a, .ref b] H (fun v H2 => ∃ z, v = .bl z ∧ Q (.bl z) H2) E
end
end L2

end
section
set_option maxHeartbeats 4000000
namespace L2
open PySem PySem.Spec PyProof.Rows
/-! ### what may be compared -/
abbrev dS (l : List Bool) : PyData := .str (stS l)
section
variable {X : Cx}
end
end L2

end
section
set_option maxHeartbeats 4000000
namespace L2
open PySem PySem.Spec PyProof.Rows
section
variable {X : Cx} {CX : CXT} {k : Nat} {f C : Addr} {fd : FuncData} {ps : List Str} {sp : Sp} {E : XK}
end
end L2

end
section
set_option maxHeartbeats 4000000
namespace L2
open PySem
/-! ### what is known of a def, of a method, of a class, by its name alone -/
def OkC (CX : CXT) (P : Program) (w : World) (K : PySem.W.Frag) (mg : Str → Option Value) (base : Heap) (n : Nat) (x : Str) (ps : List Str) (ds : List V) (sp : Sp) : Prop :=
  ∃ (f : Addr) (fd : FuncData) (us : List Value), FnOk P w K mg base CX n f fd ps sp ∧ PySem.W.keepIn K (.ref f) = true ∧ Binds K fd ps us ∧ Vals ds us ∧ mg x = some (.ref f)
abbrev Ok (P : Program) (w : World) (K : PySem.W.Frag) (mg : Str → Option Value) (base : Heap) (n : Nat) (x : Str) (ps : List Str) (sp : Sp) : Prop := OkC CX0 P w K mg base n x ps [] sp
def MOkC (CX : CXT) (P : Program) (w : World) (K : PySem.W.Frag) (mg : Str → Option Value) (base : Heap) (C : Addr) (n : Nat) (x : Str) (ps : List Str) (ds : List V) (sp : Sp) : Prop :=
  ∃ (f : Addr) (fd : FuncData) (us : List Value), FnOk P w K mg base CX n f fd ps sp ∧ Binds K fd ps us ∧ Vals ds us ∧ Meth K C x f ∧ Cls K C
abbrev MOk (P : Program) (w : World) (K : PySem.W.Frag) (mg : Str → Option Value) (base : Heap) (C : Addr) (n : Nat) (x : Str) (ps : List Str) (sp : Sp) : Prop := MOkC CX0 P w K mg base C n x ps [] sp
def NOkC (CX : CXT) (P : Program) (w : World) (K : PySem.W.Frag) (mg : Str → Option Value) (base : Heap) (C : Addr) (n : Nat) (x : Str) (ps : List Str) (ds : List V) (sp : Sp) : Prop :=
  ∃ (f : Addr) (fd : FuncData) (us : List Value), FnOk P w K mg base CX n f fd ps sp ∧ Binds K fd ps us ∧ Vals ds us ∧ Mk K C f ∧ mg x = some (.ref C)
section
variable {P : Program} {w : World} {K : PySem.W.Frag} {mg : Str → Option Value} {base : Heap} {CX : CXT}
theorem ok_mk {n : Nat} {x : Str} {ps : List Str} {sp : Sp} {f : Addr} {fd : FuncData} (g : FnOk P w K mg base CX n f fd ps sp) (k : PySem.W.keepIn K (.ref f) = true) (b : Binds K fd ps []) (m : mg x = some (.ref f)) : OkC CX P w K mg base n x ps [] sp := ⟨f, fd, [], g, k, b, .nil, m⟩
end
section
variable {X : Cx} {CX : CXT} {n k : Nat} {C : Addr} {ps : List Str} {sp : Sp} {dvs : List V} {E : XK} {x m : Str} {p pos apos : Pos} {e o : Expr} {es : List Expr} {ta : TE} {t : TA}
/-- a call of a def -/
theorem pe_okC (g : OkC CX X.prog X.w X.K X.mg X.base n x ps dvs sp) (hr : Room k X.A) (hg : Gl X x) (hx : Passes CX X E) (ha : PA X (e :: es) t) (hn : n ≤ k := by decide)
    (hdb : (x == ("__debug__" : Str)) = false := by decide) (he : starEach (e :: es) X.env = (false, eval e X.env) :: starEach es X.env := by rfl) (hpl : (backTo pos (starEach es X.env)).any (·.1) = false := by rfl) :
    PE X (.Call (.Name x p) (e :: es) [] pos) (tCall sp dvs E t) := by
  obtain ⟨f, fd, us, F, hk, hb, hd, hm⟩ := g
  exact pe_call F (hr.mono hn) hg hm hk hb hd hx ha hdb he hpl
theorem pe_ok (g : OkC CX0 X.prog X.w X.K X.mg X.base n x ps dvs sp) (hr : Room k X.A) (hg : Gl X x) (ha : PA X (e :: es) t) (hn : n ≤ k := by decide)
    (hdb : (x == ("__debug__" : Str)) = false := by decide) (he : starEach (e :: es) X.env = (false, eval e X.env) :: starEach es X.env := by rfl) (hpl : (backTo pos (starEach es X.env)).any (·.1) = false := by rfl) :
    PE X (.Call (.Name x p) (e :: es) [] pos) (tCall sp dvs E0 t) := pe_okC g hr hg pass0 ha hn hdb he hpl
end
end L2

end
section
set_option maxHeartbeats 4000000
namespace L2
open PySem
/-! ### lists of things -/
abbrev RR (α : Type) := Hp → V → α → Prop
def Keeps {α : Type} (R : RR α) : Prop := ∀ H H' x d, Same H H' → R H x d → R H' x d
def LOf {α : Type} (R : RR α) : RR (List α) := fun H v ds => ∃ a xs, v = .ref a ∧ H a = some (.lst xs) ∧ Paired (R H) xs ds
def RI : RR Int := fun _ x n => x = .int n
def RS : RR Str := fun _ x z => x = .str z
def RB : RR Bool := fun _ x b => x = .bl b
def RP : RR C2 := fun H x c => ∃ p, x = .ref p ∧ H p = some (.tup [.int c.1, .int c.2])
/-- the same of both: the law's own look finds them the same -/
def Likes {α : Type} (n : Nat) (R : RR α) : Prop := ∀ H x y d, R H x d → R H y d → Alike n H x y
/-! ### what is new -/
/-- of the later heap what the earlier one had not -/
def nw (H H' : Hp) : Hp := fun b => if (H b).isSome then none else H' b
/-- a list that is being made at D -/
def Bld {α : Type} (R : RR α) (H : Hp) (D : Addr) (H2 : Hp) (ds : List α) : Prop := ∃ zs, H2 D = some (.lst zs) ∧ Paired (R (drp (nw H H2) D)) zs ds ∧ Same H H2
section
variable {α : Type} {R : RR α} {H H1 H2 H3 : Hp} {D : Addr} {ds : List α}
end
end L2

end
section
set_option maxHeartbeats 4000000
namespace L2
open PySem PySem.Spec PyProof.Rows
section
variable {prog : Program} {w : World} {A : Around} {E : Value → Shared → Prop} {s : Shared} {l : Addr}
end
section
variable {X : Cx}
/-- max(t) of a tuple of ints -/
def rMaxT (K : PySem.W.Frag) : List V → Hp → VK → Prop := fun vs H Q => ∃ (a : Addr) (ns : List Int), vs = [V.ref a] ∧ SqT K H a (ns.map V.int) ∧ 0 < ns.length ∧ ∀ m, m ∈ ns → (∀ y, y ∈ ns → y ≤ m) → Q (.int m) H
end
/-- for i in range(n) -/
theorem for_range0 {n : Nat} {g : TG} {tb : TS} {D : Ends} {σ : St} {H : Hp} (Pv : Nat → St → Hp → Prop) (h0 : Pv 0 σ H)
    (hs : ∀ i σ H, i < n → Pv i σ H → g (.int ((i : Nat) : Int)) σ H fun σ2 H2 => tb { D with nx := Pv (i + 1), ct := Pv (i + 1), bk := D.nx } σ2 H2) (hd : ∀ σ H, Pv n σ H → D.nx σ H) :
    ∃ W : Nat → Nat → St → Hp → Prop, (∃ m, W 0 m σ H) ∧ ∀ i m σ H, W i m σ H →
      ((Itr 0 n).stop i H ∧ D.nx σ H) ∨ ((Itr 0 n).go i H ∧ ∃ N : St → Hp → Prop, (∀ σ' H', N σ' H' → ∃ m', m' < m ∧ W (i + 1) m' σ' H') ∧ ∀ x H', (Itr 0 n).yld i H x H' → g x σ H' fun σ2 H2 => tb { D with nx := N, ct := N, bk := D.nx } σ2 H2) :=
  for_range Pv h0 (fun i σ H hi p => by rw [Int.zero_add]; exact hs i σ H hi p) hd
end L2

end
section
set_option maxHeartbeats 4000000
namespace L2
open PySem PySem.Spec PyProof.Rows
section
variable {X : Cx}
/-- xs.count(n) of a list of ints -/
def rCountI (K : PySem.W.Frag) : V → List V → Hp → VK → Prop := fun x xs H Q => ∃ (a : Addr) (ns : List Int) (n : Int), x = V.ref a ∧ xs = [.int n] ∧ SqL K H a (ns.map V.int) ∧ Q (.int (ns.count n : Nat)) H
/-- o[i] of a list, as an own step -/
def rGetL (K : PySem.W.Frag) : V → V → Hp → VK → Prop := fun x y H Q => ∃ (p : Addr) (xs : List V) (j : Nat) (v : V), x = .ref p ∧ y = .int (j : Nat) ∧ SqL K H p xs ∧ xs[j]? = some v ∧ Q v H
end
/-! ### [f(x) for x in ..]: a list of new things -/
end L2

end
section
set_option maxHeartbeats 4000000
namespace L2
open PySem PySem.Spec PyProof.Rows
/-! ### enumerate(text) -/
def Itse (x : Str) : It :=
  ⟨fun i _ => i < x.cps.size, fun i H v H' => ∃ T c, v = .ref T ∧ H T = none ∧ H' = upd H T (.tup [.int (i : Nat), .str ⟨#[c]⟩]) ∧ x.cps[i]? = some c, fun i _ => i = x.cps.size⟩
def iEnumS (ta : TA) : TI := fun σ H R => ta σ H fun vs H1 => ∃ x, vs = [.str x] ∧ R (Itse x) H1
end L2

end
section
set_option maxHeartbeats 4000000
namespace L2
open PySem PySem.Spec PyProof.Rows
/-! ### == and != of lists of numbers and of lists of these -/
abbrev dI (ns : List Int) : PyData := .list (ns.map PyData.int)
abbrev dII (nss : List (List Int)) : PyData := .list (nss.map dI)
section
variable {X : Cx}
/-- x != y, the same data on both sides -/
def rNeS (K : PySem.W.Frag) : R2 := fun x y H Q => ∃ d, Dp K H x d ∧ Dp K H y d ∧ SeqAt.shaped d = true ∧ Q (.bl false) H
end
end L2

end
section
set_option maxHeartbeats 4000000
namespace L2
open PySem PySem.Spec PyProof.Rows
/-! ### a set of pairs, its table of 8 or of 32 places -/
def tabM (M mv : Nat) (led : Bool) (l : List Nat) : SetTable := ⟨M, l.toArray, #[], 0, led, mv, true⟩
structure TOk (M n : Nat) (l : List Nat) : Prop where
  m : M = 7 ∨ M = 31 ∨ M = 127 ∨ M = 511
  len : l.length = n
  asc : l.Pairwise (· < ·)
  lt : ∀ j ∈ l, j ≤ M
  cap : n ≤ M
/-! the place where j is or would be -/
structure BelowAt (l : List Nat) (j k : Nat) : Prop where
  le : k ≤ l.length
  lo : ∀ i x, i < k → l[i]? = some x → x < j
  hi : ∀ i x, k ≤ i → l[i]? = some x → j ≤ x
section
variable {M mv n : Nat} {led : Bool} {l : List Nat}
end
/-- a place more -/
def putM (l : List Nat) (j : Nat) : List Nat := l.take (SetTable.below l.toArray j) ++ j :: l.drop (SetTable.below l.toArray j)
/-! walking -/
/-! an empty place -/
def itM (M : Nat) (i : Nat) : Nat → Nat
  | 0 => i
  | t + 1 => itM M ((i * 5 + 1) % (M + 1)) t
/-- the places that are met, as bits -/
def gosM (M : Nat) : Nat → Nat → Nat → Nat
  | 0, _, acc => acc
  | f + 1, i, acc => gosM M f ((i * 5 + 1) % (M + 1)) (acc ||| (1 <<< i))
/-! ways through the table -/
def rchT (t : SetTable) : Nat → SetTable.Probe → Bool
  | 0, p => decide (t.slot p.j = .empty)
  | n + 1, p => decide (t.slot p.j = .empty) || rchT t n (t.advance p)
structure PGd (M : Nat) (p : SetTable.Probe) : Prop where
  d : p.dummy = none
  m9 : p.more ≤ 9
  jm : p.j + p.more ≤ M
  i : p.i ≤ M
def leapP (M : Nat) (p : SetTable.Probe) : SetTable.Probe := ⟨(p.i * 5 + 1 + p.perturb / 32) % (M + 1), SetTable.runEnd M ((p.i * 5 + 1 + p.perturb / 32) % (M + 1)) - (p.i * 5 + 1 + p.perturb / 32) % (M + 1), (p.i * 5 + 1 + p.perturb / 32) % (M + 1), p.perturb / 32, p.dummy⟩
section
variable {M mv n : Nat} {led : Bool} {l : List Nat}
end
end L2

end
section
set_option maxHeartbeats 4000000
namespace L2
open PySem PySem.Spec PyProof.Rows
/-! ### a table laid anew, of 32 places -/
def seqL (M : Nat) : Nat → Nat → Nat → Nat
  | i, _, 0 => i
  | i, p, t + 1 => seqL M ((i * 5 + 1 + p / 32) % (M + 1)) (p / 32) t
def liveL (owner : Array (Option Nat)) (L : List Nat) : List (Nat × Nat) := L.filterMap fun j => (owner.getD j none).map fun x => (j, x)
structure Own (M : Nat) (owner : Array (Option Nat)) (k : Nat) : Prop where
  size : owner.size = M + 1
  live : ((liveL owner (List.range (M + 1))).map (·.2)).Perm (List.range k)
section
variable {prog : Program} {w : World} {A : Around} {E : Value → Shared → Prop} {s : Shared}
/-- when a table is laid anew, and how large it is then -/
def Gro (M n M' : Nat) : Prop := (M = 7 ∧ n = 5 ∧ M' = 31) ∨ (M = 31 ∧ n = 19 ∧ M' = 127) ∨ (M = 127 ∧ n = 77 ∧ M' = 511)
end
end L2

end
section
set_option maxHeartbeats 4000000
namespace L2
open PySem PySem.Spec PyProof.Rows
section
variable {prog : Program} {w : World} {A : Around} {E : Value → Shared → Prop} {s : Shared}
/-- the set at S holds the pairs ds, in the order of its entries -/
def SetQ (prog : Program) (w : World) (h : Heap) (S : Addr) (led : Bool) (ds : List (C2 × Addr)) : Prop :=
  ∃ (es : Array (Int × Value)) (ep M mv : Nat) (l : List Nat), h.get? S = some (setO es ep (tabM M mv led l)) ∧ TOk M ds.length l ∧ ds.length * 5 < M * 3 ∧ es.toList = ds.map (entP prog w)
end
end L2

end
section
set_option maxHeartbeats 4000000
namespace L2
open PySem PySem.Spec PyProof.Rows
section
variable {prog : Program} {w : World} {A : Around} {R : Result → Shared → Prop} {I : Addr} {fp wr : List Addr} {G : Array GenState → Array GenState → Prop} {n : Nat} {P : Nat → Value → Prop} {St : Nat → Shared → Prop}
end
section
variable {prog : Program} {w : World} {A : Around} {E : Value → Shared → Prop} {s : Shared}
end
end L2

end
section
set_option maxHeartbeats 4000000
namespace L2
open PySem PySem.Spec PyProof.Rows
section
variable {prog : Program} {w : World} {A : Around} {E : Value → Shared → Prop} {s : Shared}
end
end L2

end
section
set_option maxHeartbeats 4000000
namespace L2
open PySem PySem.Spec PyProof.Rows
section
variable {prog : Program} {w : World} {A : Around} {E : Value → Shared → Prop} {s : Shared}
end
section
variable {X : Cx} {e : Expr} {te : TE} {p p' pos pos' : Pos}
def tSortedSetM (K : PySem.W.Frag) (te : TE) : TE := fun σ H Q => te σ H fun v H1 => ∃ (a : Addr) (xs : List V) (cs : List C2), v = .ref a ∧ SqL K H1 a xs ∧ Prs K H1 xs cs ∧ cs.Nodup ∧ cs.length ≤ 300 ∧
  ∀ (xs' : List V) (cs' : List C2) (l : Addr), Prs K H1 xs' cs' → cs'.Perm cs → Rising cs' → H1 l = none → Q (.ref l) (upd H1 l (.lst xs'))
end
end L2

end
section
set_option maxHeartbeats 4000000
namespace L2
open PySem PySem.Spec PyProof.Rows
section
variable {X : Cx} {CX : CXT} {k n : Nat} {f C : Addr} {fd : FuncData} {ps ks : List Str} {sp : Sp} {E : XK} {x m : Str} {p pos apos kpos : Pos} {e o : Expr} {es : List Expr} {kws : List Keyword} {te ta : TE} {t tk : TA} {nm : Option Str}
variable {g : List Value → List Value → List Value} {gV : List V → List V → List V}
def tMethK (C : Addr) (m : Str) (sp : Sp) (gV : List V → List V → List V) (E : XK) (ta : TE) (t tk : TA) : TE := fun σ H Q => ta σ H fun x H1 => ∃ a dx fs, x = .ref a ∧ H1 a = some (.ins C dx fs) ∧ fs.lookup m = none ∧ t σ H1 fun vs H2 => tk σ H2 fun zs H3 => sp (gV (x :: vs) zs) H3 Q E
end
/-- a method by keywords, known by its name alone -/
def MOkK (CX : CXT) (P : Program) (w : World) (K : PySem.W.Frag) (mg : Str → Option Value) (base : Heap) (C : Addr) (n : Nat) (m : Str) (ps ks : List Str) (gV : List V → List V → List V) (sp : Sp) : Prop :=
  ∃ (f : Addr) (fd : FuncData) (g : List Value → List Value → List Value), FnOk P w K mg base CX n f fd ps sp ∧ KBinds K fd ps ks g gV ∧ Meth K C m f ∧ Cls K C
section
variable {X : Cx} {CX : CXT} {k n : Nat} {C : Addr} {ps ks : List Str} {sp : Sp} {E : XK} {m : Str} {pos apos : Pos} {e o : Expr} {es : List Expr} {kws : List Keyword} {ta : TE} {t tk : TA} {gV : List V → List V → List V}
end
end L2

end
section
set_option maxHeartbeats 4000000
namespace L2
open PySem PySem.Spec PyProof.Rows
section
variable {X : Cx}
/-! ### sorted(a list of texts), of any length -/
def rSortedSA (K : PySem.W.Frag) : List V → Hp → VK → Prop := fun vs H Q => ∃ (a : Addr) (xs : List Str), vs = [V.ref a] ∧ SqL K H a (xs.map V.str) ∧
  ∀ (ys : List Str) (p : Addr), ys.Perm xs → sortedS ys = true → H p = none → Q (.ref p) (upd H p (.lst (ys.map V.str)))
theorem cr_sortedSA : CallR X (.builtin "sorted") (rSortedSA X.K) := by
  intro pins s σ H vs us Q I r h
  obtain ⟨a, xs, rfl, hs, q⟩ := h
  obtain ⟨its, rv, hl, hz⟩ := I.list hs
  rw [Vals.ref1 r]
  have hlen0 := rv.length
  rw [List.length_map] at hlen0 hz
  refine PyProof.Rows.sorted_strsAny hl.isList rv.strs (by rw [← hlen0]; exact hz) fun out ys h1 h2 h3 => ?_
  obtain ⟨ep, he'⟩ := PyProof.Rows.sortedAll_at s.heap its out
  have hlen : (ys.map V.str).length ≤ sizeLine := by rw [List.length_map, h2.length_eq]; exact hz
  exact ⟨.ref _, upd H (s.heap.objs.size + 1) (.lst (ys.map V.str)), I.laid (t' := s.toks) (fun _ _ => PyProof.Rows.sortedAll_old) (Nat.le_succ _) ⟨hlen, out.toList, ep, vals_of_strs h1, he'⟩, rfl, q ys _ h2 h3 (I.hok.fresh (Nat.le_succ _))⟩
end
/-! ### a, b, c = x, y, z -/
section
variable {X : Cx} {pos : Pos}
def tPar3 (i j k : Nat) (ta : TA) : TS := fun D σ H => ta σ H fun vs H1 => ∃ u v w, vs = [u, v, w] ∧ D.nx (((σ.set i (some u)).set j (some v)).set k (some w)) H1
end
section
variable {X : Cx} {a : Expr} {ta : TA} {p p' pos pos' : Pos}
/-! ### list(range(n)) -/
def tLR1 (ta : TA) : TE := fun σ H Q => ta σ H fun vs H1 => ∃ j : Int, vs = [.int j] ∧ (-(2 ^ 62) ≤ j ∧ j < 2 ^ 62) ∧ j.toNat ≤ 1000 ∧
  ∀ l, H1 l = none → Q (.ref l) (upd H1 l (.lst ((List.range j.toNat).map fun k => V.int ((k : Nat) : Int))))
end
end L2

end
section
set_option maxHeartbeats 4000000
namespace L2
open PySem PySem.Spec PyProof.Rows
/-! ### a dict of the text's own, with texts as keys and as values, that is only read -/
structure GDict (P : Program) (w : World) (K : PySem.W.Frag) (a : Addr) (kvs : List (Key × V)) : Prop where
  ex : ∀ h : Heap, K.In h → ∃ vs, KV kvs vs ∧ h.DictOf (mixKind P w) a vs
  ns : (a == sysModules) = false
abbrev Ent := (Str × Tok) × (Str × Tok)
def entD (p : Params) (e : Ent) : DictEntry := ⟨PyData.keyHash p e.1.1, .str e.1.1 e.1.2, .str e.2.1 e.2.2⟩
def entK (e : Ent) : Key × V := (.inr e.1.1, .str e.2.1)
def entV (e : Ent) : Key × Value := (.inr e.1.1, .str e.2.1 e.2.2)
theorem ent_kv : ∀ es : List Ent, KV (es.map entK) (es.map entV)
  | [] => .nil
  | e :: es => .cons ⟨rfl, _, rfl⟩ (ent_kv es)
theorem ent_pairs {P : Program} {w : World} : ∀ es : List Ent, Pairs (mixKind P w) (es.map (entD w.params)) (es.map entV)
  | [] => .nil
  | e :: es => .cons (by show Value.isStrOf e.1.1 (.str e.1.1 e.1.2) = true; simp [Value.isStrOf]) rfl (ent_pairs es)
theorem gdict_mk {P : Program} {w : World} {K : PySem.W.Frag} {a : Addr} {n : Nat} (es : List Ent) (l : K.lookup a = some ⟨.type "dict", none, .dict (es.map (entD w.params)).toArray n, #[]⟩) (nd : (es.map (·.1.1)).Nodup) (ns : (a == sysModules) = false) : GDict P w K a (es.map entK) := by
  refine ⟨fun h X => ⟨es.map entV, ent_kv es, _, _, n, X _ _ l, ⟨rfl, rfl, rfl⟩, rfl, fun e he => ?_, ent_pairs es, ?_⟩, ns⟩
  · have he : e ∈ es.map (entD w.params) := by simpa using he
    obtain ⟨x, _, rfl⟩ := List.mem_map.mp he
    exact ⟨.inr x.1.1, by show Value.isStrOf x.1.1 (.str x.1.1 x.1.2) = true; simp [Value.isStrOf], rfl⟩
  · rw [List.map_map]
    have e : ((fun x : Key × Value => x.1) ∘ entV) = fun x : Ent => (Sum.inr x.1.1 : Key) := rfl
    rw [e]
    have : es.map (fun x : Ent => (Sum.inr x.1.1 : Key)) = (es.map (·.1.1)).map Sum.inr := by rw [List.map_map]; rfl
    rw [this]
    refine List.Pairwise.map _ (fun x y h => ?_) nd
    exact fun z => h (Sum.inr.inj z)
section
variable {X : Cx} {o i : Expr} {pos : Pos} {td ty : TE} {a : Addr} {kvs : List (Key × V)}
def tGGet (a : Addr) (kvs : List (Key × V)) (td ty : TE) : TE := fun σ H Q => td σ H fun x H1 => ty σ H1 fun y H2 => ∃ k v, x = .ref a ∧ y = kV k ∧ valV kvs k = some v ∧ Q v H2
theorem pe_gget (d : GDict X.prog X.w X.K a kvs) (ho : PE X o td) (hi : PE X i ty) (hs : NoSl i) : PE X (.Subscript o i pos) (tGGet a kvs td ty) := by
  intro pins s σ H Q I h
  refine subD_of PySem.F.slot_dict_getitem.lookup hs (thn (ho pins s σ H _ I h) fun u s1 ⟨x, H1, I1, rx, q1⟩ => thn (hi pins s1 σ H1 _ I1 q1) fun iv s2 ⟨y, H2, I2, ry, k, v, ex, ey, l, q2⟩ => ?_)
  subst ex
  subst ey
  obtain rfl : u = Value.ref a := rx
  obtain ⟨vs, rel, dd⟩ := d.ex _ I2.kIn
  obtain ⟨w', hw, rw'⟩ := RelO.some_of (v := v) (o := valueAt vs k) (by rw [← l]; exact rel.val k)
  exact ⟨dd.typeIs, wpAny_getItem_of (kV_is ry) dd.mapOf hw ⟨v, H2, I2.tok _, rw', q2⟩⟩
end
end L2

end
section
set_option maxHeartbeats 4000000
namespace L2
open PySem PySem.Spec PyProof.Rows
section
variable {X : Cx} {i : Nat} {x : Str} {es : List Expr} {tr : TA} {p1 p2 p3 p4 p5 p6 apos cpos : Pos} {k1 k2 k3 : Nat}
/-- (x + "x", x.replace("w", ""), ..) -/
def tTwoF (i : Nat) (tr : TA) : TA := fun σ H Q => ∃ z : Str, σ[i]? = some (some (.str z)) ∧ 1 ≤ z.length ∧ z.length ≤ 1000 ∧ tr σ H fun xs H2 => Q (.str (z ++ "x") :: .str (Txt.replace z "f" "") :: xs) H2
end
end L2

end
section
set_option maxHeartbeats 4000000
namespace L2
open PySem PySem.Spec PyProof.Rows
section
variable {X : Cx} {o e : Expr} {apos cpos : Pos} {td ty : TE} {a : Addr} {kvs : List (Key × V)}
/-- d.get(k), d a dict of the module's own -/
def tGGet1 (a : Addr) (kvs : List (Key × V)) (td ty : TE) : TE := fun σ H Q => td σ H fun x H1 => x = .ref a ∧ ty σ H1 fun y H2 => ∃ k, y = kV k ∧ Q ((valV kvs k).getD .non) H2
end
end L2

end
section
set_option maxHeartbeats 4000000
namespace L2
open PySem PySem.Spec PyProof.Rows
/-! ### a, b, c = a list of that length -/
section
variable {prog : Program} {w : World} {A : Around} {E : Value → Shared → Prop} {s : Shared}
end
section
variable {X : Cx} {pos : Pos}
def gLst (K : PySem.W.Frag) (n : Nat) (t : TGs) : TG := fun v σ H Q => ∃ a xs, v = .ref a ∧ SqL K H a xs ∧ xs.length = n ∧ t xs σ H Q
end
section
variable {prog : Program} {w : World} {A : Around} {E : Value → Shared → Prop} {s : Shared} {l : Addr}
end
section
variable {X : Cx}
/-- min(t) of a tuple of ints -/
def rMinT (K : PySem.W.Frag) : List V → Hp → VK → Prop := fun vs H Q => ∃ (a : Addr) (ns : List Int), vs = [V.ref a] ∧ SqT K H a (ns.map V.int) ∧ 0 < ns.length ∧ ∀ m, m ∈ ns → (∀ y, y ∈ ns → m ≤ y) → Q (.int m) H
end
/-! ### list(zip(a, b)) -/
abbrev IsZip2 (h : Heap) (z TI TO T : Addr) (b : Bool) : Prop :=
  h.get? z = some { cls := .type "zip", dict := none, data := .fields #[rawInt T, .bool b, .bool false, .ref TI, .ref TO], slots := #[] }
section
variable {prog : Program} {w : World} {A : Around} {E : Value → Shared → Prop} {s : Shared}
end
section
variable {prog : Program} {w : World} {A : Around} {s : Shared} {R : Result → Shared → Prop} {I S : Addr} {n : Nat} {J : Nat → Array Value → Shared → Prop} {J' : Array Value → Shared → Prop}
structure JOk (prog : Program) (w : World) (A : Around) (I S : Addr) (n : Nat) (J : Nat → Array Value → Shared → Prop) (J' : Array Value → Shared → Prop) : Prop where
  item : ∀ i acc (s : Shared) (Q : Option Value → Shared → Prop) (E : Value → Shared → Prop), i < n → J i acc s → (∀ v s', J (i + 1) (acc.push v) s' → (∀ o, s.heap.get? S = some o → s'.heap.get? S = some o) → Q (some v) s') → wpAny (model prog w) A (pyNext (.ref I)) Q E s
  done : ∀ acc (s : Shared) (Q : Option Value → Shared → Prop) (E : Value → Shared → Prop), J n acc s → (∀ s', J' acc s' → (∀ o, s.heap.get? S = some o → s'.heap.get? S = some o) → Q none s') → wpAny (model prog w) A (pyNext (.ref I)) Q E s
  frame : ∀ i acc (s : Shared) h', J i acc s → (∀ b o, b ≠ S → s.heap.get? b = some o → h'.get? b = some o) → (∃ o, h'.get? S = some o) → J i acc { s with heap := h' }
  self : ∀ acc (s : Shared) (Q : Value → Shared → Prop) (E : Value → Shared → Prop), J 0 acc s → Q (.ref I) s → wpAny (model prog w) A (pyIter (.ref I)) Q E s
  ty : ∀ i acc s, J i acc s → s.TypeIs (.ref I) "zip"
end
section
variable {prog : Program} {w : World} {A : Around} {E : Value → Shared → Prop} {s : Shared} {I : Addr} {n : Nat} {J : Nat → Array Value → Shared → Prop} {J' : Array Value → Shared → Prop}
end
section
variable {X : Cx} {a b : Expr} {ta : TA} {p0 p' pos pos' : Pos}
/-- list(zip(a, b)) of two of one length -/
def tLZ (K : PySem.W.Frag) (ta : TA) : TE := fun σ H Q => ta σ H fun vs H1 => ∃ (p q : ZS) (xs ys : List V), vs = [p.val, q.val] ∧ p.rd K H1 xs ∧ q.rd K H1 ys ∧ xs.length = ys.length ∧ xs.length ≤ 1000 ∧
  ∀ (l : Addr) (zs : List V) (H2 : Hp), Same H1 H2 → nw H1 H2 l = some (.lst zs) → zs.length = xs.length → (∀ (i : Nat) (x y : V), xs[i]? = some x → ys[i]? = some y → ∃ t : Addr, zs[i]? = some (V.ref t) ∧ nw H1 H2 t = some (.tup [x, y])) → Q (.ref l) H2
/-- what has come of two so far -/
structure ZJ (X : Cx) (pins : List (Addr × Obj)) (σ : St) (H1 : Hp) (p q : ZS) (xs ys : List V) (z TI TO i1 i2 S : Addr) (i : Nat) (acc : Array Value) (s : Shared) (H : Hp) : Prop where
  inv : Inv X pins σ H s
  same : Same H1 H
  fp : ∀ c, c = z ∨ c = TI ∨ c = TO ∨ c = i1 ∨ c = i2 ∨ c = S → FpOk X pins H c
  zip : (i = 0 ∧ IsZip s.heap z TI TO .none) ∨ (0 < i ∧ ∃ T c x y u v, H T = some (.tup [x, y]) ∧ IsPair s.heap T u v ∧ IsZip2 s.heap z TI TO T c)
  ti : IsPair s.heap TI (.ref i1) (.ref i2)
  to : ∃ x y, IsPair s.heap TO x y
  st1 : p.st i1 i s.heap
  st2 : q.st i2 i s.heap
  got : ∀ (j : Nat) (v : Value), acc[j]? = some v → ∃ (t : Addr) (x y : V), v = Value.ref t ∧ xs[j]? = some x ∧ ys[j]? = some y ∧ H1 t = none ∧ H t = some (.tup [x, y])
  sz : acc.size = i
  sS : ∃ o, s.heap.get? S = some o
section
variable {prog : Program} {w : World} {A : Around} {E : Value → Shared → Prop} {s : Shared}
end
section
variable {pins : List (Addr × Obj)} {σ : St} {H1 H : Hp} {p q : ZS} {xs ys : List V} {z TI TO i1 i2 S : Addr} {i : Nat} {acc : Array Value} {s : Shared}
end
end
end L2

end
section
set_option maxHeartbeats 4000000
namespace L2
open PySem PySem.Spec PyProof.Rows
/-! ### a += b of two lists -/
section
variable {prog : Program} {w : World} {A : Around} {E : Value → Shared → Prop} {s : Shared}
end
section
variable {X : Cx}
def ipCat : TIp := fun x y H Q => ∃ l b xs zs, x = .ref l ∧ y = .ref b ∧ H l = some (.lst xs) ∧ H b = some (.lst zs) ∧ xs.length + zs.length ≤ sizeLine ∧ Q (.ref l) (upd H l (.lst (xs ++ zs)))
end
/-! ### enumerate(zip(a, b)) -/
abbrev IsZ (h : Heap) (z TI TO : Addr) (f0 : Value) (b : Bool) : Prop :=
  h.get? z = some { cls := .type "zip", dict := none, data := .fields #[f0, .bool b, .bool false, .ref TI, .ref TO], slots := #[] }
section
variable {prog : Program} {w : World} {A : Around} {E : Value → Shared → Prop} {s : Shared}

/-- the zip's own state -/
def ZipSt (h : Heap) (z TI TO : Addr) : Prop := ∃ f0 b, IsZ h z TI TO f0 b ∧ (f0 = .none ∨ ∃ T : Addr, f0 = rawInt T)
end
section
variable {prog : Program} {w : World} {A : Around} {E : Value → Shared → Prop} {s : Shared}
end
def Itez (K : PySem.W.Frag) (p q : ZS) : It :=
  ⟨fun i H => ∃ (xs ys : List V) (x y : V), p.rd K H xs ∧ q.rd K H ys ∧ xs[i]? = some x ∧ ys[i]? = some y,
    fun i H v H' => ∃ T1 T2 x y, v = .ref T2 ∧ H T1 = none ∧ H T2 = none ∧ T1 ≠ T2 ∧ H' = upd (upd H T1 (.tup [x, y])) T2 (.tup [.int (i : Nat), .ref T1]) ∧ (∀ xs, p.rd K H xs → xs[i]? = some x) ∧ ∀ ys, q.rd K H ys → ys[i]? = some y,
    fun i H => ∃ xs ys : List V, p.rd K H xs ∧ q.rd K H ys ∧ (xs.length ≤ i ∨ ys.length ≤ i)⟩
def iZipe (K : PySem.W.Frag) (ta : TA) : TI := fun σ H R => ta σ H fun vs H1 => ∃ (p q : ZS) (xs ys : List V), vs = [p.val, q.val] ∧ p.rd K H1 xs ∧ q.rd K H1 ys ∧ R (Itez K p q) H1
end L2

end
section
set_option maxHeartbeats 4000000
namespace L2
open PySem PySem.Spec PyProof.Rows
/-! ### a call of what an expression gives -/
def Cal (CX : CXT) (P : Program) (w : World) (K : PySem.W.Frag) (mg : Str → Option Value) (base : Heap) (k : Nat) (v : V) (sp : Sp) : Prop :=
  ∃ (f : Addr) (fd : FuncData) (ps : List Str), v = .ref f ∧ FnOk P w K mg base CX k f fd ps sp ∧ PySem.W.keepIn K (.ref f) = true ∧ Binds K fd ps []
section
variable {X : Cx} {CX : CXT} {k : Nat} {R : V → Sp → Prop} {E : XK} {e0 e : Expr} {es : List Expr} {t0 : TE} {t : TA} {pos : Pos}
def tCallV (R : V → Sp → Prop) (E : XK) (t0 : TE) (t : TA) : TE := fun σ H Q => t0 σ H fun v H1 => ∃ sp, R v sp ∧ t σ H1 fun vs H2 => sp (vs ++ []) H2 Q E
end
section
variable {P : Program} {w : World} {K : PySem.W.Frag} {mg : Str → Option Value} {base : Heap}
/-- one promise or the other -/
theorem FnOk.or {CX : CXT} {k : Nat} {f : Addr} {fd : FuncData} {ps : List Str} {sp sp' : Sp} (F : FnOk P w K mg base CX k f fd ps sp) (G : FnOk P w K mg base CX k f fd ps sp') :
    FnOk P w K mg base CX k f fd ps (fun vs H Q E => sp vs H Q E ∨ sp' vs H Q E) :=
  ⟨fun vs H Q E h => h.elim (F.len vs H Q E) (G.len vs H Q E), fun A outer s H args us vs Q E hr he hb hv hs => hs.elim (F.run A outer s H args us vs Q E hr he hb hv) (G.run A outer s H args us vs Q E hr he hb hv)⟩
end
end L2

end
section
set_option maxHeartbeats 4000000
namespace L2
open PySem PySem.Spec PyProof.Rows
/-! ### one class in an except clause -/
section
variable {M : Model} {A : Around} {E : Value → Shared → Prop} {s : Shared}
theorem sub_type_tuple : isSubtype (.type "type") (.type "tuple") = pure false := by rw [isSubtype_type]; kernel_rfl
theorem exc_one {ea C C1 : Addr} {bm b1 : List Value} {oe : Obj} {Q : Bool → Shared → Prop} (he : s.heap.get? ea = some oe) (hc : oe.cls = .ref C) (hC : ClsAt s.heap C bm) (h1 : ClsAt s.heap C1 b1)
    (e1 : b1.contains (.type "BaseException") = true) (h : Q ((Value.ref C :: bm).contains (.ref C1)) s) : wpAny M A (excMatches (.ref ea) (.ref C1)) Q E s := by
  have h1' := h1
  obtain ⟨o, cd, ho, hoc, hd, hm⟩ := h1
  unfold excMatches
  refine wpAny_bind (wpAny_isInstance ⟨o, ho, hoc⟩ sub_type_tuple ?_)
  rw [if_neg (by decide)]
  refine wpAny_bind (wpAny_pure ?_)
  simp only [List.forIn_cons, List.forIn_nil]
  refine wpAny_bind (wpAny_bind (wpAny_bind (exc_cls h1' e1 ?_)))
  simp only [Bool.not_true, Bool.false_eq_true, if_false]
  refine wpAny_pure (wpAny_pure ?_)
  refine wpAny_bind (type_of he ?_)
  rw [hc]
  refine wpAny_bind (wpAny_bind (wpAny_bind (sub_cls hC ?_)))
  cases q1 : (Value.ref C :: bm).contains (.ref C1) with
  | true =>
    rw [q1] at h
    simp only [if_true]
    exact wpAny_pure (wpAny_pure (wpAny_pure h))
  | false =>
    rw [q1] at h
    simp only [Bool.false_eq_true, if_false]
    exact wpAny_pure (wpAny_pure (wpAny_pure h))
end
/-! ### try: .. except C0 as n: .. except (C1, C2) as n: .. -/
def Esu2 (K : PySem.W.Frag) (C0 C1 C2 : Addr) (N i : Nat) (t0 ts : Addr → Obj → TS) (D : Ends) : XK := fun Cv d H => ∃ C bm, Cv = .ref C ∧ clsIn K C bm = true ∧
  (((Value.ref C :: bm).contains (.ref C0) = true ∧ ∀ ea oe, H ea = none → ExO C d oe → t0 ea oe (Dsu N D) ((List.replicate N none).set i (some (.ref ea))) H) ∨
   ((Value.ref C :: bm).contains (.ref C0) = false ∧ ((Value.ref C :: bm).contains (.ref C1) || (Value.ref C :: bm).contains (.ref C2)) = true ∧
     ∀ ea oe tp, H ea = none → ExO C d oe → H tp = none → tp ≠ ea → ts ea oe (Dsu N D) ((List.replicate N none).set i (some (.ref ea))) (upd H tp (.tup [.ref C1, .ref C2]))))
def tTry2 (K : PySem.W.Frag) (C0 C1 C2 : Addr) (N i : Nat) (tb : XK → TS) (t0 ts : Addr → Obj → TS) : TS := fun D σ H => tb (Esu2 K C0 C1 C2 N i t0 ts D) D σ H
theorem ps_try2 {X : Cx} {body suite suite0 : List Stmt} {b0 b00 : Stmt} {c0 c1 c2 n : Str} {i : Nat} {C0 C1 C2 : Addr} {b0' b1 b2 : List Value} {tb : XK → TS} {t0 ts : Addr → Obj → TS} {p0 p1 p2 tp hp hp0 pos : Pos} {kt : Nat}
    (hN : X.N.Nodup) (hi : X.N[i]? = some n) (hlo : X.env.scope.names.lookup n = some .local) (hfr : X.env.frame = some X.env.locals) (hst : X.stack = X.env :: X.outer)
    (hg0 : Gl X c0) (hm0 : X.mg c0 = some (.ref C0)) (q0 : clsIn X.K C0 b0' = true) (e0 : b0'.contains (.type "BaseException") = true)
    (hg1 : Gl X c1) (hm1 : X.mg c1 = some (.ref C1)) (q1 : clsIn X.K C1 b1 = true) (e1 : b1.contains (.type "BaseException") = true)
    (hg2 : Gl X c2) (hm2 : X.mg c2 = some (.ref C2)) (q2 : clsIn X.K C2 b2 = true) (e2 : b2.contains (.type "BaseException") = true)
    (hb : ∀ (xe : Value → Shared → Prop) (pins : List (Addr × Obj)) (E : XK), XOk (X.tri xe pins) E → PSs (X.tri xe pins) body (tb E))
    (hs0 : ∀ (ea : Addr) (oe : Obj), PSs (X.suite ea oe) (b00 :: suite0) (t0 ea oe)) (hs : ∀ (ea : Addr) (oe : Obj), PSs (X.suite ea oe) (b0 :: suite) (ts ea oe)) (hd0 : (c0 == ("__debug__" : Str)) = false := by decide) (hd1 : (c1 == ("__debug__" : Str)) = false := by decide) (hd2 : (c2 == ("__debug__" : Str)) = false := by decide) :
    PS X (.Try body [.ExceptHandler (some (.Name c0 p0)) (some n) (b00 :: suite0) hp0, .ExceptHandler (some (.Tuple [.Name c1 p1, .Name c2 p2] kt tp)) (some n) (b0 :: suite) hp] [] [] pos) (tTry2 X.K C0 C1 C2 X.N.length i tb t0 ts) := by
  intro pins s σ H D I h
  rw [arm_exec_Try]
  refine wpAny_bind (wpAny_standAt (wpAny_tryStmt_except ?_))
  refine wpAny_mono (hb _ pins (Esu2 X.K C0 C1 C2 X.N.length i t0 ts D) ?_ [] s σ H D I.tri h) (fun f s1 h1 => ?_) fun e s1 h1 => h1
  rotate_left
  · cases f with
    | next => obtain ⟨σ1, H1, I1, q⟩ := h1; exact wpAny_execs_nil ⟨σ1, H1, I1.untri, q⟩
    | brk => obtain ⟨σ1, H1, I1, q⟩ := h1; exact ⟨σ1, H1, I1.untri, q⟩
    | cont => obtain ⟨σ1, H1, I1, q⟩ := h1; exact ⟨σ1, H1, I1.untri, q⟩
    | ret u => obtain ⟨v, σ1, H1, I1, r, q⟩ := h1; exact ⟨v, σ1, H1, I1.untri, r, q⟩
  -- caught
  intro pins1 σ1 H1 s1 ea C d old I1 F hE
  obtain ⟨C', bm, eC, hcl, hE⟩ := hE
  cases eC
  have I1 := I1.untri
  have hl : s1.heap.FunFrames X.base (X.env :: X.outer) := by rw [← hst]; exact I1.stack
  refine note_any (by rw [I1.ok.frames, hst]) hl hfr F.fl fun h2 T hT k1 k2 x1 t1 ne => ?_
  refine flight_any x1 t1 ne fun h3 k3 fl3 => ?_
  have hT1 : s1.heap.get? T = none := Heap.get?_none_of_le (Nat.le_of_eq hT)
  have ltT : ∀ b o, s1.heap.get? b = some o → b ≠ T := fun b o q z => by rw [z, hT1] at q; cases q
  obtain ⟨v0, oe0, vs0, g0, gc0, gd0, gf0, gs0⟩ : ∃ v, ExAt s1.heap ea C d v := by
    cases old with
    | none => exact ⟨_, F.fl⟩
    | some T0 => exact ⟨_, F.fl.1⟩
  have I3 : Inv X pins σ1 H1 { s1 with heap := h3 } := by
    refine I1.exc (t' := s1.toks) (ch := fun b => b = ea ∨ some b = old) (fun b hb => ?_) (fun b o q nf nc => ?_) fun b o q nc => ?_
    · rcases hb with z | z
      · subst z
        obtain ⟨n1, n2, _⟩ := I1.rec_ne g0 gf0
        exact ⟨F.new, F.un, n1, n2, fun p hp => (F.pn p hp).1⟩
      · subst z
        obtain ⟨_, ⟨oT, ts', gT, dT, _⟩, _⟩ := F.fl
        obtain ⟨n1, n2, _⟩ := I1.rec_ne gT dT
        exact ⟨(F.tr b rfl).1, (F.tr b rfl).2, n1, n2, fun p hp z => (F.pn p hp).2 (by rw [z])⟩
    · rw [k3 b (ltT b o q)]
      exact k1 b o q (by rw [← hst]; exact nf) (fun z => nc (.inl z)) fun z => nc (.inr z)
    · rw [k3 b (ltT b o q)]
      exact k2 b o q (fun z => nc (.inl z)) fun z => nc (.inr z)
  obtain ⟨⟨oe, vs, g1, gc, gd, gf, g6, g7, g8⟩, ⟨oT, ts', gT, dT, fT⟩, _⟩ := id fl3
  have uT : H1 T = none := I1.hok.un hT1
  have pe : h3.get? ea = some oe ∧ H1 ea = none ∧ ea ≠ X.env.locals ∧ ea ∉ X.fs ∧ ∀ v, oe.data ≠ .cell v := by
    obtain ⟨n1, n2, n3⟩ := I3.rec_ne g1 gf
    exact ⟨g1, F.un, n1, n3, fun v z => by rw [gf] at z; cases z⟩
  have pT : h3.get? T = some oT ∧ H1 T = none ∧ T ≠ X.env.locals ∧ T ∉ X.fs ∧ ∀ v, oT.data ≠ .cell v := by
    obtain ⟨n1, n2, n3⟩ := I3.rec_ne gT dT
    exact ⟨gT, uT, n1, n3, fun v z => by rw [dT] at z; cases z⟩
  have I3p : Inv X (pins ++ [(ea, oe), (T, oT)]) σ1 H1 { s1 with heap := h3 } := I3.pins_of fun p hp => by
    rcases List.mem_append.mp hp with z | z
    · exact I3.pin p (List.mem_append_right _ z)
    · rcases List.mem_cons.mp z with z | z
      · subst z; exact pe
      · rw [List.mem_singleton.mp z]; exact pT
  refine wpAny_handleBy_cons (codeAny_handlers_test ?_) (by intro q; cases q)
  have ev0 := pe_glob (X := X.hot ea) (pos := p0) (v := .ref C0) hg0 hm0 rfl hd0 _ _ σ1 H1 (fun v H2 => v = .ref C0 ∧ H2 = H1) (I3p.hot (ea := ea)) ⟨rfl, rfl⟩
  refine wpAny_mono ev0 (fun u0 s30 h30 => ?_) fun _ _ z => z.elim
  obtain ⟨v0', H30, I30, rv0, ev00, eH30⟩ := h30
  subst ev00
  cases rv0
  subst eH30
  have I30 := I30.unhot I3.ok
  have pe30 := I30.pin (ea, oe) (by simp)
  have pT30 := I30.pin (T, oT) (by simp)
  refine exc_one pe30.1 gc (cls_at I30.kIn hcl) (cls_at I30.kIn q0) e0 ?_
  rcases hE with ⟨hmt, hk⟩ | ⟨hmt0, hmt, hk⟩
  · rw [hmt]
    show codeAny _ _ _ _ _
    refine codeAny_handlers_suite_as ?_
    have x4 : ExAt s30.heap ea C d (.ref T) := ⟨oe, vs, pe30.1, gc, gd, gf, g6, g7, g8⟩
    refine flight_any x4 ⟨oT, ts', pT30.1, dT, fT⟩ ne fun h5 k5 fl5 => ?_
    have I40a : Inv X pins σ1 H30 s30 := I30.pins_of fun p hp => I30.pin p (List.mem_append_right _ (List.mem_append_left _ hp))
    have I5 : Inv X pins σ1 H30 { s30 with heap := h5 } := by
      refine I40a.exc (t' := s30.toks) (ch := fun b => b = T) (fun b hb => ?_) (fun b o q nf nc => (k5 b nc).trans q) fun b o q nc => ⟨o.slots, (k5 b nc).trans q⟩
      subst hb
      obtain ⟨n1, n2, n3⟩ := I40a.rec_ne pT30.1 dT
      refine ⟨?_, pT30.2.1, n1, n2, fun p hp z => ?_⟩
      · cases q : X.s_0.heap.get? b with
        | none => rfl
        | some o =>
          have := Nat.lt_of_lt_of_le (Heap.lt_size q) I1.sz
          rw [hT] at this
          exact absurd this (Nat.lt_irrefl _)
      · exact ltT p.1 p.2 (I1.pin p hp).1 z
    have I5s : Inv (X.suite ea oe) pins σ1 H30 { s30 with heap := h5 } := I5.suite ⟨(k5 ea (Ne.symm ne)).trans pe30.1, pe30.2.1, pe30.2.2.1, pe30.2.2.2.1, pe30.2.2.2.2⟩
    have I5w : Inv (X.suite ea oe) pins (List.replicate X.N.length none) H30 { s30 with heap := h5 } := I5s.weak (by rw [List.length_replicate]; exact I5s.len.symm) fun j v e => by
      rw [List.getElem?_replicate] at e
      split at e <;> cases e
    refine store_ok (X := X.suite ea oe) I5w hN hi (.inl hlo) (v := .ref ea) (u := .ref ea) rfl (fun s6 I6 => ?_) (.inr hlo)
    refine wpAny_mono (hs0 ea oe pins s6 _ _ (Dsu X.N.length D) I6 (hk ea oe F.un ⟨gc, gd, vs, gf, g8⟩)) (fun f s7 h7 => ?_) fun _ _ z => z.elim
    have fin : ∀ {σ7 : St} {H7 : Hp} {Qf : Unit → Shared → Prop}, Inv (X.suite ea oe) pins σ7 H7 s7 → (∀ s8, Inv X pins (List.replicate X.N.length none) H7 s8 → Qf () s8) → wpAny (model X.prog X.w) X.A (do bindName X.env n .none; unbindBehindTheSuite X.env n hp0) Qf X.xe s7 := fun {σ7 H7 Qf} I7 k => by
      have I8 := I7.unsuite I3.ok
      obtain ⟨m, hn, _⟩ := I8.loc
      refine wpAny_nameGoes hlo hn (by rw [I8.ok.kind]; rfl) fun h9 m9 hn9 sb => k _ ?_
      have I9 := I8.renamed (t' := s7.toks + 1) hn9 fun b hb => sb.2 b hb
      rw [I8.len] at I9
      exact I9
    cases f with
    | next => obtain ⟨σ7, H7, I7, q⟩ := h7; exact fin I7 fun s8 I8 => ⟨_, H7, I8, q⟩
    | brk => obtain ⟨σ7, H7, I7, q⟩ := h7; exact fin I7 fun s8 I8 => ⟨_, H7, I8, q⟩
    | cont => obtain ⟨σ7, H7, I7, q⟩ := h7; exact fin I7 fun s8 I8 => ⟨_, H7, I8, q⟩
    | ret u => obtain ⟨v, σ7, H7, I7, r, q⟩ := h7; exact fin I7 fun s8 I8 => ⟨v, _, H7, I8, r, q⟩
  · rw [hmt0]
    show wpAny _ _ (handleBy _ _ _) _ _ _
    refine wpAny_handleBy_cons (codeAny_handlers_test ?_) (by intro q; cases q)
    have ev := pe_tup (X := X.hot ea) (pos := tp) (x1 := kt) (pa_cons (pe_glob (pos := p1) (v := .ref C1) hg1 hm1 rfl hd1) (pa_cons (pe_glob (pos := p2) (v := .ref C2) hg2 hm2 rfl hd2) pa_nil)) _ _ σ1 H30 (fun v H2 => ∃ a, v = .ref a ∧ H30 a = none ∧ H2 = upd H30 a (.tup [.ref C1, .ref C2])) (I30.hot (ea := ea))
      ⟨by show 2 ≤ sizeLine; decide, fun p hp => ⟨p, rfl, hp, rfl⟩⟩
    refine wpAny_mono ev (fun u s4 h4 => ?_) fun _ _ z => z.elim
    obtain ⟨v, H4, I4, rv, a, ev4, ha, eH4⟩ := h4
    subst ev4
    cases rv
    subst eH4
    have I4 := I4.unhot I3.ok
    have pe4 := I4.pin (ea, oe) (by simp)
    have pT4 := I4.pin (T, oT) (by simp)
    obtain ⟨_, its, rvs, itup⟩ := I4.hok a _ upd_same
    have eits : its = [.ref C1, .ref C2] := by
      cases rvs with
      | cons r1 rr =>
        cases rr with
        | cons r2 rr => cases rr; cases r1; cases r2; rfl
    subst eits
    have nae : a ≠ ea := fun z => by
      have q := pe4.2.1
      rw [← z, upd_same] at q; cases q
    refine exc_two itup pe4.1 gc (cls_at I4.kIn hcl) (cls_at I4.kIn q1) (cls_at I4.kIn q2) e1 e2 hmt ?_
    show codeAny _ _ _ _ _
    refine codeAny_handlers_suite_as ?_
    have x4 : ExAt s4.heap ea C d (.ref T) := ⟨oe, vs, pe4.1, gc, gd, gf, g6, g7, g8⟩
    refine flight_any x4 ⟨oT, ts', pT4.1, dT, fT⟩ ne fun h5 k5 fl5 => ?_
    have I4a : Inv X pins σ1 (upd H30 a (.tup [.ref C1, .ref C2])) s4 := I4.pins_of fun p hp => I4.pin p (List.mem_append_right _ (List.mem_append_left _ hp))
    have I5 : Inv X pins σ1 (upd H30 a (.tup [.ref C1, .ref C2])) { s4 with heap := h5 } := by
      refine I4a.exc (t' := s4.toks) (ch := fun b => b = T) (fun b hb => ?_) (fun b o q nf nc => (k5 b nc).trans q) fun b o q nc => ⟨o.slots, (k5 b nc).trans q⟩
      subst hb
      obtain ⟨n1, n2, n3⟩ := I4a.rec_ne pT4.1 dT
      refine ⟨?_, pT4.2.1, n1, n2, fun p hp z => ?_⟩
      · cases q : X.s_0.heap.get? b with
        | none => rfl
        | some o =>
          have := Nat.lt_of_lt_of_le (Heap.lt_size q) I1.sz
          rw [hT] at this
          exact absurd this (Nat.lt_irrefl _)
      · exact ltT p.1 p.2 (I1.pin p hp).1 z
    have I5s : Inv (X.suite ea oe) pins σ1 (upd H30 a (.tup [.ref C1, .ref C2])) { s4 with heap := h5 } := I5.suite ⟨(k5 ea (Ne.symm ne)).trans pe4.1, pe4.2.1, pe4.2.2.1, pe4.2.2.2.1, pe4.2.2.2.2⟩
    have I5w : Inv (X.suite ea oe) pins (List.replicate X.N.length none) (upd H30 a (.tup [.ref C1, .ref C2])) { s4 with heap := h5 } := I5s.weak (by rw [List.length_replicate]; exact I5s.len.symm) fun j v e => by
      rw [List.getElem?_replicate] at e
      split at e <;> cases e
    refine store_ok (X := X.suite ea oe) I5w hN hi (.inl hlo) (v := .ref ea) (u := .ref ea) rfl (fun s6 I6 => ?_) (.inr hlo)
    refine wpAny_mono (hs ea oe pins s6 _ _ (Dsu X.N.length D) I6 (hk ea oe a F.un ⟨gc, gd, vs, gf, g8⟩ ha nae)) (fun f s7 h7 => ?_) fun _ _ z => z.elim
    have fin : ∀ {σ7 : St} {H7 : Hp} {Qf : Unit → Shared → Prop}, Inv (X.suite ea oe) pins σ7 H7 s7 → (∀ s8, Inv X pins (List.replicate X.N.length none) H7 s8 → Qf () s8) → wpAny (model X.prog X.w) X.A (do bindName X.env n .none; unbindBehindTheSuite X.env n hp) Qf X.xe s7 := fun {σ7 H7 Qf} I7 k => by
      have I8 := I7.unsuite I3.ok
      obtain ⟨m, hn, _⟩ := I8.loc
      refine wpAny_nameGoes hlo hn (by rw [I8.ok.kind]; rfl) fun h9 m9 hn9 sb => k _ ?_
      have I9 := I8.renamed (t' := s7.toks + 1) hn9 fun b hb => sb.2 b hb
      rw [I8.len] at I9
      exact I9
    cases f with
    | next => obtain ⟨σ7, H7, I7, q⟩ := h7; exact fin I7 fun s8 I8 => ⟨_, H7, I8, q⟩
    | brk => obtain ⟨σ7, H7, I7, q⟩ := h7; exact fin I7 fun s8 I8 => ⟨_, H7, I8, q⟩
    | cont => obtain ⟨σ7, H7, I7, q⟩ := h7; exact fin I7 fun s8 I8 => ⟨_, H7, I8, q⟩
    | ret u => obtain ⟨v, σ7, H7, I7, r, q⟩ := h7; exact fin I7 fun s8 I8 => ⟨v, _, H7, I8, r, q⟩
end L2

end
section
set_option maxHeartbeats 4000000
namespace L2
open PySem PySem.Spec PyProof.Rows
/-! ### a set's table: what is in it is found again -/
def advM (M : Nat) (p : SetTable.Probe) : SetTable.Probe := (tabM M 0 false []).advance p
def startM (M : Nat) (h : Int) : SetTable.Probe := (tabM M 0 false []).probeStart h
/-- from p one comes to the place j over filled places -/
inductive WayT (M : Nat) (F : Nat → Prop) : SetTable.Probe → Nat → Prop
  | here (p : SetTable.Probe) : WayT M F p p.j
  | next (p : SetTable.Probe) (j : Nat) (h : F p.j) (w : WayT M F (advM M p) j) : WayT M F p j
section
variable {M mv n : Nat} {led : Bool} {l : List Nat}
end
/-! laid anew -/
abbrev Fil (owner : Array (Option Nat)) (j : Nat) : Prop := owner.getD j none ≠ none
def prb (M i p : Nat) : SetTable.Probe := ⟨i, SetTable.runEnd M i - i, i, p, none⟩
/-- each of the laid ones is found from its own start -/
def OwnW (owner : Array (Option Nat)) (hs : List Int) : Prop := ∀ j k, owner.getD j none = some k → ∃ x, hs[k]? = some x ∧ WayT 31 (Fil owner) (startM 31 x) j
end L2

end
section
set_option maxHeartbeats 4000000
namespace L2
open PySem PySem.Spec PyProof.Rows
section
variable {prog : Program} {w : World} {A : Around} {E : Value → Shared → Prop} {s : Shared}
end
/-- the set at S holds the pairs ds, each is found again -/
def SetW (prog : Program) (w : World) (h : Heap) (S : Addr) (led : Bool) (ds : List (C2 × Addr)) : Prop :=
  ∃ (es : Array (Int × Value)) (ep M mv : Nat) (l : List Nat), h.get? S = some (setO es ep (tabM M mv led l)) ∧ TOk M ds.length l ∧ ds.length * 5 < M * 3 ∧ es.toList = ds.map (entP prog w) ∧ ∀ pr ∈ ds.zip l, WayT M (· ∈ l) (startM M (hP prog w pr.1.1)) pr.2
section
variable {prog : Program} {w : World} {A : Around} {E : Value → Shared → Prop} {s : Shared}
end
end L2

end
section
set_option maxHeartbeats 4000000
namespace L2
open PySem PySem.Spec PyProof.Rows
/-- ds: what is in ps, each but once -/
structure Ddp (ds ps : List (C2 × Addr)) : Prop where
  nd : (ds.map (·.1)).Nodup
  sub : ∀ d ∈ ds, d ∈ ps
  all : ∀ d ∈ ps, d.1 ∈ ds.map (·.1)
section
variable {prog : Program} {w : World} {A : Around} {R : Result → Shared → Prop} {I : Addr} {fp wr : List Addr} {G : Array GenState → Array GenState → Prop} {n : Nat} {P : Nat → Value → Prop} {St : Nat → Shared → Prop}
end
section
variable {prog : Program} {w : World} {A : Around} {E : Value → Shared → Prop} {s : Shared}
end
section
variable {X : Cx} {e : Expr} {te : TE} {p p' pos pos' : Pos}
def tSortedSetD (K : PySem.W.Frag) (te : TE) : TE := fun σ H Q => te σ H fun v H1 => ∃ (a : Addr) (xs : List V) (cs : List C2), v = .ref a ∧ SqL K H1 a xs ∧ Prs K H1 xs cs ∧ cs.length ≤ 18 ∧
  ∀ (xs' : List V) (cs' : List C2) (l : Addr), Prs K H1 xs' cs' → cs'.Nodup → (∀ c, c ∈ cs' ↔ c ∈ cs) → Rising cs' → H1 l = none → Q (.ref l) (upd H1 l (.lst xs'))
end
end L2

end
section
set_option maxHeartbeats 4000000
namespace L2
open PySem PySem.Spec PyProof.Rows
section
variable {X : Cx} {CX : CXT} {k : Nat} {f C : Addr} {fd : FuncData} {ps : List Str} {sp : Sp} {E : XK}
/-! ### repr and str of an own thing -/
/-! ### repr of data -/
def tFmtR (K : PySem.W.Frag) (te : TE) : TE := fun σ H Q => te σ H fun v H1 => ∃ a d, v = .ref a ∧ Dp K H1 (.ref a) d ∧ d.showable = true ∧ d.hasDict = false ∧ d.depth ≤ 60 ∧ d.shown.length ≤ sizeLine ∧ Q (.str d.shown) H1
/-! ### a == anything, a != b, a in [b] -/
/-- a == b, a of a class whose __eq__ is a def of the text, b of another type -/
def rEqX (K : PySem.W.Frag) (C : Addr) (sp : Sp) (E : XK) : R2 := fun x y H Q => ∃ a dx fs, x = .ref a ∧ H a = some (.ins C dx fs) ∧ (∃ t, TyOf K H y t ∧ (∀ a, t ≠ .ref a) ∧ PySem.W.notFirst K C t = true) ∧ sp [.ref a, y] H (fun v H2 => ∃ z, v = .bl z ∧ Q (.bl z) H2) E
def rNeO (C : Addr) (sp : Sp) (E : XK) : R2 := fun x y H Q => ∃ a b dx fs dx' fs', x = .ref a ∧ y = .ref b ∧ H a = some (.ins C dx fs) ∧ H b = some (.ins C dx' fs') ∧ sp [.ref a, .ref b] H (fun v H2 => ∃ z, v = .bl z ∧ Q (.bl (!z)) H2) E
end
section
variable {X : Cx} {CX : CXT} {k : Nat} {f C : Addr} {fd : FuncData} {ps : List Str} {sp : Sp} {E : XK}
def rInO (C : Addr) (sp : Sp) (E : XK) : R2 := fun x y H Q => ∃ a b l dx fs dx' fs', x = .ref a ∧ y = .ref l ∧ H l = some (.lst [.ref b]) ∧ a ≠ b ∧ H a = some (.ins C dx fs) ∧ H b = some (.ins C dx' fs') ∧ sp [.ref b, .ref a] H (fun v H2 => ∃ z, v = .bl z ∧ H2 l = some (.lst [.ref b]) ∧ Q (.bl z) H2) E
end
end L2

end
section
set_option maxHeartbeats 4000000
namespace L2
open PySem PySem.Spec PyProof.Rows
section
variable {X : Cx} {CX : CXT} {k : Nat} {f C : Addr} {fd : FuncData} {ps ks : List Str} {sp : Sp} {E : XK} {x m : Str} {p pos apos kpos : Pos} {kws : List Keyword} {tk : TA}
variable {g : List Value → List Value → List Value} {gV : List V → List V → List V}
/-- C(k = v, ..), C of the text: its __init__ gets the new thing and the keywords -/
def tMakeK (C : Addr) (sp : Sp) (gV : List V → List V → List V) (E : XK) (tk : TA) : TE := fun σ H Q => tk σ H fun zs H1 =>
  ∀ x dx, H1 x = none → H1 dx = none → dx ≠ x → sp (gV [.ref x] zs) (upd (upd H1 dx (.own x)) x (.ins C dx [])) (fun v H2 => v = .non ∧ Q (.ref x) H2) E
end
end L2

end
section
set_option maxHeartbeats 4000000
namespace L2
open PySem PySem.Spec PyProof.Rows
section
variable {prog : Program} {w : World} {A : Around} {E : Value → Shared → Prop} {s : Shared}
/-- an int as an entry -/
def entI (d : Int × Tok) : Int × Value := (hashInt d.1, .int d.1 d.2)
/-- the set at S holds the ints ds, in the order of its entries -/
def SetI (h : Heap) (S : Addr) (led : Bool) (ds : List (Int × Tok)) : Prop :=
  ∃ (es : Array (Int × Value)) (ep M mv : Nat) (l : List Nat), h.get? S = some (setO es ep (tabM M mv led l)) ∧ TOk M ds.length l ∧ ds.length * 5 < M * 3 ∧ es.toList = ds.map entI
end
end L2

end
section
set_option maxHeartbeats 4000000
namespace L2
open PySem PySem.Spec PyProof.Rows
/-- ds: what is in ps, each but once -/
structure DdpI (ds ps : List (Int × Tok)) : Prop where
  nd : (ds.map (·.1)).Nodup
  sub : ∀ d ∈ ds, d ∈ ps
  all : ∀ d ∈ ps, d.1 ∈ ds.map (·.1)
section
variable {prog : Program} {w : World} {A : Around} {R : Result → Shared → Prop} {I : Addr} {fp wr : List Addr} {G : Array GenState → Array GenState → Prop} {n : Nat} {P : Nat → Value → Prop} {St : Nat → Shared → Prop}
end
section
variable {prog : Program} {w : World} {A : Around} {E : Value → Shared → Prop} {s : Shared}
end
end L2

end
section
set_option maxHeartbeats 4000000
namespace L2
open PySem PySem.Spec PyProof.Rows
section
variable {X : Cx} {e : Expr} {te : TE} {p p' pos pos' : Pos}
def tSortedSetI (K : PySem.W.Frag) (te : TE) : TE := fun σ H Q => te σ H fun v H1 => ∃ (a : Addr) (ns : List Int), v = .ref a ∧ SqL K H1 a (ns.map V.int) ∧ ns.length ≤ 300 ∧
  ∀ (ns' : List Int) (l : Addr), ns'.Nodup → (∀ c, c ∈ ns' ↔ c ∈ ns) → ns'.Pairwise (· ≤ ·) → H1 l = none → Q (.ref l) (upd H1 l (.lst (ns'.map V.int)))
end
end L2

end
section
set_option maxHeartbeats 4000000
namespace L2
open PySem PySem.Spec PyProof.Rows
section
variable {X : Cx} {pins : List (Addr × Obj)} {σ : St} {H : Hp} {s : Shared} {a : Addr} {v : V} {u r : Value} {A : Around} {E : Value → Shared → Prop}
end
section
variable {X : Cx}
/-- {kx: vx for target in iter if ..}: D the new dict -/
def tDc (wi : TI) (g : TG) (tt : TT) (tk tv : TE) (vs : List Nat) : TE := fun σ H Q => wi σ H fun J H1 => ∀ D, H1 D = none → ∃ W : Nat → Nat → Hp → Prop, (∃ m, W 0 m (upd H1 D (.dK []))) ∧ ∀ i m H, W i m H →
  (J.stop i H ∧ Q (.ref D) H) ∨ (J.go i H ∧ ∃ Nx : Hp → Prop, (∀ H', Nx H' → ∃ m', m' < m ∧ W (i + 1) m' H') ∧ ∀ x H', J.yld i H x H' → g x (wipe σ vs) H' fun σ2 H2 => wipe σ2 vs = wipe σ vs ∧ tt σ2 H2 fun b H3 =>
    if b = true then tk σ2 H3 fun y H4 => tv σ2 H4 fun z H5 => ∃ kvs k, y = kV k ∧ H5 D = some (.dK kvs) ∧ kvs.length < sizeLine ∧ Nx (upd H5 D (.dK (putK kvs k z))) else Nx H3)
end
end L2

end
section
set_option maxHeartbeats 4000000
/-! dict(d) of a dict whose keys are tuples of ints and texts -/
namespace L2
open PySem PySem.Spec PyProof.Rows


section
variable {prog : Program} {w : World} {A : Around} {E : Value → Shared → Prop} {s : Shared}
abbrev tkH (w : World) (prog : Program) (k : List Key) : Int := tupleKeyHash (mixKind prog w) k
end
section
variable {X : Cx}
end
/-! ### hashes of pairs of small ints -/
def hash2 (a b : Int) : Int := reduceHash (Builtin.Tuple.tupleHashOf [hashInt a, hashInt b])
def hash2L : List Int := [2575514064802888272, 9083154820904886697, -208276591052177797, 6299364165049820628, 1406290136077124262, 7913930892179122687, -8423529808412798632, 5130140236324056618, -6808963081283496573, 6744706963453358677, 8853990336570988974, 3960916307598292608, -7978187010009260583, -1470546253907262158, 7684766407845224964, -4254336909762328227, -8458139203682520985, -1950498447580522560, 7204814214171964562, -4734289103435588629, 1773351652666409796, -3119722376306286570, -1010439003188656273, -5903513032161352639, 604127723940645786, -4288946305032050580, -2179662931914420283, 4327977824187578142, -565096204785118224, 5942544551316880201, 1049470522344183835, 3158753895461814132, -5164621852614943976, 8389048192121911274, -3550055125485641917, -1440771752368011620, -6333845781340707986, 173794974761290439, -4719279054211405927, -2609995681093775630, 3897645075008222795, -995428953964473571, 5512211802137524854, -3779219609819539640, 2728421146282458785, -2164652882690237581, 4342987873411760844, 6452271246529391141, 4685526799349444076, 6794810172467074373, 1901736143494378007, 8409376899596376432, 3516302870623680066, -8422800446983873125, -6313517073866242828, 7240152970870612422, -4698950346736940769, 8854719697999914481, -7482741002592006838, 6070929042144848412, -5868174275462704779, 639466480639293646, -8651964931317770848, -2144324175215772423, 2248468952609198383, 8756109708711196808, 3863035679738500442, 5972319052856130739, 1079245023883434373, 7586885779985432798, -4352217537622120393, 4803095124130366729, -7136008193477186462, 6417661851259668788, -5521441466347884403, 3633871195404602719, -8305232122202950472, -1797591366100952047, -6690665395073648413, -4581382021956018116, -6348126469135965181, 159514286966033244, -9131917124991031250, -2624276368889032825, 3883364387212965600, -1009709641759730766, 1099573731357899531, -3793500297614796835, 2714140458487201590, -2178933570485494776, -69650197367864479, 6437990558734133946, 1544916529761437580, 8052557285863436005, -1238874126093628489, 5268766630008369936, -3054609118068388172, 3453031638033610253, -5838399773923454241, 669240982178544184, -4223833046794152182, 2283807709307846243, -7007623702649218251, -499982946547219826, 6007657809554778599, 1114583780582082233, 7622224536684080658, -1669206875272983836, 4838433880829014589, -54640148143681777, 6453000607958316648, 8562283981075946945, -5491666964808633865, 8062003079928221385, -3877100237679331806, 2630540518422666619, -6660890893534397875, -153250137432399450, -5046324166405095816, 1461316589696902609, 3570599962814532906, -1322474066158163460, 5185166689943834965, 292092660971138599, 2401376034088768896, -2491697994883927470, 4015942761218070955, -7923160556389482236, 4358481687155754187, -7580621630451799004, 5973048414285056246, 8082331787402686543, 3189257758429990177, -8749845559177563014, -2242204803075564589, 6913107858676922533, -5025995458930630658, 8527674585806224592, -3411428731801328599, 5743883929951158523, -6195219387656394668, 312421368445603757, -4580652660527092609, -2471369287409462312, 1921423840415508494, 8429064596517506919, 3535990567544810553, -8403112750062742638, 752199911689744484, 7259840667791742909, -4679262649815810282, 8874407394921044968, -7463053305670876351, 6090616739065978899, -5848486578541574292, 7705183466195280958, -8632277234396640361, -2124636478294641936, -7017710507267338302, -510069751165339877]
end L2

end
section
set_option maxHeartbeats 4000000
/-! list(d), sorted(d) of a dict with ints as keys -/
namespace L2
open PySem PySem.Spec PyProof.Rows
section
variable {prog : Program} {w : World} {A : Around} {E : Value → Shared → Prop} {s : Shared}
theorem len_hintD {S : Addr} {o : Obj} {Q : Bool → Shared → Prop} (ho : s.heap.get? S = some o) (hc : o.ExactDict) (h : Q false s) : wpAny (model prog w) A (Builtin.List.listLengthHint (.ref S)) Q E s := by
  have hT : s.TypeIs (.ref S) "dict" := ⟨_, ho, hc.1⟩
  unfold Builtin.List.listLengthHint
  refine wpAny_bind (wpAny_specialOf hT PySem.F.slot_dict_len.lookup ?_)
  dsimp only
  rw [show splitId "dict.__len__" = some ("dict", "__len__") from by decide +kernel]
  dsimp only
  refine wpAny_bind (wpAny_isInstance (b := true) hT isSubtype_dict_dict ?_)
  rw [if_neg (by decide), if_pos (by decide +kernel)]
  exact wpAny_bind (wpAny_typeOf hT (wpAny_pure h))
/-- an empty list takes a dict's keys -/
theorem extendD {S d : Addr} {kvs : List (Key × Value)} {R : Result → Shared → Prop} (hh : A.handled = none) (hd : (d == sysModules) = false) (hD : s.heap.DictOf (mixKind prog w) d kvs) (hn : kvs.length ≤ sizeLine) (res : Value) (c₀ : Nat) (hS : s.heap.get? S = some { cls := .type "list", data := .seq #[] c₀ }) (hne : S ≠ d)
    (hR : ∀ h' tk acc' c', (∀ b o, b ≠ S → s.heap.get? b = some o → h'.get? b = some o) → h'.get? S = some { cls := .type "list", dict := none, data := .seq acc' c', slots := #[] } → ItemsOf (fun i v => ∃ k x, kvs[i]? = some (k, x) ∧ (mixKind prog w).is k v = true) acc' kvs.length → R (.ok (.ret res)) { s with heap := h', toks := tk }) :
    wpAny (model prog w) A.in1 (Builtin.List.listExtendWith (.ref S) (.ref d) res)
      (fun fin s' => match fin with | .done f => R (.ok f) s' | .again c' => c'.quiet = true ∧ codeAny (model prog w) A c' R s') (fun e s' => R (.error e) s') s := by
  obtain ⟨o, es, ep, h1, h2, h3, h4, h5, h6⟩ := hD
  have hT : s.TypeIs (.ref d) "dict" := ⟨_, h1, h2.1⟩
  have hsz : es.size = kvs.length := by have := h5.length; rwa [Array.length_toList] at this
  have hlS : S < s.heap.objs.size := Heap.lt_size hS
  have hld : d < s.heap.objs.size := Heap.lt_size h1
  unfold Builtin.List.listExtendWith
  refine wpAny_bind (wpAny_typeOf hT ?_)
  have e1 : Builtin.List.listSameRef (.ref S) (.ref d) = false := by simp [Builtin.List.listSameRef, hne]
  have e2 : (Value.type "dict" == Value.type "list") = false := by decide
  have e3 : (Value.type "dict" == Value.type "tuple") = false := by decide
  simp only [e1, e2, e3, Bool.or_false, Bool.false_eq_true, if_false]
  refine wpAny_bind (iter_keys hd h1 h2 h3 ?_)
  have hI : (s.heap.push { cls := .type "dict_keyiterator", data := .fields #[.ref d, .int 0 0, .int es.size 0, .int ep 0] }).IsKeyIter s.heap.objs.size d 0 kvs.length ep := ⟨_, Heap.get?_push_size _ rfl, rfl, by rw [hsz]; rfl⟩
  have kp : ∀ b o, s.heap.get? b = some o → (s.heap.push { cls := .type "dict_keyiterator", data := .fields #[.ref d, .int 0 0, .int es.size 0, .int ep 0] }).get? b = some o := fun b o e => Heap.get?_push_of_some _ e
  have nI : s.heap.objs.size ≠ S := Nat.ne_of_gt hlS
  have nId : d ≠ s.heap.objs.size := Nat.ne_of_lt hld
  have hnI : ∀ b o, s.heap.get? b = some o → b ≠ s.heap.objs.size := fun b o e => Nat.ne_of_lt (Heap.lt_size e)
  generalize s.heap.objs.size = I at hI nI nId hnI ⊢
  generalize s.heap.push { cls := .type "dict_keyiterator", data := .fields #[.ref d, .int 0 0, .int es.size 0, .int ep 0] } = h' at hI kp ⊢
  refine wpAny_bind (wpAny_holding (len_hintD (kp _ _ h1) h2 ?_))
  show wpAny _ A.in1 (rule "list.extend.makes-room" >>= fun _ => Builtin.List.listTouch (.ref S) >>= fun _ =>
    again (.builtin "list.extend.loop" ⟨[.ref S, .ref I, res], []⟩)) _ _ _
  refine wpAny_bind (wpAny_rule ?_)
  refine wpAny_bind ?_
  show wpAny _ A.in1 (updateSeq S (·.push .none) >>= fun _ => updateSeq S (·.pop)) _ _ _
  have hS1 := kp _ _ hS
  refine wpAny_bind (wpAny_updateSeq hS1 rfl ?_)
  have hS₂ := Heap.get?_update_self (Obj.mapSeq (·.push Value.none)) hS1 rfl
  refine wpAny_updateSeq (hz := by seq_fits) hS₂ rfl ?_
  have hS₃ := Heap.get?_update_self (Obj.mapSeq (·.pop)) hS₂ rfl
  have oth : ∀ b o, b ≠ S → h'.get? b = some o → ((h'.update S (Obj.mapSeq (·.push Value.none))).update S (Obj.mapSeq (·.pop))).get? b = some o :=
    fun b o hb e => (Heap.get?_update_other _ _ (Ne.symm hb)).trans ((Heap.get?_update_other _ _ (Ne.symm hb)).trans e)
  have W := (Walks.dictKeys (prog := prog) (w := w) (A := A.in1) (knd := mixKind prog w) (by simpa using hh) I d nId kvs ep).toS
  refine wpAny_pure ⟨plainId_quiet PySem.F.plain_extend_loop _, codeAny_extend_loopS W hn S ?_ res kvs.length 0 _ _ _ rfl (Nat.zero_le _) ⟨?_, ?_⟩ hS₃ (ItemsOf.nil _) fun s3 acc c mv hL hacc => ?_⟩
  · simp only [List.mem_cons, List.not_mem_nil, or_false, not_or]
    exact ⟨Ne.symm nI, hne⟩
  · exact hI.at fun o e => oth _ _ nI e
  · exact ⟨o, es, oth _ _ hne.symm (kp _ _ h1), h2, h3, h4, h5, h6⟩
  · obtain ⟨h9, g9, d9, t9, o9⟩ := s3
    have eg : g9 = s.gens := mv.gens
    have ed : d9 = s.drawn := mv.drawn
    have eo : o9 = s.os := mv.os
    subst eg ed eo
    refine hR h9 t9 acc c (fun b ob hb e => ?_) hL hacc
    refine mv.heap b ob ?_ (oth b ob hb (kp _ _ e))
    simp only [List.mem_cons, List.not_mem_nil, or_false, not_or]
    exact ⟨hb, hnI b ob e⟩
/-- list(d) -/
theorem call_listD {d : Addr} {kvs : List (Key × Value)} {Q : Value → Shared → Prop} (hh : A.handled = none) (hd : (d == sysModules) = false) (hD : s.heap.DictOf (mixKind prog w) d kvs) (hn : kvs.length ≤ sizeLine)
    (hQ : ∀ h' tk acc' c', (∀ b o, s.heap.get? b = some o → h'.get? b = some o) → h'.get? s.heap.objs.size = some { cls := .type "list", dict := none, data := .seq acc' c', slots := #[] } → ItemsOf (fun i v => ∃ k x, kvs[i]? = some (k, x) ∧ (mixKind prog w).is k v = true) acc' kvs.length → Q (.ref s.heap.objs.size) { s with heap := h', toks := tk }) :
    wpAny (model prog w) A (call (.type "list") [.ref d]) Q E s := by
  refine callType_codes (Q₁ := fun obj s₁ => obj = .ref s.heap.objs.size ∧ s₁ = { s with heap := s.heap.push { cls := .type "list", data := .seq #[] } }) PySem.F.called_list (PySem.F.typeCall_list_1 _) PySem.F.entry_list_init
    (code_list_new _ ⟨rfl, rfl⟩) fun obj s₁ h₁ => ?_
  obtain ⟨rfl, rfl⟩ := h₁
  have hS : (s.heap.push { cls := .type "list", data := .seq #[] }).get? s.heap.objs.size = some { cls := .type "list", data := .seq #[] } := Heap.get?_push_size _ rfl
  obtain ⟨od, _, _, hod, _⟩ := id hD
  have hlt := Heap.lt_size hod
  refine ⟨⟨_, hS, rfl⟩, PySem.F.args_list_init_2 _ _, ?_⟩
  show wpAny _ _ (do let old ← Builtin.List.listItems (.ref s.heap.objs.size); Builtin.List.listUpdate (.ref s.heap.objs.size) (fun _ => #[]); letGo old.toList.reverse; Builtin.List.listExtendWith (.ref s.heap.objs.size) (.ref d) .none) _ _ _
  refine wpAny_bind ?_
  unfold Builtin.List.listItems
  refine wpAny_bind (wpAny_seqItems hS rfl (wpAny_pure ?_))
  show wpAny _ _ (updateSeq s.heap.objs.size (fun _ => #[]) >>= fun _ => letGo (#[] : Array Value).toList.reverse >>= fun _ => Builtin.List.listExtendWith (.ref s.heap.objs.size) (.ref d) .none) _ _ _
  refine wpAny_bind (wpAny_updateSeq hS rfl ?_)
  have hS₂ := Heap.get?_update_self (Obj.mapSeq (fun _ => (#[] : Array Value))) hS rfl
  refine wpAny_bind (wpAny_letGo ?_)
  have kp : ∀ b o, s.heap.get? b = some o → ((s.heap.push { cls := .type "list", data := .seq #[] }).update s.heap.objs.size (Obj.mapSeq (fun _ => (#[] : Array Value)))).get? b = some o := fun b o e => (Heap.get?_update_other _ _ (Nat.ne_of_gt (Heap.lt_size e))).trans (Heap.get?_push_of_some _ e)
  refine extendD (A := A.in1) (s := { s with heap := _ }) (by simpa using hh) hd (hD.at fun o e => kp _ _ e) hn .none _ hS₂ (Nat.ne_of_gt hlt) fun h' tk acc' c' k hL hi => ?_
  exact ⟨rfl, hQ h' tk acc' c' (fun b o e => k b o (Nat.ne_of_lt (Heap.lt_size e)) (kp _ _ e)) hL hi⟩
end
section
variable {X : Cx}
theorem kv_keys : ∀ {kvs : List (Key × V)} {vs : List (Key × Value)}, KV kvs vs → vs.map (·.1) = kvs.map (·.1)
  | _, _, .nil => rfl
  | _, _, .cons h t => by rw [List.map_cons, List.map_cons, kv_keys t, h.1]
end
end L2

end
section
set_option maxHeartbeats 4000000
namespace L2
open PySem PySem.Spec PyProof.Rows
/-! ### comprehensions whose step may raise -/
theorem noteFrame_env {e : Value} {a b : Env} (h : a.frame = b.frame) : noteFrame e a = noteFrame e b := by
  unfold noteFrame PySem.frameOf
  rw [h]
section
variable {M : Model} {A : Around} {E : Value → Shared → Prop} {s : Shared}
/-- its flight at whatever frame -/
theorem flight_fr {e C T : Addr} {d : Option Addr} {fl : Value} {f : Option Addr} {Q : Unit → Shared → Prop} (hx : ExAt s.heap e C d (.ref T)) (ht : TrAt s.heap T fl) (hne : T ≠ e)
    (k : ∀ h' fl', (∀ b, b ≠ T → h'.get? b = s.heap.get? b) → ExAt h' e C d (.ref T) → TrAt h' T fl' → Q () { s with heap := h' }) : wpAny M A (setFlight (.ref e) f) Q E s := by
  obtain ⟨oe, vs, he, c1, c2, c3, c4, c5, c6⟩ := id hx
  obtain ⟨oT, ts, hT, dT, fT⟩ := ht
  have hsz : 3 < ts.size := (Array.getElem?_eq_some_iff.mp fT).1
  have oth : ∀ b, b ≠ T → (s.heap.update T (Obj.mapFields (·.setIfInBounds 3 (f.elim Value.none fun f => rawInt f)))).get? b = s.heap.get? b := fun b hb => Heap.get?_update_other _ _ (Ne.symm hb)
  unfold setFlight
  refine wpAny_bind (wpAny_field he c3 c5 ?_)
  rw [if_pos (show (Value.ref T != Value.none) = true from by simp)]
  exact wpAny_setField hT dT hsz (k _ _ oth (hx.keep fun o q => (oth e (Ne.symm hne)).trans q) ⟨_, _, Heap.get?_update_self _ hT (Obj.isFreed_of_fields (Obj.data_mapFields dT _)), Obj.data_mapFields dT _, by simp [hsz]; rfl⟩)
/-- noted, wherever it is in flight -/
theorem note_fr {base : Heap} {env : Env} {outer : List Env} {L e C T0 : Addr} {d : Option Addr} {fl : Value} {Q : Unit → Shared → Prop}
    (hfr : A.frames = some (env :: outer)) (hl : s.heap.FunFrames base (env :: outer)) (hf : env.frame = some L) (hx1 : ExAt s.heap e C d (.ref T0)) (ht : TrAt s.heap T0 fl) (hne : T0 ≠ e)
    (k : ∀ h' T, (s.heap.objs.size = T ∨ T = T0) → (∀ b o, s.heap.get? b = some o → b ∉ frs (env :: outer) → b ≠ e → b ≠ T0 → h'.get? b = some o) →
      (∀ b o, s.heap.get? b = some o → b ≠ e → b ≠ T0 → ∃ sl, h'.get? b = some { o with slots := sl }) → ExAt h' e C d (.ref T) → TrAt h' T (rawInt L) → T ≠ e → Q () { s with heap := h' }) :
    wpAny M A (noteFrame (.ref e) env) Q E s := by
  unfold noteFrame
  simp only [hf]
  obtain ⟨oT, ts, hT, dT, fT⟩ := id ht
  obtain ⟨oe, vs, he, c1, c2, c3, c4, c5, c6⟩ := id hx1
  refine wpAny_bind (wpAny_field he c3 c5 ?_)
  rw [if_pos (show (Value.ref T0 != Value.none) = true from by simp)]
  refine wpAny_bind (wpAny_field hT dT fT ?_)
  by_cases hq : (fl == rawInt L) = true
  · rw [if_pos hq]
    obtain rfl : fl = rawInt L := eq_of_beq hq
    exact wpAny_pure (k s.heap T0 (.inr rfl) (fun b o q _ _ _ => q) (fun b o q _ _ => ⟨o.slots, q⟩) hx1 ht hne)
  · rw [if_neg hq]
    refine wpAny_bind (wpAny_setField hT dT (Array.getElem?_eq_some_iff.mp fT).1 ?_)
    have oth : ∀ b, b ≠ T0 → (s.heap.update T0 (Obj.mapFields (·.setIfInBounds 3 Value.none))).get? b = s.heap.get? b := fun b hb => Heap.get?_update_other _ _ (Ne.symm hb)
    have nrec : ∀ b o, s.heap.get? b = some o → (∀ vs, o.data ≠ .fields vs) → b ≠ T0 := fun b o hb nf q => by
      rw [q, hT] at hb
      cases hb
      exact nf ts dT
    have lt0 : (s.heap.update T0 (Obj.mapFields (·.setIfInBounds 3 Value.none))).objs.size = s.heap.objs.size := by
      first | exact Heap.size_update _ _ _ | simp [Heap.update]
    refine note_entry hfr (hl.of_keeps fun b o hb nf => ⟨o, (oth b (nrec b o hb nf)).trans hb, rfl⟩) hf (hx1.keep fun o q => (oth e (Ne.symm hne)).trans q) fun h' T a b c => k h' T (.inl (lt0.symm.trans a)) (fun x o q nf hb ho => b x o ((oth x ho).trans q) nf hb)
      fun x o q hb ho => c x o ((oth x ho).trans q) hb
end
/-- how an exception lies behind a comprehension -/
structure FlF (X : Cx) (H : Hp) (s : Shared) (ea C : Addr) (d : Option Addr) (T : Addr) : Prop where
  ex : ExAt s.heap ea C d (.ref T)
  tr : ∃ fl, TrAt s.heap T fl
  ne : T ≠ ea
  new : X.s_0.heap.get? ea = none
  un : H ea = none
  newT : X.s_0.heap.get? T = none
  unT : H T = none
def XOkF (X : Cx) (E : XK) : Prop := ∀ (pins : List (Addr × Obj)) (σ : St) (H : Hp) (s : Shared) (ea C : Addr) (d : Option Addr) (T : Addr), Inv X pins σ H s → FlF X H s ea C d T → E (.ref C) d H → X.xe (.ref ea) s
section
variable {X : Cx} {pins : List (Addr × Obj)} {σ : St} {H : Hp} {s : Shared} {ea C T0 : Addr} {d : Option Addr} {E : XK}
theorem leave_fr {E' : Value → Shared → Prop} (I : Inv X pins σ H s) (hx : X.ex = []) (hst : X.stack = X.env :: X.outer) (hfr : X.env.frame = some X.env.locals) (F : FlF X H s ea C d T0) (hE : E (.ref C) d H) :
    wpAny (model X.prog X.w) X.A (leaving X.env (.ref ea)) (fun _ s2 => CX1 X.prog X.w X.outer X.H_0 X.s_0 E (.ref ea) s2) E' s := by
  have hl : s.heap.FunFrames X.base (X.env :: X.outer) := by rw [← hst]; exact I.stack
  obtain ⟨fl, tr⟩ := F.tr
  unfold leaving
  refine wpAny_bind (note_fr (by rw [I.ok.frames, hst]) hl hfr F.ex tr F.ne fun h1 T hT k1 k2 x1 t1 ne => ?_)
  refine flight_any x1 t1 ne fun h2 k3 fl2 => ?_
  have fsE : frs (X.env :: X.outer) = X.env.locals :: X.fs := by simp [frs, hfr]
  have bs := I.base
  rw [hx] at bs
  have old_ne : ∀ b o, X.s_0.heap.get? b = some o → b ≠ ea ∧ b ≠ T0 ∧ b ≠ X.env.locals := fun b o q => by
    refine ⟨fun z => ?_, fun z => ?_, Nat.ne_of_lt (Nat.lt_of_lt_of_le (Heap.lt_size q) I.ok.above)⟩
    · rw [z, F.new] at q; cases q
    · rw [z, F.newT] at q; cases q
  have nT : ∀ b o, s.heap.get? b = some o → b ≠ T0 → b ≠ T := fun b o q n0 z => by
    rcases hT with hT | hT
    · have q2 := Heap.lt_size q
      rw [z, ← hT] at q2
      exact Nat.lt_irrefl _ q2
    · exact n0 (z.trans hT)
  refine ⟨ea, C, d, some T, H, rfl, I.os, I.bare, ⟨fun b o q n hb he => ?_, fun b o q n hb he => ?_, fun b o q n he => bs.free b o q n he, fun b o q he => ?_, bs.tups, bs.frzs, bs.tbls⟩, I.hok.calm fun b u o q e => ?_, fl2, F.new, F.un, fun T' e => ?_, hE⟩
  · have q1 := bs.keep b o q n hb he
    obtain ⟨n1, n2, n3⟩ := old_ne b o q
    show h2.get? b = some o
    rw [k3 b (nT b o q1 n2)]
    refine k1 b o q1 (fun z => ?_) n1 n2
    rw [fsE] at z
    rcases List.mem_cons.mp z with z | z
    · exact n3 z
    · exact hb z
  · obtain ⟨sl, q1⟩ := bs.slot b o q n hb he
    obtain ⟨n1, n2, n3⟩ := old_ne b o q
    obtain ⟨sl2, q2⟩ := k2 b _ q1 n1 n2
    exact ⟨sl2, (k3 b (nT b _ q1 n2)).trans q2⟩
  · obtain ⟨o1, q1⟩ := bs.there b o q he
    obtain ⟨n1, n2, n3⟩ := old_ne b o q
    obtain ⟨sl2, q2⟩ := k2 b _ q1 n1 n2
    exact ⟨_, (k3 b (nT b _ q1 n2)).trans q2⟩
  · have nb : b ≠ T0 := fun z => by rw [z, F.unT] at q; cases q
    show h2.get? b = some u
    rw [k3 b (nT b u e nb)]
    refine k1 b u e (fun z => ?_) (fun z => ?_) nb
    · rw [← hst] at z
      rw [I.stkFree b z] at q; cases q
    · rw [z, F.un] at q; cases q
  · cases e
    rcases hT with hT | hT
    · have hn : s.heap.get? T = none := Heap.get?_none_of_le (Nat.le_of_eq hT)
      exact ⟨bs.gone hn, I.hok.un hn⟩
    · rw [hT]; exact ⟨F.newT, F.unT⟩
end
theorem xokF_def {P : Program} {w : World} {K : PySem.W.Frag} {mg : Str → Option Value} {base : Heap} {N : List Str} {qual : Str} {scope : Scope} {f : Addr} {cd : Value} {A : Around} {outer : List Env} {s : Shared} {H : Hp} {E : XK} :
    XOkF (cxOf (CX1 P w) P w K mg base N qual scope f cd A outer s H E) E := fun pins σ H1 s1 ea C d T I F hE =>
  leave_fr I rfl rfl rfl F hE
/-- what the step of a block may raise -/
def Bx (Y : Cx) (E : XK) : Value → Shared → Prop := fun e s' => ∃ pins σ H s, Inv Y pins σ H s ∧ CX1 Y.prog Y.w Y.stack H s E e s'
abbrev Cx.blkX (X : Cx) (s : Shared) (H : Hp) (scope : Scope) (cenv : Env) (fp : List Addr) (E : XK) : Cx := { X.blk s H scope cenv fp with xe := Bx (X.blk s H scope cenv fp) E }
theorem Inv.toX {X : Cx} {g : Value → Shared → Prop} {pins : List (Addr × Obj)} {σ : St} {H : Hp} {s : Shared} (I : Inv X pins σ H s) : Inv { X with xe := g } pins σ H s := by
  obtain ⟨⟨a1, a2, a3, a4, a5, a6, a7, a8, a9, a10, a11, a12, a13, a14, a15, a16, a17, a18⟩, b1, b2, b3, b4, b5, b6, b7, b8, b9, b10⟩ := I
  exact ⟨⟨a1, a2, a3, a4, a5, a6, a7, a8, a9, a10, a11, a12, a13, a14, a15, a16, a17, a18⟩, b1, b2, b3, b4, b5, b6, b7, b8, b9, b10⟩
theorem Inv.ofX {X : Cx} {g : Value → Shared → Prop} {pins : List (Addr × Obj)} {σ : St} {H : Hp} {s : Shared} (I : Inv { X with xe := g } pins σ H s) : Inv X pins σ H s := by
  obtain ⟨⟨a1, a2, a3, a4, a5, a6, a7, a8, a9, a10, a11, a12, a13, a14, a15, a16, a17, a18⟩, b1, b2, b3, b4, b5, b6, b7, b8, b9, b10⟩ := I
  exact ⟨⟨a1, a2, a3, a4, a5, a6, a7, a8, a9, a10, a11, a12, a13, a14, a15, a16, a17, a18⟩, b1, b2, b3, b4, b5, b6, b7, b8, b9, b10⟩
theorem passB {X : Cx} {s : Shared} {H : Hp} {scope : Scope} {cenv : Env} {fp : List Addr} {E : XK} : Passes (CX1 X.prog X.w) (X.blkX s H scope cenv fp E) E := fun pins σ H s e s' I c => ⟨pins, σ, H, s, I.ofX, c⟩
/-- an exception of the step leaves the block -/
theorem raise_over {X : Cx} {pins : List (Addr × Obj)} {σ : St} {Hc H' : Hp} {sc s' : Shared} {ea Cx D C : Addr} {d old : Option Addr} {E : XK} {use : Option (Value → Sem Unit)} {Qf : Value → Shared → Prop} {ce : Env} {mC : Str → Option Value}
    (Ic : Inv X pins σ Hc sc) (hx : X.ex = []) (hst : X.stack = X.env :: X.outer) (hfr : X.env.frame = some X.env.locals) (hce : ce.frame = X.env.frame) (xF : XOkF X E)
    (os : s'.os = sc.os) (bare : AllBare s'.gens) (un : Un (frs X.stack) [] Hc H' sc.heap s'.heap) (hok : HOk X.prog X.w H' s'.heap) (fl : Fl s'.heap ea Cx d old) (n1 : sc.heap.get? ea = none) (n2 : H' ea = none)
    (n3 : ∀ T, old = some T → sc.heap.get? T = none ∧ H' T = none) (hE : E (.ref Cx) d H') (hC : sc.heap.Ns C mC) (fC : FpOk X pins Hc C) :
    notedBy (model X.prog X.w) X.A ce (fun e s' => compPost (model X.prog X.w) X.A X.xe use Qf (.ref D) C (.error e) s') (.ref ea) s' := by
  have I1 : Inv X pins σ H' s' := Ic.call' (ch := []) os un hok bare fun b z => absurd z (by simp)
  have hl : s'.heap.FunFrames X.base (X.env :: X.outer) := by rw [← hst]; exact I1.stack
  show wpAny _ _ (noteFrame (.ref ea) ce) _ _ s'
  rw [noteFrame_env hce]
  refine note_any (by rw [I1.ok.frames, hst]) hl hfr fl fun h1 T hT k1 k2 x1 t1 ne => ?_
  obtain ⟨oC, esC, epC, hoC, rC⟩ := id hC
  have fsE : frs (X.env :: X.outer) = X.env.locals :: X.fs := by simp [frs, hfr]
  have cfs : C ∉ frs X.stack := by
    rw [hst, fsE]
    intro z
    rcases List.mem_cons.mp z with z | z
    · exact fC.2.1 z
    · exact fC.2.2.1 z
  -- an object of the callee's entry
  have o_ne : ∀ b o, sc.heap.get? b = some o → b ≠ ea ∧ some b ≠ old ∧ b ≠ T := fun b o q => by
    refine ⟨fun z => ?_, fun z => ?_, fun z => ?_⟩
    · rw [z, n1] at q; cases q
    · rw [(n3 b z.symm).1] at q; cases q
    · obtain ⟨o', q'⟩ := un.there b o q (by simp)
      have q2 := Heap.lt_size q'
      rw [z, ← hT] at q2
      exact Nat.lt_irrefl _ q2
  have cC : h1.get? C = some oC := k1 C oC (un.keep C oC hoC fC.1 cfs (by simp)) (by rw [← hst]; exact cfs) (o_ne C oC hoC).1 (o_ne C oC hoC).2.1
  have tC : T ≠ C := fun z => (o_ne C oC hoC).2.2 z.symm
  have eC : ea ≠ C := fun z => (o_ne C oC hoC).1 z.symm
  have all : ∃ m, h1.Ns C m ∧ ∀ h', Heap.SameBut C h1 h' → ∀ cenv : Env, cenv.locals = C → wpAny (model X.prog X.w) X.A (PySem.passOn "comprehension.variables-let-go" (.ref ea) cenv : Sem Value) (fun _ _ => False) X.xe { s' with heap := h' } := by
    refine ⟨_, hC.at' fun o e => ?_, fun h' sb cenv _ => ?_⟩
    · rw [hoC] at e; cases e
      exact cC
    have x2 : ExAt h' ea Cx d (.ref T) := x1.keep fun o q => (sb.2 ea eC).trans q
    have t2 : TrAt h' T (rawInt X.env.locals) := t1.keep fun o q => (sb.2 T tC).trans q
    obtain ⟨oe, vs, he, c1, c2, c3, c4, c5, c6⟩ := id x2
    unfold PySem.passOn
    refine wpAny_bind (wpAny_field he c3 c5 ?_)
    rw [if_neg (show ¬ ((Value.ref T == Value.none) = true) from by simp)]
    refine wpAny_bind (flight_fr x2 t2 ne fun h3 fl' k3 x3 t3 => ?_)
    refine wpAny_throw ?_
    have hTn : s'.heap.get? T = none := Heap.get?_none_of_le (Nat.le_of_eq hT)
    have uT : H' T = none := I1.hok.un hTn
    have scT : sc.heap.get? T = none := un.gone hTn
    have un3 : Un (frs X.stack) [C] Hc H' sc.heap h3 := by
      refine ⟨fun b o q n hb he => ?_, fun b o q n hb he => ?_, fun b o q n he => un.free b o q n (by simp), fun b o q he => ?_, un.tups, un.frzs, un.tbls⟩
      · have hbC : b ≠ C := by simpa using he
        obtain ⟨m1, m2, m3⟩ := o_ne b o q
        rw [k3 b m3, sb.2 b hbC]
        exact k1 b o (un.keep b o q n hb (by simp)) (by rw [← hst]; exact hb) m1 m2
      · have hbC : b ≠ C := by simpa using he
        obtain ⟨m1, m2, m3⟩ := o_ne b o q
        obtain ⟨sl, q1⟩ := un.slot b o q n hb (by simp)
        obtain ⟨sl2, q2⟩ := k2 b _ q1 m1 m2
        exact ⟨sl2, (k3 b m3).trans ((sb.2 b hbC).trans q2)⟩
      · have hbC : b ≠ C := by simpa using he
        obtain ⟨m1, m2, m3⟩ := o_ne b o q
        obtain ⟨o1, q1⟩ := un.there b o q (by simp)
        obtain ⟨sl2, q2⟩ := k2 b _ q1 m1 m2
        exact ⟨_, (k3 b m3).trans ((sb.2 b hbC).trans q2)⟩
    have hCn : H' C = none := un.free C oC hoC fC.1 (by simp)
    have hok3 : HOk X.prog X.w H' h3 := hok.calm fun b u o q e => by
      have m1 : b ≠ ea := fun z => by rw [z, n2] at q; cases q
      have m2 : some b ≠ old := fun z => by rw [(n3 b z.symm).2] at q; cases q
      have m3 : b ≠ T := fun z => by rw [z, uT] at q; cases q
      have m4 : b ≠ C := fun z => by rw [z, hCn] at q; cases q
      rw [k3 b m3, sb.2 b m4]
      refine k1 b u e (fun z => ?_) m1 m2
      rw [← hst] at z
      rw [I1.stkFree b z] at q; cases q
    obtain ⟨f0, f1, f2, f3, f4, f5⟩ := fC
    have I3 : Inv X pins σ H' { s' with heap := h3 } := Ic.call' (ch := [C]) os un3 hok3 bare fun b z => by
      obtain rfl : b = C := by simpa using z
      exact ⟨f3, f1, f4, f5⟩
    exact xF pins σ H' _ ea Cx d T I3 ⟨x3, ⟨_, t3⟩, ne, Ic.gone hx n1, n2, Ic.gone hx scT, uT⟩ hE
  cases use <;> exact all

theorem lc_coreE {X : Cx} {E : XK} {pins : List (Addr × Obj)} {s : Shared} {σ : St} {H : Hp} {Q : VK} {elt tg iter : Expr} {ifs : List Expr} {scope : Scope} {own : List (Str × Nat)} {pos pos' : Pos} {wi : TI} {g : TG} {tt : TT} {te : TE} {use : Option (Value → Sem Unit)} {Qf : Value → Shared → Prop}
    (hxe : X.ex = []) (hst : X.stack = X.env :: X.outer) (hfr : X.env.frame = some X.env.locals) (xF : XOkF X E) (hc : X.calm = true) (hN : X.N.Nodup) (I : Inv X pins σ H s) (hi : PI X tg iter wi) (ok : BlkOk X.N X.env.scope scope own)
    (hg : ∀ (s : Shared) (H : Hp) (C : Addr) (cl : List (Str × Addr)) (fp : List Addr), PG (X.blk s H scope (compEnvC scope cl C X.env) fp) tg g) (ht : ∀ (s : Shared) (H : Hp) (C : Addr) (cl : List (Str × Addr)) (fp : List Addr), PTs (X.blk s H scope (compEnvC scope cl C X.env) fp) ifs tt)
    (he : ∀ (s : Shared) (H : Hp) (C : Addr) (cl : List (Str × Addr)) (fp : List Addr), PE (X.blkX s H scope (compEnvC scope cl C X.env) fp E) elt te) (hs : ∀ x, foldedSetIterable iter X.env x = pure x)
    (h : tLc wi g tt te (own.map (·.2)) σ H Q)
    (hRR : ∀ D C s' m H', Inv X pins σ H' s' → Q (.ref D) H' → s'.heap.Ns C m → FpOk X pins H' C → compPost (model X.prog X.w) X.A X.xe use Qf (.ref D) C (.ok .next) s') :
    wpAny (model X.prog X.w) X.A (comprehension (.ListComp elt [⟨tg, iter, ifs, 0⟩] scope pos) scope X.env pos' (newList []) false (eval iter X.env) use) Qf X.xe s := by
  have hfree : ∀ y ∈ scope.names, y.2 = .free → ∃ c, X.env.cells.lookup y.1 = some c := fun y hy e => by
    rcases ok.free y hy e with k | k
    · exact I.ok.has _ (.inl k)
    · exact I.ok.has _ (.inr k)
  refine wpAny_comprehension_free (use := use) rfl hs (closure_ok hfree) ok.kind (fun y hy e => by rw [ok.uniq y hy, e])
    (thn (hi pins s σ H _ I h) fun xv s1 hx => thn hx fun itv s2 h2 => ?_)
  obtain ⟨it, fp, tn, J, H2, e, I2, T, st2, f2, q⟩ := h2
  subst e
  refine wpAny_newObj_type (newEnv_comp ?_) (by show 0 ≤ sizeLine; decide)
  generalize hD : s2.heap.objs.size = D
  have hDn : H2 D = none := I2.hok.fresh (Nat.le_of_eq hD)
  obtain ⟨W, ⟨m0, w0⟩, turn⟩ := q D hDn
  -- the new list
  generalize hs3 : ({ s2 with heap := s2.heap.push { cls := .type "list", data := .seq ([] : List Value).toArray } } : Shared) = s3
  have I3 : Inv X pins σ (upd H2 D (.lst [])) s3 := by
    rw [← hs3]
    refine I2.laid (t' := s2.toks) (fun b o e => Heap.get?_push_of_some _ e) (Nat.le_of_eq hD) ⟨Nat.zero_le _, [], 0, .nil, ?_⟩
    rw [← hD]
    exact Heap.get?_push_size _ rfl
  have h3 : s3.heap = s2.heap.push { cls := .type "list", data := .seq ([] : List Value).toArray } := by rw [← hs3]
  have sz : ∀ b ∈ fp, b < s2.heap.objs.size := fun b hb => by
    obtain ⟨o, e, _⟩ := T.obj _ _ st2 b hb
    exact Heap.lt_size e
  have f3 : ∀ b ∈ fp, FpOk X pins (upd H2 D (.lst [])) b ∧ b < s3.heap.objs.size := fun b hb => by
    have hlt := sz b hb
    refine ⟨⟨?_, (f2 b hb).2⟩, by rw [h3, Heap.size_push]; exact Nat.lt_succ_of_lt hlt⟩
    rw [upd_ne (by rw [← hD]; exact Nat.ne_of_lt hlt)]
    exact (f2 b hb).1
  have st3 : tn 0 s3.heap := T.keep _ _ _ st2 fun b _ o e => by rw [h3]; exact Heap.get?_push_of_some _ e
  have I4 := block_start I3 ok hN f3
  have pg := hg s3 (upd H2 D (.lst [])) s3.heap.objs.size (cellsFrom (s3.heap.objs.size + 1) scope.names (cloFrom X.env.cells scope.names [])) fp
  have pt := ht s3 (upd H2 D (.lst [])) s3.heap.objs.size (cellsFrom (s3.heap.objs.size + 1) scope.names (cloFrom X.env.cells scope.names [])) fp
  have pe := he s3 (upd H2 D (.lst [])) s3.heap.objs.size (cellsFrom (s3.heap.objs.size + 1) scope.names (cloFrom X.env.cells scope.names [])) fp
  show codeAny _ _ (.compStart (.ListComp elt [⟨tg, iter, ifs, 0⟩] scope pos) 0 (.ref it) (.ref D) (compEnvC scope (cellsFrom (s3.heap.objs.size + 1) scope.names (cloFrom X.env.cells scope.names [])) s3.heap.objs.size X.env)) (compPost (model X.prog X.w) X.A X.xe use Qf (.ref D) s3.heap.objs.size) { s3 with heap := pushCells (s3.heap.push { cls := .type "dict", data := .dict #[] }) scope.names }
  have nfp : ∀ b ∈ fp, (upd H2 D (.lst [])) b = none := fun b hb => (f3 b hb).1.1
  generalize hce : compEnvC scope (cellsFrom (s3.heap.objs.size + 1) scope.names (cloFrom X.env.cells scope.names [])) s3.heap.objs.size X.env = ce at I4 pg pt pe ⊢
  have cL : ce.locals = s3.heap.objs.size := by subst hce; rfl
  have cF : ce.frame = X.env.frame := by subst hce; rfl
  generalize hH3 : upd H2 D (.lst []) = H3 at I3 I4 pg pt pe w0 nfp f3
  generalize hs4 : ({ s3 with heap := pushCells (s3.heap.push { cls := .type "dict", data := .dict #[] }) scope.names } : Shared) = s4 at I4 ⊢
  have st4 : tn 0 s4.heap := T.keep _ _ _ st3 fun b _ o e => by rw [← hs4]; exact pushCells_keeps _ _ _ _ (Heap.get?_push_of_some _ e)
  have stat : ∀ {σ' : St} {H' : Hp} {s' : Shared}, Inv (X.blk s3 H3 scope ce fp) [] σ' H' s' → (∀ b ∈ fp, H' b = none) → ∀ b ∈ fp, FpOk (X.blk s3 H3 scope ce fp) [] H' b := fun {σ' H' s'} I' hn b hb =>
    ⟨hn b hb, (I'.ok.exf b hb).1, I'.ok.exfs b hb, .inl hb, fun x c e => (I'.ok.exf b hb).2 x c e, fun p hp => absurd (show p ∈ ([] : List (Addr × Obj)) ++ [] from hp) (by simp)⟩
  have loop : codeAny (model X.prog X.w) X.A (.compLoop (.ListComp elt [⟨tg, iter, ifs, 0⟩] scope pos) 0 (.ref it) (.ref D) ce) (compPost (model X.prog X.w) X.A X.xe use Qf (.ref D) s3.heap.objs.size) s4 := by
    refine compLoop_any (fun n s' => ∃ i H', Inv (X.blk s3 H3 scope ce fp) [] (wipe σ (own.map (·.2))) H' s' ∧ tn i s'.heap ∧ (∀ b ∈ fp, H' b = none) ∧ W i n H') ?_ m0 ⟨0, H3, I4, st4, nfp, w0⟩
    rintro n s5 ⟨i, H5, I5, st5, n5, w5⟩
    rcases turn i n H5 w5 with ⟨stop, qq⟩ | ⟨go, Nx, hNx, step⟩
    · have td := T.done (X.blk s3 H3 scope ce fp) rfl rfl rfl hc i [] s5 _ H5 (fun _ _ => False) I5 (stat I5 n5) st5 stop
      refine thnF td fun r s6 ⟨hr, I6⟩ => ?_
      subst hr
      -- back in the def's context
      have I7 : Inv X pins σ H5 s6 := I3.call' (ch := fp) I6.os I6.base I6.hok I6.bare fun b hb => ⟨(f3 b hb).1.2.2.2.1, (f3 b hb).1.2.1, (f3 b hb).1.2.2.2.2.1, (f3 b hb).1.2.2.2.2.2⟩
      have nC : H5 s3.heap.objs.size = none := by
        have z : H5 ce.locals = none := I6.free
        rw [cL] at z
        exact z
      obtain ⟨m, hn, _⟩ := I6.loc
      have hn : s6.heap.Ns ce.locals m := hn
      rw [cL] at hn
      exact hRR D s3.heap.objs.size s6 m H5 I7 qq hn (I3.fpOk (Nat.le_refl _) nC)
    · have ti := T.item (X.blk s3 H3 scope ce fp) rfl rfl rfl hc i [] s5 _ H5 (fun _ _ => False) I5 (stat I5 n5) st5 go
      refine thnF ti fun r s6 ⟨u, hr, h6⟩ => ?_
      subst hr
      refine thnF h6 fun _ s7 ⟨x, H7, I7, r7, y7, st7, n7⟩ => ?_
      have I7' := I7.pinned (stat I7 n7) (T.obj _ _ st7)
      refine thnF (pg _ s7 _ H7 x u _ I7' r7 (step x H7 y7)) fun _ s8 ⟨σ8, H8, I8, hw8, q8⟩ => ?_
      refine thnF (pt _ s8 σ8 H8 _ I8 q8) fun b s9 ⟨H9, I9, q9⟩ => ?_
      -- the turn's end
      have fin : ∀ {s' : Shared} {H' : Hp}, Inv (X.blk s3 H3 scope ce fp) ([] ++ pinsAt fp s7.heap) σ8 H' s' → Nx H' → ∃ m, m < n ∧ ∃ i H', Inv (X.blk s3 H3 scope ce fp) [] (wipe σ (own.map (·.2))) H' s' ∧ tn i s'.heap ∧ (∀ b ∈ fp, H' b = none) ∧ W i m H' := fun {s' H'} I' nx => by
        obtain ⟨m', hm, w'⟩ := hNx H' nx
        have pin' : ∀ b ∈ fp, ∀ o, s7.heap.get? b = some o → s'.heap.get? b = some o ∧ H' b = none := fun b hb o e =>
          let z := I'.pin (b, o) (List.mem_append_right _ (List.mem_append_right _ (mem_pinsAt hb e)))
          ⟨z.1, z.2.1⟩
        have hl : (wipe σ (own.map (·.2))).length = σ8.length := by rw [← hw8, wipe_length]
        refine ⟨m', hm, i + 1, H', (I'.unpinned (pins := [])).weak hl (fun j v e => ?_), T.keep _ _ _ st7 fun b hb o e => (pin' b hb o e).1, fun b hb => ?_, w'⟩
        · rw [← hw8] at e
          exact (wipe_some e).1
        · obtain ⟨o, e, _⟩ := T.obj _ _ st7 b hb
          exact (pin' b hb o e).2
      cases b with
      | false =>
        simp only [Bool.false_eq_true, if_false] at q9 ⊢
        exact fin I9 q9
      | true =>
        simp only [if_true] at q9 ⊢
        refine wpAny_mono (pe _ s9 σ8 H9 _ I9.toX q9) (fun z s10 ⟨yv, H10, I10, r10, acc, hD10, hz10, nx⟩ => ?_) fun e s10 hb => ?_
        · exact app_ok (X := X.blk s3 H3 scope ce fp) I10.ofX hD10 hz10 r10 fun s11 I11 => fin I11 nx
        · obtain ⟨pinsc, σc, Hc, sc, Ic, ea, Cx, d, old, H', rfl, os, bare, un, hok, fl, n1, n2, n3, hE⟩ := hb
          have I7 : Inv X pins σ Hc sc := I3.call' (ch := fp) Ic.os Ic.base Ic.hok Ic.bare fun b hb => ⟨(f3 b hb).1.2.2.2.1, (f3 b hb).1.2.1, (f3 b hb).1.2.2.2.2.1, (f3 b hb).1.2.2.2.2.2⟩
          have nC : Hc s3.heap.objs.size = none := by
            have z : Hc ce.locals = none := Ic.free
            rw [cL] at z
            exact z
          obtain ⟨m, hn, _⟩ := Ic.loc
          have hn : sc.heap.Ns ce.locals m := hn
          rw [cL] at hn
          exact raise_over I7 hxe hst hfr cF xF os bare un hok fl n1 n2 n3 hE hn (I3.fpOk (Nat.le_refl _) nC)
  exact codeAny_compStart_list loop (T.self X.A 0 _ _ _ st4 loop)
theorem ps_setLcE {X : Cx} {E : XK} {i : Nat} {y : Str} {py : Pos} {elt tg iter : Expr} {ifs : List Expr} {scope : Scope} {own : List (Str × Nat)} {pos spos : Pos} {wi : TI} {g : TG} {tt : TT} {te : TE} (hxe : X.ex = []) (hst : X.stack = X.env :: X.outer) (hfr : X.env.frame = some X.env.locals) (xF : XOkF X E) (hc : X.calm = true) (hN : X.N.Nodup) (hy : X.N[i]? = some y) (hyl : X.env.scope.names.lookup y = some .local)
    (hsw : swapsWith (.ListComp elt [⟨tg, iter, ifs, 0⟩] scope pos) (some (.Name y py)) spos.line X.env = pure true) (hi : PI X tg iter wi) (ok : BlkOk X.N X.env.scope scope own)
    (hg : ∀ (s : Shared) (H : Hp) (C : Addr) (cl : List (Str × Addr)) (fp : List Addr), PG (X.blk s H scope (compEnvC scope cl C X.env) fp) tg g) (ht : ∀ (s : Shared) (H : Hp) (C : Addr) (cl : List (Str × Addr)) (fp : List Addr), PTs (X.blk s H scope (compEnvC scope cl C X.env) fp) ifs tt)
    (he : ∀ (s : Shared) (H : Hp) (C : Addr) (cl : List (Str × Addr)) (fp : List Addr), PE (X.blkX s H scope (compEnvC scope cl C X.env) fp E) elt te) (hs : ∀ x, foldedSetIterable iter X.env x = pure x := by intro _; rfl) :
    PS X (.Assign [.Name y py] (.ListComp elt [⟨tg, iter, ifs, 0⟩] scope pos) spos) (tAsg (tLc wi g tt te (own.map (·.2))) (gName i)) := by
  intro pins s σ H D I h
  rw [exec_Assign_Name_used _ _ _ _ hsw]
  refine wpAny_bind (wpAny_standAt (wpAny_bind ?_))
  show wpAny _ X.A (do let _ ← comprehension (.ListComp elt [⟨tg, iter, ifs, 0⟩] scope pos) scope X.env (firstIterPos [⟨tg, iter, ifs, 0⟩] pos) (newList []) false (eval iter X.env) (some (assign (.Name y py) X.env))) _ _ s
  have h : tLc wi g tt te (own.map (·.2)) σ H (fun x H1 => gName i x σ H1 D.nx) := h
  refine wpAny_bind (thn (lc_coreE (Qf := fun _ s' => SP X pins D .next s') hxe hst hfr xF hc hN I hi ok hg ht he hs h fun L C s' m H' I' q hn f => ?_) fun _ s' hq => wpAny_pure (wpAny_pure hq))
  show wpAny _ _ (assign (.Name y py) X.env (.ref L)) _ _ _
  refine wpAny_assign_Name (store_ok2 (v := V.ref L) I' hN hy (.inl hyl) rfl (fun s2 I2 ⟨a, sb, ha⟩ => ?_) (.inr hyl))
  obtain ⟨f0, f1, f2, f3, f4, f5⟩ := f
  have haC : C ≠ a := by
    rcases ha with z | z
    · rw [z]; exact f1
    · exact fun e => f4 y a z e.symm
  refine ⟨m, hn.sameBut sb haC, fun h3 sb3 => ?_⟩
  exact ⟨_, H', I2.turned (t' := s2.toks) (fun b o hb e => (sb3.2 b hb).trans e) f0 f1 f3 f4 f5, q⟩
end L2

end
section
set_option maxHeartbeats 4000000
/-! texts: isdecimal, str(text); `in` of a dict of the module's own; list(d), texts as keys -/
namespace L2
open PySem PySem.Spec PyProof.Rows
section
variable {X : Cx} {o : Expr} {to : TE}
theorem mt_isdecimal : MtR X "str.isdecimal" (fun x xs H Q => ∃ a, x = .str a ∧ xs = [] ∧ True ∧ Q (.bl (Txt.isdecimal a)) H) :=
  mt0 (C := fun _ => True) (g := fun a => .bl (Txt.isdecimal a)) fun _ _ s _ _ h => PySem.SC.isdecimal (h _ s.toks rfl)
theorem pe_isdecimal {apos pos : Pos} (ho : PE X o to) (hbase : attributeBase o "isdecimal" X.env (eval o X.env) = eval o X.env := by rfl) (hline : (apos.endLine == pos.line) = true := by rfl) :
    PE X (.Call (.Attribute o "isdecimal" apos) [] [] pos) (tM0 (fun x xs H Q => ∃ a, x = .str a ∧ xs = [] ∧ True ∧ Q (.bl (Txt.isdecimal a)) H) to) :=
  pe_m0 F.slot_str_isdecimal F.type_str_isdecimal mt_isdecimal ho hbase hline
theorem call_str_str : CallR X (.type "str") (fun xs H Q => ∃ a, xs = [.str a] ∧ Q (.str a) H) := by
  intro pins s σ H xs us Q I r h
  obtain ⟨a, rfl, q⟩ := h
  obtain ⟨u, rfl, t, rfl⟩ := vals1 r
  exact PySem.P.str_of_str ⟨.str _, H, I, ⟨_, rfl⟩, q⟩
/-- str of a text or a small number -/
theorem call_strAny : CallR X (.type "str") (fun xs H Q => (∃ a, xs = [.str a] ∧ Q (.str a) H) ∨ ∃ i, xs = [.int i] ∧ i.natAbs.log2 < 1920 ∧ Q (.str (toString i)) H) := by
  intro pins s σ H xs us Q I r h
  rcases h with h | h
  · exact call_str_str pins s σ H xs us Q I r h
  · exact call_str_int pins s σ H xs us Q I r h
variable {a : Addr} {kvs : List (Key × V)}
theorem op_notInG (d : GDict X.prog X.w X.K a kvs) : OpR X (compareOp .NotIn) (fun x y H Q => y = .ref a ∧ ∃ k, x = kV k ∧ Q (.bl (!(valV kvs k).isSome)) H) := by
  intro pins s σ H x y v u Q I rx ry h
  obtain ⟨rfl, k, rfl, q⟩ := h
  cases ry
  obtain ⟨vs, rel, dd⟩ := d.ex _ I.kIn
  refine wpAny_notIn_of (kV_is rx) d.ns dd.mapOf ?_
  rw [← (rel.val k).isSome_eq]
  exact ⟨.bl _, H, I.tok _, rfl, q⟩
end
section
variable {prog : Program} {w : World}
theorem items_texts {kvs : List (Key × Value)} {ns : List Str} {acc : Array Value} (hi : ItemsOf (fun i v => ∃ k x, kvs[i]? = some (k, x) ∧ (mixKind prog w).is k v = true) acc kvs.length) (hk : kvs.map (·.1) = ns.map Sum.inr) : StrsAre acc.toList ns := by
  have hl : kvs.length = ns.length := by
    have := congrArg List.length hk
    simpa using this
  have h0 : acc.size = kvs.length := hi.1
  obtain ⟨xs⟩ := acc
  have hs : xs.length = ns.length := by simpa [hl] using h0
  have get : ∀ (i : Nat) (v : Value), xs[i]? = some v → ∃ n t, ns[i]? = some n ∧ v = .str n t := fun i v e => by
    obtain ⟨k, x, e1, e2⟩ := hi.2 i v (by simpa using e)
    have e3 : (kvs.map (·.1))[i]? = some k := by rw [List.getElem?_map, e1]; rfl
    rw [hk, List.getElem?_map] at e3
    cases hn : ns[i]? with
    | none => rw [hn] at e3; cases e3
    | some n =>
      rw [hn] at e3
      have e3 : some (Sum.inr n : Key) = some k := e3
      injection e3 with e3
      subst e3
      rcases keyIs_shape (show keyIs (Sum.inr n) v = true from e2) with ⟨j, t, q, _⟩ | ⟨j, t, q, rfl⟩
      · cases q
      · injection q with q
        subst q
        exact ⟨n, t, rfl, rfl⟩
  clear hi hk h0 hl
  show StrsAre xs ns
  induction xs generalizing ns with
  | nil =>
    cases ns with
    | nil => exact .nil
    | cons n ns => cases hs
  | cons v xs ih =>
    cases ns with
    | nil => cases hs
    | cons n ns =>
      obtain ⟨n', t, e1, e2⟩ := get 0 v rfl
      have e1 : some n = some n' := e1
      injection e1 with e1
      subst e1
      subst e2
      exact .cons n t (ih (by simpa using hs) fun i u e => get (i + 1) u (by simpa using e))
variable {X : Cx}
/-- list(d), texts as keys -/
theorem call_listDS (hc : X.calm = true) : CallR X (.type "list") (fun xs H Q => ∃ (a : Addr) (kvs : List (Key × V)) (ns : List Str), xs = [.ref a] ∧ Rd H a (.dK kvs) ∧ kvs.map (·.1) = ns.map Sum.inr ∧ ∀ p, H p = none → Q (.ref p) (upd H p (.lst (ns.map V.str)))) := by
  intro pins s σ H xs us Q I r q
  obtain ⟨a, kvs, ns, ex, e, hk, q⟩ := q
  subst ex
  obtain ⟨u, eu, rx⟩ := vals1 r
  subst eu
  cases rx
  obtain ⟨z, y, vs, kv, dd⟩ := dk_rd I.hok e
  refine call_listD (I.ok.hd hc) y dd (by rw [← Paired.length kv]; exact z) fun h' tk acc c k hL hi => ?_
  have hI := items_texts hi ((kv_keys kv).trans hk)
  have hlen : (ns.map V.str).length ≤ sizeLine := by
    have := congrArg List.length hk
    rw [List.length_map, List.length_map] at this
    rw [List.length_map, ← this]
    exact z
  exact ⟨.ref s.heap.objs.size, upd H s.heap.objs.size (.lst (ns.map V.str)), I.laid (t' := tk) k (Nat.le_refl _) ⟨hlen, acc.toList, c, vals_of_strs hI, by rw [hL]⟩, rfl, q _ (I.hok.fresh (Nat.le_refl _))⟩
end
/-! words of digits -/
def Asc (s : Str) : Prop := ∀ c ∈ s.cps.toList, 32 ≤ c ∧ c < 127
instance (s : Str) : Decidable (Asc s) := by unfold Asc; infer_instance
theorem dec_asc : ∀ c, c < 127 → Unicode.isDecimal c = decide (48 ≤ c ∧ c ≤ 57) := by decide +kernel
def numS (s : Str) : Bool := decide (1 ≤ s.length ∧ s.length ≤ 2) && s.cps.toList.all (fun c => decide (48 ≤ c ∧ c ≤ 57)) && (s.length == 1 || s.cps.toList.head? != some 48)
def numV (s : Str) : Int := (PySem.intText? s).getD 0
theorem num_one : ∀ c, c < 58 → 48 ≤ c → PySem.intText? ⟨#[c]⟩ = some ((c : Int) - 48) ∧ (toString ((c : Int) - 48) : Str) = ⟨#[c]⟩ := by decide +kernel
theorem num_two : ∀ a, a < 58 → 48 ≤ a → ∀ b, b < 58 → 48 ≤ b → PySem.intText? ⟨#[a, b]⟩ = some (((a : Int) - 48) * 10 + ((b : Int) - 48)) ∧ ((toString (((a : Int) - 48) * 10 + ((b : Int) - 48)) : Str) == ⟨#[a, b]⟩) = (a != 48) := by decide +kernel
theorem num_cases {s : Str} (h : Asc s) (hl : s.length ≤ 2) (hd : Txt.isdecimal s = true) : ∃ n : Int, PySem.intText? s = some n ∧ 0 ≤ n ∧ n ≤ 99 ∧ ((toString n : Str) == s) = numS s := by
  obtain ⟨⟨xs⟩⟩ := s
  have hl : xs.length ≤ 2 := hl
  unfold Txt.isdecimal at hd
  rw [Bool.and_eq_true] at hd
  have h2 : xs.all Unicode.isDecimal = true := by simpa using hd.2
  have dg : ∀ c ∈ xs, 48 ≤ c ∧ c ≤ 57 := fun c hc => by
    have q := List.all_eq_true.mp h2 c hc
    rw [dec_asc c (h c hc).2] at q
    exact of_decide_eq_true q
  match xs, hl, dg, hd.1 with
  | [], _, _, e => exact absurd e (by decide)
  | [a], _, dg, _ =>
    have da := dg a (by simp)
    obtain ⟨e1, e2⟩ := num_one a (by omega) da.1
    refine ⟨_, e1, by omega, by omega, ?_⟩
    rw [e2]
    have : numS ⟨⟨[a]⟩⟩ = true := by
      unfold numS
      simp [Str.length, da.1, da.2]
    rw [this]
    exact beq_self_eq_true _
  | [a, b], _, dg, _ =>
    have da := dg a (by simp)
    have db := dg b (by simp)
    obtain ⟨e1, e2⟩ := num_two a (by omega) da.1 b (by omega) db.1
    refine ⟨_, e1, by omega, by omega, ?_⟩
    rw [e2]
    unfold numS
    simp [Str.length, da.1, da.2, db.1, db.2]
    cases hq : (a != 48) <;> simp_all
theorem num_dec {s : Str} (h : Asc s) (q : numS s = true) : s.length ≤ 2 ∧ Txt.isdecimal s = true := by
  unfold numS at q
  rw [Bool.and_eq_true, Bool.and_eq_true] at q
  have q1 := of_decide_eq_true q.1.1
  refine ⟨q1.2, ?_⟩
  unfold Txt.isdecimal
  rw [Bool.and_eq_true]
  refine ⟨decide_eq_true (by omega), ?_⟩
  rw [Array.all_eq_true_iff_forall_mem]
  intro c hc
  have hc : c ∈ s.cps.toList := by simpa using hc
  have := List.all_eq_true.mp q.1.2 c hc
  rw [dec_asc c (h c hc).2]
  exact this
theorem num_eq {s : Str} (h : Asc s) (q : numS s = true) : PySem.intText? s = some (numV s) ∧ 0 ≤ numV s ∧ numV s ≤ 99 ∧ (toString (numV s) : Str) = s := by
  obtain ⟨a, b⟩ := num_dec h q
  obtain ⟨n, e, h0, h9, hs⟩ := num_cases h a b
  have : numV s = n := by unfold numV; rw [e]; rfl
  rw [this]
  rw [q] at hs
  exact ⟨e, h0, h9, eq_of_beq hs⟩
/-! signs of texts that are cut and joined -/
theorem asc_sub {s : Str} (h : Asc s) (i j : Nat) : Asc (PySem.Builtin.Str.strSub s i j) := fun c hc => by
  refine h c ?_
  have hc : c ∈ List.take (j - i) (List.drop i s.cps.toList) := by simpa [PySem.Builtin.Str.strSub] using hc
  exact List.mem_of_mem_drop (List.mem_of_mem_take hc)
theorem asc_parts {x : Str} (h : Asc x) (w : Nat) : ∀ (cuts : List Nat) (a : Nat), ∀ p ∈ StrLaws.partsFrom x w a cuts, Asc p
  | [], a => fun p hp => by
    have : p = PySem.Builtin.Str.strSub x a x.length := by simpa [StrLaws.partsFrom] using hp
    rw [this]; exact asc_sub h _ _
  | c :: cuts, a => fun p hp => by
    rcases List.mem_cons.mp (show p ∈ PySem.Builtin.Str.strSub x a c :: StrLaws.partsFrom x w (c + w) cuts from hp) with e | e
    · rw [e]; exact asc_sub h _ _
    · exact asc_parts h w cuts _ p e
theorem asc_split {x y : Str} (h : Asc x) : ∀ p ∈ Txt.split x y, Asc p := fun p hp => by
  unfold Txt.split at hp
  split at hp
  · rw [List.mem_singleton.mp hp]; exact h
  · split at hp
    · rw [List.mem_singleton.mp hp]; exact h
    · rw [StrLaws.partsBetween_eq] at hp
      exact asc_parts h _ _ _ p hp
theorem asc_add {x y : Str} (h : Asc x) (g : Asc y) : Asc (x ++ y) := fun c hc => by
  have hc : c ∈ (x.cps ++ y.cps).toList := hc
  rw [Array.toList_append] at hc
  rcases List.mem_append.mp hc with q | q
  · exact h c q
  · exact g c q
theorem split_ne (x y : Str) : ∃ p r, Txt.split x y = p :: r := by
  unfold Txt.split
  split
  · exact ⟨_, _, rfl⟩
  · split
    · exact ⟨_, _, rfl⟩
    · rw [StrLaws.partsBetween_eq]
      exact StrLaws.partsFrom_ne x _ 0 _
theorem asc_nat : ∀ n : Nat, n < 1000 → Asc (toString (n : Int) : Str) ∧ (toString (n : Int) : Str).length ≤ 3 := by decide +kernel
end L2

end
section
set_option maxHeartbeats 4000000
namespace Toy
open PySem L2
def top (i : Nat) : Stmt := PySem.Challenge.pw_upleaf_k51_deeds_written_and_read.main.body.getD i (.Pass ⟨0, 0, 0, 0⟩)
-- class CardError 1: []
-- class BadSize 2: []
abbrev s_BadStair_init : Stmt := inClass (top 3) 0
-- class BadStair 3: [(0, '__init__')]
-- class BadNumber 4: []
-- class NoColumn 5: []
-- class NoCell 6: []
-- class NoCorner 7: []
-- class NoEdge 8: []
-- class NotJoined 9: []
-- class NotSlit 10: []
-- class Unlike 11: []
-- class Wide 12: []
abbrev s_BadView_init : Stmt := inClass (top 13) 0
-- class BadView 13: [(0, '__init__')]
abbrev s_BadDrawing_init : Stmt := inClass (top 14) 0
-- class BadDrawing 14: [(0, '__init__')]
-- class NoPatch 15: []
-- class TooMany 16: []
-- class BadName 17: []
abbrev s_BadText_init : Stmt := inClass (top 18) 0
-- class BadText 18: [(0, '__init__')]
-- class RoomError 19: []
abbrev s_NoCard_init : Stmt := inClass (top 20) 0
-- class NoCard 20: [(0, '__init__')]
abbrev s_NoPlan_init : Stmt := inClass (top 21) 0
-- class NoPlan 21: [(0, '__init__')]
abbrev s_Taken_init : Stmt := inClass (top 22) 0
-- class Taken 22: [(0, '__init__')]
-- class SameCard 23: []
-- class Full 24: []
-- class NothingLeft 25: []
abbrev s_is_number : Stmt := top 28
abbrev s_read_number : Stmt := top 29
abbrev s_deed_line : Stmt := top 30
abbrev s_line_words : Stmt := top 31
abbrev s_read_handed : Stmt := top 32
abbrev s_read_deed : Stmt := top 33
abbrev s__law_begin : Stmt := top 35
abbrev s__law_take : Stmt := top 36
abbrev s__law_of : Stmt := top 37
abbrev s__law_same : Stmt := top 38
abbrev s__law_kind : Stmt := top 39
abbrev s__law_name_ok : Stmt := top 40
abbrev s__law_some_name : Stmt := top 41
abbrev s__law_forms : Stmt := top 42
abbrev s__law_thing : Stmt := top 43
abbrev s__law_read : Stmt := top 44
abbrev s__law_drawn_line : Stmt := top 45
abbrev s__law_bent_line : Stmt := top 46
abbrev s__law_asked : Stmt := top 47
abbrev s_law : Stmt := top 48
end Toy

end
section
set_option maxHeartbeats 4000000
namespace Toy
open PySem L2
section
variable {P : Program} {w : World} {K : PySem.W.Frag} {mg : Str → Option Value} {base : Heap}
theorem small_line' {n : Nat} (h : n ≤ 1000) : n ≤ sizeLine := Nat.le_of_lt (small1000 h)
abbrev vS (l : List Bool) : V := .str (stS l)

end
end Toy

end
section
set_option maxHeartbeats 4000000
namespace Toy
open PySem L2
section
variable {P : Program} {w : World} {K : PySem.W.Frag} {mg : Str → Option Value} {base : Heap}
theorem scTake : FnScope ["_law_draw", "_law_many", "_law_cell", "_law_digit", "_law_one"] ["_law_draw", "_law_many"] (defScope s__law_take) := ⟨rfl, rfl, rfl, by decide +kernel, rfl, by decide +kernel, by decide +kernel⟩
theorem scBegin : FnScope ["_law_script"] ["_law_script"] (defScope s__law_begin) := ⟨rfl, rfl, rfl, by decide +kernel, rfl, by decide +kernel, by decide +kernel⟩
theorem ok_begin {f : Addr} {fd : FuncData} (F : Fun K "_law_begin" "_law_begin" s__law_begin f fd) (T : Blt mg) : FnOk P w K mg base CX0 1 f fd ["_law_script"] (spBegin K) := by
  refine F.ok scBegin (fun vs H Q E h => ?_) (fun cdv A outer s H vs Q E hr h => ?_)
  · obtain ⟨a, ns, rfl, _⟩ := h
    rfl
  · obtain ⟨a, ns, rfl, hS, hn, k⟩ := h
    refine ⟨_, pss_one (ps_ret (pe_lst (pa_cons (pe_callTy call_list_of (by rfl) T.list boot_list (pa_cons (pe_slice sl_list (pv 0) po_none (po_some pe_int)) pa_nil)) (pa_cons pe_int (pa_cons pe_int (pa_cons pe_int pa_nil)))))), ?_⟩
    refine ⟨_, rfl, _, rfl, a, _, rfl, hS, fun q hq => ?_⟩
    refine ⟨q, _, rfl, .inl (SqL.of upd_same), fun l hl => ?_⟩
    refine ⟨(by show 4 ≤ sizeLine; decide), fun d hd => ?_⟩
    have nql : q ≠ l := ne_of_none upd_same hl
    have nld : l ≠ d := ne_of_none upd_same hd
    have hHl : H l = none := by rw [← hl, upd_ne nql.symm]
    have hHd : H d = none := by
      have z := hd
      rw [upd_ne nld.symm] at z
      by_cases e : d = q
      · subst e; exact hq
      · rw [upd_ne e] at z; exact z
    obtain ⟨ns', ens⟩ : ∃ ns' : List Int, cutV (ns.map V.int) none (some 63) = ns'.map V.int := ⟨_, by unfold cutV; rw [← List.map_drop, ← List.map_take]⟩
    refine k d _ ⟨l, ns', 0, 0, 41, upd_same, ?_, nld, by decide, by decide, by decide⟩ fun b o e => ?_
    · rw [upd_ne nld, upd_same, ens]
    · rw [upd_ne (ne_of_none e hHd), upd_ne (ne_of_none e hHl), upd_ne (ne_of_none e hq)]
      exact e

end
end Toy

end
section
set_option maxHeartbeats 4000000
namespace Toy
open PySem L2
section
variable {P : Program} {w : World} {K : PySem.W.Frag} {mg : Str → Option Value} {base : Heap}
/-! ### of, size, stair -/
def spOf (K : PySem.W.Frag) : Sp := fun vs H Q _ => ∃ (d s : Addr) (xs : List V), vs = [.ref d, .ref s] ∧ Draw H d ∧ SqL K H s xs ∧ s ≠ d ∧ 0 < xs.length ∧ xs.length < 1000 ∧ ∀ (x : V) (H' : Hp), x ∈ xs → Draw H' d → But d H H' → Q x H'
theorem scOf : FnScope ["_law_draw", "_law_some"] ["_law_draw", "_law_some"] (defScope s__law_of) := ⟨rfl, rfl, rfl, by decide +kernel, rfl, by decide +kernel, by decide +kernel⟩

end
end Toy

end
section
set_option maxHeartbeats 4000000
namespace Toy
open PySem L2
section
variable {P : Program} {w : World} {K : PySem.W.Frag} {mg : Str → Option Value} {base : Heap}
/-- the drawing list with its script at l -/
structure DrawL (H : Hp) (d l : Addr) : Prop where
  ex : ∃ (ns : List Int) (p c g : Int), H d = some (.lst [.ref l, .int p, .int c, .int g]) ∧ H l = some (.lst (ns.map V.int)) ∧ l ≠ d ∧ 0 ≤ p ∧ 0 ≤ g ∧ g < 2305843009213693951
theorem drawL_of {H : Hp} {d : Addr} (D : Draw H d) : ∃ l, DrawL H d l := by
  obtain ⟨l, ns, p, c, g, r⟩ := D.ex
  exact ⟨l, ns, p, c, g, r⟩
theorem DrawL.keep {H H' : Hp} {d l : Addr} (D : DrawL H d l) (s : Same H H') : DrawL H' d l := by
  obtain ⟨ns, p, c, g, a, b, r⟩ := D.ex
  exact ⟨ns, p, c, g, s _ _ a, s _ _ b, r⟩
theorem DrawL.put {H : Hp} {d l b : Addr} {o : HO} (D : DrawL H d l) (n1 : b ≠ d) (n2 : b ≠ l) : DrawL (upd H b o) d l := by
  obtain ⟨ns, p, c, g, e1, e2, r⟩ := D.ex
  exact ⟨ns, p, c, g, by rw [upd_ne n1.symm]; exact e1, by rw [upd_ne n2.symm]; exact e2, r⟩
theorem DrawL.ne {H : Hp} {d l b : Addr} (D : DrawL H d l) (h : H b = none) : b ≠ d ∧ b ≠ l := by
  obtain ⟨ns, p, c, g, e1, e2, r⟩ := D.ex
  exact ⟨(ne_of_none e1 h).symm, (ne_of_none e2 h).symm⟩
def spTakeL : Sp := fun vs H Q _ => ∃ (d l : Addr) (m : Int), vs = [.ref d, .int m] ∧ DrawL H d l ∧ 0 < m ∧ m.natAbs.log2 < 1000 ∧ ∀ (r : Int) (H' : Hp), 0 ≤ r → r < m → DrawL H' d l → But d H H' → Q (.int r) H'
theorem ok_takeL {f : Addr} {fd : FuncData} (F : Fun K "_law_take" "_law_take" s__law_take f fd) (T : Blt mg) : FnOk P w K mg base CX0 1 f fd ["_law_draw", "_law_many"] spTakeL := by
  refine F.ok scTake (fun vs H Q E h => ?_) (fun cdv A outer s H vs Q E hr h => ?_)
  · obtain ⟨d, l, m, rfl, _⟩ := h
    rfl
  · obtain ⟨d, l, m, rfl, Dr, hm, hml, k⟩ := h
    have nd := scTake.nd
    refine ⟨_, pss_cut (ps_if (PW.pt (pw_and (pt_cmpR op_lt (pe_ix ix_list (pv 0) pe_int (fun _ _ => rfl)) (pv 1) (nomark _)) (pw_and1 (pt_cmpR op_lt (pe_ix ix_list (pv 0) pe_int (fun _ _ => rfl)) (pe_callB call_len_seq (by rfl) T.len PySem.boot_len (pa_cons (pe_ix ix_list (pv 0) pe_int (fun _ _ => rfl)) pa_nil)) (nomark _)))))
        (pss_cons (ps_set (i := 2) nd rfl (Or.inl rfl) (pe_ix ix_list (pe_ix ix_list (pv 0) pe_int (fun _ _ => rfl)) (pe_ix ix_list (pv 0) pe_int (fun _ _ => rfl)) (fun _ _ => rfl)))
        (pss_cons (ps_asg (pe_op op_add (pe_ix ix_list (pv 0) pe_int (fun _ _ => rfl)) pe_int) (pg_sub (pv 0) pe_int set_list))
        (pss_cons (ps_asg pe_int (pg_sub (pv 0) pe_int set_list))
        (pss_cut (ps_if (pt_cmpR op_ge (pv 2) (pe_op op_pow pe_int pe_int) (nomark _)) (pss_one (ps_asg (pv 2) (pg_sub (pv 0) pe_int set_list))) pss_nil)
        (pss_one (ps_asg (pe_op op_mod (pe_op op_add (pe_op op_add (pe_op op_mul (pe_ix ix_list (pv 0) pe_int (fun _ _ => rfl)) pe_int) (pe_op op_mul (pv 2) pe_int)) (pe_ix ix_list (pv 0) pe_int (fun _ _ => rfl))) pe_int) (pg_sub (pv 0) pe_int set_list))))))) pss_nil)
      (pss_cons (ps_if (pt_cmpR op_ge (pe_ix ix_list (pv 0) pe_int (fun _ _ => rfl)) (pv 1) (nomark _))
        (pss_cons (ps_set (i := 3) nd rfl (Or.inl rfl) (pe_op op_mod (pe_ix ix_list (pv 0) pe_int (fun _ _ => rfl)) (pv 1)))
        (pss_cons (ps_asg (pe_op op_fdivL (pe_ix ix_list (pv 0) pe_int (fun _ _ => rfl)) (pv 1)) (pg_sub (pv 0) pe_int set_list))
        (pss_one (ps_ret (pv 3))))) pss_nil)
      (pss_cons (ps_set (i := 4) nd rfl (Or.inl rfl) (pe_op op_mod (pe_op op_mul (pe_ix ix_list (pv 0) pe_int (fun _ _ => rfl)) (pe_ix ix_list (pv 0) pe_int (fun _ _ => rfl))) pe_int))
      (pss_cons (ps_asg (pe_op op_mod (pe_op op_add (pe_op op_add (pe_op op_mul (pv 4) pe_int) (pe_op op_mul (pe_ix ix_list (pv 0) pe_int (fun _ _ => rfl)) pe_int)) pe_int) pe_int) (pg_sub (pv 0) pe_int set_list))
      (pss_one (ps_ret (pe_op op_mod (pe_op op_fdiv (pe_ix ix_list (pv 0) pe_int (fun _ _ => rfl)) pe_int) (pv 1))))))), ?_⟩
    obtain ⟨ns, p, c, g, hd, hl, ne, hp0, hg0, hg1⟩ := Dr.ex
    refine ⟨fun σ2 H2 => ∃ (v : Option V) (p c g : Int), σ2 = [some (.ref d), some (.int m), v, none, none] ∧ But d H H2 ∧ H2 d = some (.lst [.ref l, .int p, .int c, .int g]) ∧ 0 ≤ p ∧ 0 ≤ g ∧ g < 2305843009213693951, ?_, ?_⟩
    · refine ⟨_, rfl, d, _, 2, _, rfl, rfl, SqL.of hd, rfl, _, rfl, _, _, rfl, rfl, _, rfl, ?_⟩
      refine ite2 (fun _ => ?_) (fun _ => ?_)
      · refine ⟨_, rfl, d, _, 1, _, rfl, rfl, SqL.of hd, rfl, _, rfl, d, _, 0, _, rfl, rfl, SqL.of hd, rfl, l, _, rfl, .inl (SqL.of hl), _, _, rfl, rfl, _, rfl, ?_⟩
        refine ite2 (fun h2 => ?_) (fun _ => ?_)
        · have h2 := of_decide_eq_true h2
          rw [List.length_map] at h2
          have hlt : p.toNat < ns.length := by omega
          have hit : atI (ns.map V.int) p = some (V.int ns[p.toNat]) := at_of (j := p.toNat) (by omega) (by simp [hlt])
          refine ⟨_, rfl, d, _, 0, _, rfl, rfl, SqL.of hd, rfl, _, rfl, d, _, 1, _, rfl, rfl, SqL.of hd, rfl, l, _, p, _, rfl, rfl, SqL.of hl, hit, ?_⟩
          refine ⟨_, rfl, d, _, 1, _, rfl, rfl, SqL.of hd, rfl, _, _, rfl, rfl, _, rfl, d, _, 1, 1, rfl, rfl, hd, rfl, ?_⟩
          refine ⟨_, rfl, d, _, 2, 2, rfl, rfl, upd_same, rfl, ?_⟩
          refine ⟨fun σ2 H2 => ∃ (c : Int), σ2 = [some (.ref d), some (.int m), some (.int ns[p.toNat]), none, none] ∧ But d H H2 ∧ H2 d = some (.lst [.ref l, .int (p + 1), .int c, .int g]), ?_, ?_⟩
          · refine ⟨_, rfl, _, _, rfl, rfl, ⟨by decide, by decide, by decide⟩, _, _, rfl, rfl, _, rfl, ?_⟩
            refine ite2 (fun _ => ?_) (fun _ => ?_)
            · refine ⟨_, rfl, _, rfl, d, _, 2, 2, rfl, rfl, upd_same, rfl, ?_⟩
              exact ⟨ns[p.toNat], rfl, ((But.refl d H).put.put).put, upd_same⟩
            · exact ⟨0, rfl, (But.refl d H).put.put, upd_same⟩
          · rintro σ2 H2 ⟨c2, rfl, b2, e2⟩
            refine ⟨_, rfl, d, _, 3, _, rfl, rfl, SqL.of e2, rfl, _, _, rfl, rfl, .inl ⟨by omega, by omega⟩, _, rfl, _, _, rfl, rfl, .inr ⟨by decide, by decide⟩, _, _, rfl, rfl, _, rfl, d, _, 1, _, rfl, rfl, SqL.of e2, rfl, _, _, rfl, rfl, _, _, rfl, rfl, (by show (0 : Int) < 2305843009213693951; decide), ?_⟩
            refine ⟨_, rfl, d, _, 3, 3, rfl, rfl, e2, rfl, ?_⟩
            exact ⟨_, p + 1, c2, _, rfl, b2.put, upd_same, by omega, Int.emod_nonneg _ (by decide), Int.emod_lt_of_pos _ (by decide)⟩
        · exact ⟨none, p, c, g, rfl, But.refl d H, hd, hp0, hg0, hg1⟩
      · exact ⟨none, p, c, g, rfl, But.refl d H, hd, hp0, hg0, hg1⟩
    · rintro σ2 H2 ⟨v, p, c, g, rfl, b2, e2, hp0, hg0, hg1⟩
      have hl2 : H2 l = some (.lst (ns.map V.int)) := (b2 l ne).trans hl
      have hlU : ∀ {H3 : Hp} {o : HO}, H3 l = some (.lst (ns.map V.int)) → (upd H3 d o) l = some (.lst (ns.map V.int)) := fun h => by rw [upd_ne ne]; exact h
      refine ⟨_, rfl, d, _, 2, _, rfl, rfl, SqL.of e2, rfl, _, rfl, _, _, rfl, rfl, _, rfl, ?_⟩
      refine ite2 (fun _ => ?_) (fun _ => ?_)
      · refine ⟨_, rfl, d, _, 2, _, rfl, rfl, SqL.of e2, rfl, _, rfl, _, _, rfl, rfl, hm, ?_⟩
        refine ⟨_, rfl, d, _, 2, _, rfl, rfl, SqL.of e2, rfl, _, rfl, _, _, rfl, rfl, ⟨hm, hml⟩, _, rfl, d, _, 2, 2, rfl, rfl, e2, rfl, ?_⟩
        refine ⟨_, rfl, ?_⟩
        exact k _ _ (Int.emod_nonneg _ (by omega)) (Int.emod_lt_of_pos _ hm) ⟨ns, p, _, g, upd_same, hlU hl2, ne, hp0, hg0, hg1⟩ b2.put
      · refine ⟨_, rfl, d, _, 3, _, rfl, rfl, SqL.of e2, rfl, _, rfl, d, _, 3, _, rfl, rfl, SqL.of e2, rfl, _, _, rfl, rfl, .inl ⟨by omega, by omega⟩, _, _, rfl, rfl, (by show (0 : Int) < 2305843009213693951; decide), ?_⟩
        have m0 : 0 ≤ g * g % 2305843009213693951 := Int.emod_nonneg _ (by decide)
        have m1 : g * g % 2305843009213693951 < 2305843009213693951 := Int.emod_lt_of_pos _ (by decide)
        refine ⟨_, rfl, _, _, rfl, rfl, .inl ⟨by omega, by omega⟩, _, rfl, d, _, 3, _, rfl, rfl, SqL.of e2, rfl, _, _, rfl, rfl, .inl ⟨by omega, by omega⟩, _, _, rfl, rfl, _, _, rfl, rfl, _, _, rfl, rfl, (by show (0 : Int) < 2305843009213693951; decide), ?_⟩
        refine ⟨_, rfl, d, _, 3, 3, rfl, rfl, e2, rfl, ?_⟩
        refine ⟨_, rfl, d, _, 3, _, rfl, rfl, SqL.of upd_same, rfl, _, _, rfl, rfl, ⟨by decide, by decide⟩, _, rfl, _, _, rfl, rfl, hm, ?_⟩
        exact k _ _ (Int.emod_nonneg _ (by omega)) (Int.emod_lt_of_pos _ hm) ⟨ns, p, c, _, upd_same, hlU hl2, ne, hp0, Int.emod_nonneg _ (by decide), Int.emod_lt_of_pos _ (by decide)⟩ b2.put

end
end Toy

end
section
set_option maxHeartbeats 4000000
namespace Toy
open PySem L2
section
variable {P : Program} {w : World} {K : PySem.W.Frag} {mg : Str → Option Value} {base : Heap}
/-! ### BadText, numbers -/
/-- BadText at C under CardError at CE -/
structure BtAt (K : PySem.W.Frag) (mg : Str → Option Value) (C CE f : Addr) (fd : FuncData) (t0 : Tok) : Prop where
  fn : FunD K "__init__" "BadText.__init__" s_BadText_init f fd [.int 0 t0]
  mE : mg "CardError" = some (.ref CE)
  mB : mg "BadText" = some (.ref C)
  sp : PySem.W.specialIn K (.ref CE) "__getattribute__" = some (some (.builtin "type.__getattribute__"))
  rd : ∃ mc, PySem.W.readsIn K CE mc = true ∧ PySem.W.findCls K (.ref CE) mc "__init__" = some (.val (.builtin "ValueError.__init__"))
  cl : XCls K C CE
  tk : PySem.W.takerIn K C "row" = some none
  kp : PySem.W.keepIn K (.ref C) = true
  ini : PySem.W.findIn K (.ref C) "__init__" = some (some (.ref f))
  ty : PySem.W.typeIn K (.ref f) = some (.type "function")
  cB : clsIn K C [.ref CE, .type "ValueError", .type "Exception", .type "BaseException", .type "object"] = true
theorem scInit : FnScope ["self", "row"] ["self", "row"] (defScope s_BadText_init) := ⟨rfl, rfl, rfl, by decide +kernel, rfl, by decide +kernel, by decide +kernel⟩
def spInit (C : Addr) : Sp := fun vs H Q _ => ∃ (e : Addr), vs = [.ref e, .int 0] ∧ H e = some (XQ e C none) ∧ ∀ dx, H dx = none → Q .non (upd (upd H dx (.xd [("row", .int 0)])) e (XQ e C (some dx)))
theorem handed_vi : PySem.W.handedIn (.builtin "ValueError.__init__") = true := by decide +kernel
theorem ok_init {C CE f : Addr} {fd : FuncData} {t0 : Tok} (Z : BtAt K mg C CE f fd t0) : FnOk P w K mg base CX0 1 f fd ["self", "row"] (spInit C) := by
  obtain ⟨mc, hr1, hr2⟩ := Z.rd
  refine FunD.ok0 Z.fn scInit (fun vs H Q E h => ?_) (fun cdv A outer s H vs Q E hr h => ?_)
  · obtain ⟨e, rfl, _⟩ := h
    rfl
  · obtain ⟨e, rfl, hE, k⟩ := h
    refine ⟨_, pss_cons (ps_expr (pe_xinit (by rfl) Z.mE Z.sp hr1 hr2 handed_vi PySem.F.excBase_ValueError (pa_cons (pv 0) (pa_cons (pe_fstr (pj_cons pe_str (pj_cons (pe_fmt (pv 1)) (pj_cons pe_str pj_nil)))) pa_nil))))
      (pss_one (ps_xset (CE := CE) (pv 0) (pv 1) rfl)), ?_⟩
    refine ⟨_, rfl, ?_⟩
    refine ⟨_, rfl, (by decide +kernel), _, rfl, .inl ⟨_, rfl, (by decide +kernel), _, rfl, (by decide +kernel), _, rfl, (by decide +kernel), (by decide +kernel), e, C, none, _, rfl, hE, Z.cl.ini, (by show 1 ≤ 1000; decide), ?_⟩⟩
    exact ⟨_, rfl, _, rfl, e, C, rfl, hE, Z.cl, Z.tk, fun dx hdx => k dx hdx⟩
theorem bInit {C CE f : Addr} {fd : FuncData} {t0 : Tok} (Z : BtAt K mg C CE f fd t0) : Binds K fd ["self", "row"] [.int 0 t0] :=
  Z.fn.binds fun kV doc pm an cdv ct T us hl => match us, hl with
    | [_], _ => ⟨_, rfl, rfl⟩
    | [], hl => absurd hl (by simp)
    | _ :: _ :: _, hl => absurd hl (by simp)
/-- refused -/
def BadT (C : Addr) (H : Hp) (E : XK) : Prop := ∀ (dx : Addr) (H' : Hp), H' dx = some (.xd [("row", .int 0)]) → Same H H' → E (.ref C) (some dx) H'
theorem BadT.keep {C : Addr} {H H' : Hp} {E : XK} (b : BadT C H E) (s : Same H H') : BadT C H' E := fun dx H2 e s2 => b dx H2 e (s.trans s2)
theorem BadT.out {C : Addr} {H : Hp} {E : XK} (b : BadT C H E) : (0 ≤ sizeLine) ∧ ∀ e, H e = none → spInit C [.ref e, .int 0] (upd H e (XQ e C none)) (fun v H6 => v = .non ∧ ∃ dx, H6 e = some (XQ e C (some dx)) ∧ E (.ref C) (some dx) (drp H6 e)) E0 := by
  refine ⟨by decide, fun e he => ⟨e, rfl, upd_same, fun dx hdx => ⟨rfl, dx, upd_same, b dx _ ?_ ?_⟩⟩⟩
  · have n1 : dx ≠ e := fun q => by rw [q, upd_same] at hdx; cases hdx
    rw [drp_ne n1, upd_ne n1, upd_same]
  · intro b o e1
    have n1 : b ≠ e := ne_of_none e1 he
    have n2 : b ≠ dx := fun q => by
      rw [q] at e1
      rw [upd_ne (fun z => by rw [z, he] at e1; cases e1)] at hdx
      rw [hdx] at e1
      cases e1
    rw [drp_ne n1, upd_ne n1, upd_ne n2, upd_ne n1]
    exact e1
abbrev nmIn : List Str := ["word"]
theorem scIn : FnScope nmIn ["word"] (defScope s_is_number) := ⟨rfl, rfl, rfl, by decide +kernel, rfl, by decide +kernel, by decide +kernel⟩
def spIn : Sp := fun vs H Q _ => ∃ z : Str, vs = [.str z] ∧ Asc z ∧ z.length ≤ 1000 ∧ Q (.bl (numS z)) H
theorem str_eqV (a b : Str) : decide (V.str a = V.str b) = (a == b) := by
  by_cases h : a = b
  · subst h; simp
  · rw [decide_eq_false (fun z => h (V.str.inj z)), beq_eq_false_iff_ne.mpr h]
theorem ok_in {f : Addr} {fd : FuncData} (F : Fun K "is_number" "is_number" s_is_number f fd) (T : Blt mg) : FnOk P w K mg base CX0 1 f fd ["word"] spIn := by
  refine F.ok scIn (fun vs H Q E h => ?_) (fun cdv A outer s H vs Q E hr h => ?_)
  · obtain ⟨z, rfl, _⟩ := h
    rfl
  · obtain ⟨z, rfl, hz, hl, k⟩ := h
    refine ⟨_, (pss_one (ps_ret (pe_and (pe_cmpR op_le (pe_callB call_len_str (by rfl) T.len PySem.boot_len (pa_cons (pv 0) pa_nil)) pe_int (nomark _)) (pe_and (pe_isdecimal (pv 0)) (pe_one (pe_cmpR op_eq (pe_callTy call_str_int (by rfl) T.str boot_str (pa_cons (pe_callTy call_int_str (by rfl) T.int boot_int (pa_cons (pv 0) pa_nil)) pa_nil)) (pv 0) (nomark _))))))), ?_⟩
    refine ⟨_, rfl, _, rfl, Nat.le_trans hl (by decide), _, _, rfl, rfl, ?_⟩
    refine ⟨decide (((z.length : Nat) : Int) ≤ 2), rfl, ?_⟩
    by_cases h2 : z.length ≤ 2
    · rw [show decide (((z.length : Nat) : Int) ≤ 2) = true from decide_eq_true (by omega)]
      refine iteT ⟨_, rfl, ⟨z, rfl⟩, z, rfl, rfl, trivial, _, rfl, ?_⟩
      cases hd : Txt.isdecimal z with
      | false =>
        have : numS z = false := by
          cases q : numS z with
          | false => rfl
          | true => rw [(num_dec hz q).2] at hd; cases hd
        rw [this] at k
        exact iteF k
      | true =>
        obtain ⟨n, en, n0, n9, e⟩ := num_cases hz h2 hd
        refine iteT ⟨_, rfl, z, n, rfl, en, by omega, n, rfl, ?_, _, rfl, rfl, ?_⟩
        · obtain ⟨m, rfl⟩ := Int.eq_ofNat_of_zero_le n0
          exact Nat.lt_trans (log_small (by omega)) (by decide)
        · show Q (.bl (decide (V.str (toString n) = V.str z))) H
          rw [str_eqV, e]
          exact k
    · rw [show decide (((z.length : Nat) : Int) ≤ 2) = false from decide_eq_false (by omega)]
      have : numS z = false := by
        cases q : numS z with
        | false => rfl
        | true => exact absurd (num_dec hz q).1 h2
      rw [this] at k
      exact iteF k
abbrev nmRn : List Str := ["word"]
theorem scRn : FnScope nmRn ["word"] (defScope s_read_number) := ⟨rfl, rfl, rfl, by decide +kernel, rfl, by decide +kernel, by decide +kernel⟩
def spRn (C : Addr) : Sp := fun vs H Q E => ∃ z : Str, vs = [.str z] ∧ Asc z ∧ z.length ≤ 1000 ∧ (numS z = true → Q (.int (numV z)) H) ∧ (numS z = false → BadT C H E)
theorem ok_rn {f C CE fB : Addr} {fd fdB : FuncData} {t0 : Tok} (F : Fun K "read_number" "read_number" s_read_number f fd) (gIn : Ok P w K mg base 1 "is_number" ["word"] spIn) (Z : BtAt K mg C CE fB fdB t0) (T : Blt mg) : FnOk P w K mg base (CX1 P w) 3 f fd ["word"] (spRn C) := by
  have GB : FnOk P w K mg base CX0 1 fB fdB ["self", "row"] (spInit C) := ok_init Z
  refine F.okX scRn (fun vs H Q E h => ?_) (fun cdv A outer s H vs Q E hr hx h => ?_)
  · obtain ⟨z, rfl, _⟩ := h
    rfl
  · obtain ⟨z, rfl, hz, hl, kT, kF⟩ := h
    refine ⟨_, (pss_cons (ps_if (pt_not (pt_val (pe_ok gIn hr (by rfl) (pa_cons (pv 0) pa_nil)))) (pss_one (ps_raiseI0 (dvs := [.int 0]) hx hr.hd (by rfl) Z.mB Z.kp Z.cl Z.ini Z.ty PySem.F.excBase_ValueError GB hr (bInit Z) (.cons ⟨t0, rfl⟩ .nil) Z.cB (by simp))) pss_nil)
      (pss_one (ps_ret (pe_callTy call_int_str (by rfl) T.int boot_int (pa_cons (pv 0) pa_nil))))), ?_⟩
    refine ⟨_, rfl, z, rfl, hz, hl, ?_⟩
    cases hn : numS z with
    | true =>
      obtain ⟨e1, e2, e3, e4⟩ := num_eq hz hn
      have l2 := (num_dec hz hn).1
      exact ⟨_, rfl, iteF ⟨_, rfl, z, _, rfl, e1, by omega, kT hn⟩⟩
    | false => exact ⟨_, rfl, iteT (kF hn).out⟩

end
end Toy

end
section
set_option maxHeartbeats 4000000
namespace Toy
open PySem L2
section
variable {P : Program} {w : World} {K : PySem.W.Frag} {mg : Str → Option Value} {base : Heap}
/-! ### a line as words -/
theorem cutD1 (xs : List V) : cutV xs (some 1) none = xs.drop 1 := by
  unfold cutV
  rw [HT.sIx_none, show (1 : Int) = ((1 : Nat) : Int) from rfl, HT.sIx_nat]
  cases xs with
  | nil => rfl
  | cons x xs =>
    rw [List.length_cons, Nat.min_eq_left (by omega)]
    exact List.take_of_length_le (by rw [List.length_drop, List.length_cons]; exact Nat.le_refl _)
theorem inV_str (a : Str) (ws : List Str) : inV (.str a) (ws.map V.str) = decide (a ∈ ws) := by
  unfold inV
  induction ws with
  | nil => rfl
  | cons x ws ih =>
    rw [List.map_cons, List.any_cons, ih, Bool.eq_iff_iff]
    show ((x == a) || decide (a ∈ ws)) = true ↔ _
    rw [Bool.or_eq_true, decide_eq_true_iff, decide_eq_true_iff, List.mem_cons, beq_iff_eq]
    exact ⟨fun h => h.imp Eq.symm id, fun h => h.imp Eq.symm id⟩
theorem flat_strs (ws : List Str) : (ws.map V.str).all flatV = true := by
  rw [List.all_map]
  exact List.all_eq_true.mpr fun _ _ => rfl
def shA : List (Str × Str) := [("cut", "a111"), ("push", "a11"), ("slit", "a11"), ("glue", "a1-"), ("mirror", "a"), ("turn", "a"), ("beside", "aa"), ("part", "a1a"), ("burn", "a"), ("keep", "aa"), ("drop", "a")]
def shG : List (Key × V) := shA.map fun e => (.inr e.1, .str e.2)
def thingV (c : Nat) (z : Str) : Option V := if z = "" then none else if c = 97 then some (.str z) else if c = 45 ∧ z = "-" then some .non else if numS z = true then some (.int (numV z)) else none
def thingsV : List Nat → List Str → Option (List V)
  | [], [] => some []
  | c :: cs, z :: zs => match thingV c z with
    | none => none
    | some v => (thingsV cs zs).map (v :: ·)
  | _, _ => none
def readW : List Str → Option (List V)
  | [] => none
  | n :: rest => (shA.lookup n).bind fun sh => (thingsV sh.cps.toList rest).map (V.str n :: ·)
def readL (line : Str) : Option (List V) := readW (Txt.split line " ")
theorem things_len : ∀ {cs : List Nat} {zs : List Str} {vs : List V}, thingsV cs zs = some vs → cs.length = zs.length ∧ vs.length = cs.length
  | [], [], vs, e => by
    have : some [] = some vs := e
    injection this with this
    subst this
    exact ⟨rfl, rfl⟩
  | c :: cs, z :: zs, vs, e => by
    unfold thingsV at e
    cases ht : thingV c z with
    | none => rw [ht] at e; cases e
    | some v =>
      rw [ht] at e
      have e : (thingsV cs zs).map (v :: ·) = some vs := e
      obtain ⟨r, h1, h2⟩ := Option.map_eq_some_iff.mp e
      obtain ⟨a, b⟩ := things_len h1
      subst h2
      exact ⟨by simp [a], by simp [b]⟩
  | [], _ :: _, vs, e => by cases (show none = some vs from e)
  | _ :: _, [], vs, e => by cases (show none = some vs from e)
theorem things_at : ∀ {cs : List Nat} {zs : List Str} {vs : List V}, thingsV cs zs = some vs → ∀ (i : Nat) (c : Nat) (z : Str), cs[i]? = some c → zs[i]? = some z → ∃ v, vs[i]? = some v ∧ thingV c z = some v
  | [], [], vs, e, i, c, z, h1, _ => by simp at h1
  | c0 :: cs, z0 :: zs, vs, e, i, c, z, h1, h2 => by
    unfold thingsV at e
    cases ht : thingV c0 z0 with
    | none => rw [ht] at e; cases e
    | some v =>
      rw [ht] at e
      have e : (thingsV cs zs).map (v :: ·) = some vs := e
      obtain ⟨r, g1, g2⟩ := Option.map_eq_some_iff.mp e
      subst g2
      cases i with
      | zero =>
        have h1 : some c0 = some c := h1
        have h2 : some z0 = some z := h2
        injection h1 with h1
        injection h2 with h2
        subst h1 h2
        exact ⟨v, rfl, ht⟩
      | succ i => exact things_at g1 i c z h1 h2
  | [], _ :: _, vs, e, _, _, _, _, _ => by cases (show none = some vs from e)
  | _ :: _, [], vs, e, _, _, _, _, _ => by cases (show none = some vs from e)
theorem thing_empty (c : Nat) : thingV c "" = none := by unfold thingV; rw [if_pos rfl]
theorem read_empty {ws : List Str} (h : ("" : Str) ∈ ws) : readW ws = none := by
  cases ws with
  | nil => rfl
  | cons n rest =>
    show (shA.lookup n).bind _ = none
    cases hs : shA.lookup n with
    | none => rfl
    | some sh =>
      show (thingsV sh.cps.toList rest).map _ = none
      rcases List.mem_cons.mp h with e | e
      · subst e
        rw [show shA.lookup ("" : Str) = none from by decide +kernel] at hs
        cases hs
      · cases ht : thingsV sh.cps.toList rest with
        | none => rfl
        | some vs =>
          obtain ⟨i, hi⟩ := List.mem_iff_getElem?.mp e
          have hl := (things_len ht).1
          have hlt := (List.getElem?_eq_some_iff.mp hi).1
          obtain ⟨v, _, q⟩ := things_at ht i _ "" (List.getElem?_eq_getElem (by omega)) hi
          rw [thing_empty] at q
          cases q
abbrev nmLw : List Str := ["line", "words"]
theorem scLw : FnScope nmLw ["line"] (defScope s_line_words) := ⟨rfl, rfl, rfl, by decide +kernel, rfl, by decide +kernel, by decide +kernel⟩
def wordsOf (line : Str) : List Str := if ("" : Str) ∈ Txt.split line " " then [] else Txt.split line " "
def spLw : Sp := fun vs H Q _ => ∃ line : Str, vs = [.str line] ∧ Asc line ∧ line.length ≤ 1000 ∧ ∀ (p : Addr) (H' : Hp), Same H H' → H' p = some (.lst ((wordsOf line).map V.str)) → Q (.ref p) H'
theorem split_len (line : Str) : (Txt.split line " ").length ≤ line.length + 1 := by
  have := PyProof.Rows.split_weight line " " (by decide)
  omega
theorem ok_lw {f : Addr} {fd : FuncData} (F : Fun K "line_words" "line_words" s_line_words f fd) (T : Blt mg) : FnOk P w K mg base CX0 1 f fd ["line"] spLw := by
  refine F.ok scLw (fun vs H Q E h => ?_) (fun cdv A outer s H vs Q E hr h => ?_)
  · obtain ⟨z, rfl, _⟩ := h
    rfl
  · obtain ⟨z, rfl, hz, hl, k⟩ := h
    have nd := scLw.nd
    refine ⟨_, (pss_cons (ps_set (i := 1) nd rfl (Or.inl rfl) (pe_split (pv 0) pe_str))
      (pss_one (ps_ret (pe_ifExp (PW.pt (pw_or (pt_cmpR op_in_seq pe_str (pv 1) (by rfl)) (pw_or1 (pt_cmpR op_in_sign pe_str (pv 0) (by rfl))))) (pe_lst pa_nil) (pv 1))))), ?_⟩
    refine ⟨_, rfl, ⟨z, rfl⟩, z, " ", rfl, rfl, by decide, Nat.le_trans (by omega : z.length + 2 ≤ 1002) (by decide), fun p hp => ?_⟩
    have s1 : Same H (upd H p (.lst ((Txt.split z " ").map V.str))) := (Same.refl H).new' hp
    have op : (upd H p (.lst ((Txt.split z " ").map V.str))) p = some (.lst ((Txt.split z " ").map V.str)) := upd_same
    generalize upd H p (.lst ((Txt.split z " ").map V.str)) = H1 at s1 op
    refine ⟨_, rfl, p, _, rfl, .inl (SqL.of op), rfl, flat_strs _, _, rfl, ?_⟩
    rw [if_neg (by decide : ¬ (false = true)), inV_str]
    unfold wordsOf at k
    by_cases he : ("" : Str) ∈ Txt.split z " "
    · rw [if_pos he] at k
      rw [show decide (("" : Str) ∈ Txt.split z " ") = true from decide_eq_true he]
      refine iteT (iteT ⟨Nat.zero_le _, fun q hq => k q _ (s1.new' hq) upd_same⟩)
    · rw [if_neg he] at k
      rw [show decide (("" : Str) ∈ Txt.split z " ") = false from decide_eq_false he]
      refine iteF ⟨_, rfl, 10, z, rfl, rfl, _, rfl, ?_⟩
      rw [show decide ((10 : Nat) ∈ z.cps.toList) = false from decide_eq_false fun m => absurd (hz 10 m).1 (by decide)]
      exact iteF ⟨_, rfl, k p H1 s1 op⟩
abbrev nmRh : List Str := ["word", "shape"]
theorem scRh : FnScope nmRh ["word", "shape"] (defScope s_read_handed) := ⟨rfl, rfl, rfl, by decide +kernel, rfl, by decide +kernel, by decide +kernel⟩
def spRh (C : Addr) : Sp := fun vs H Q E => ∃ (z : Str) (c : Nat), vs = [.str z, .str ⟨#[c]⟩] ∧ z ≠ "" ∧ Asc z ∧ z.length ≤ 1000 ∧ (∀ v, thingV c z = some v → Q v H) ∧ (thingV c z = none → BadT C H E)
theorem sign_eqV (c d : Nat) : decide (V.str ⟨#[c]⟩ = V.str ⟨#[d]⟩) = decide (c = d) := by
  by_cases h : c = d
  · subst h; simp
  · rw [decide_eq_false h, decide_eq_false]
    intro z
    injection z with z
    injection z with z
    exact h (by simpa using z)
theorem ok_rh {f C : Addr} {fd : FuncData} (F : Fun K "read_handed" "read_handed" s_read_handed f fd) (gRn : OkC (CX1 P w) P w K mg base 3 "read_number" ["word"] [] (spRn C)) (T : Blt mg) : FnOk P w K mg base (CX1 P w) 4 f fd ["word", "shape"] (spRh C) := by
  refine F.okX scRh (fun vs H Q E h => ?_) (fun cdv A outer s H vs Q E hr hx h => ?_)
  · obtain ⟨z, c, rfl, _⟩ := h
    rfl
  · obtain ⟨z, c, rfl, hne, hz, hl, kT, kF⟩ := h
    unfold thingV at kT kF
    rw [if_neg hne] at kT kF
    refine ⟨_, (pss_cons (ps_if (pt_cmpR op_eq (pv 1) pe_str (nomark _)) (pss_one (ps_ret (pv 0))) pss_nil)
      (pss_cons (ps_if (PW.pt (pw_and (pt_cmpR op_eq (pv 1) pe_str (nomark _)) (pw_and1 (pt_cmpR op_eq (pv 0) pe_str (nomark _))))) (pss_one (ps_ret pe_non)) pss_nil)
      (pss_one (ps_ret (pe_okC gRn hr (by rfl) (passes1 hx) (pa_cons (pv 0) pa_nil)))))), ?_⟩
    refine ⟨_, rfl, rfl, _, rfl, ?_⟩
    rw [show decide (V.str ⟨#[c]⟩ = V.str "a") = decide (c = 97) from sign_eqV c 97]
    by_cases ha : c = 97
    · rw [if_pos ha] at kT
      rw [decide_eq_true ha]
      exact iteT ⟨_, rfl, kT _ rfl⟩
    · rw [if_neg ha] at kT kF
      rw [decide_eq_false ha]
      refine iteF ⟨_, rfl, rfl, _, rfl, ?_⟩
      have last : ∀ H', (numS z = true → Q (.int (numV z)) H') → (numS z = false → BadT C H' E) → spRn C [.str z] H' Q E := fun H' a b => ⟨z, rfl, hz, hl, a, b⟩
      rw [show decide (V.str ⟨#[c]⟩ = V.str "-") = decide (c = 45) from sign_eqV c 45]
      by_cases hm : c = 45
      · rw [decide_eq_true hm]
        refine iteT ⟨_, rfl, rfl, _, rfl, ?_⟩
        by_cases hd : z = "-"
        · rw [if_pos ⟨hm, hd⟩] at kT
          rw [decide_eq_true (by rw [hd])]
          exact iteT (kT _ rfl)
        · rw [if_neg (fun q => hd q.2)] at kT kF
          rw [decide_eq_false (fun q => hd (V.str.inj q))]
          refine iteF ⟨_, rfl, last _ (fun h => ?_) fun h => ?_⟩
          · rw [if_pos h] at kT; exact kT _ rfl
          · rw [if_neg (by rw [h]; decide)] at kF; exact kF rfl
      · rw [decide_eq_false hm]
        rw [if_neg (fun q => hm q.1)] at kT kF
        refine iteF (iteF ⟨_, rfl, last _ (fun h => ?_) fun h => ?_⟩)
        · rw [if_pos h] at kT; exact kT _ rfl
        · rw [if_neg (by rw [h]; decide)] at kF; exact kF rfl

end
end Toy

end
section
set_option maxHeartbeats 4000000
namespace Toy
open PySem L2
section
variable {P : Program} {w : World} {K : PySem.W.Frag} {mg : Str → Option Value} {base : Heap}
/-! ### a deed that is read -/
theorem valV_map (n : Str) : ∀ l : List (Str × Str), valV (l.map fun e => ((.inr e.1 : Key), V.str e.2)) (.inr n) = (l.lookup n).map V.str
  | [] => rfl
  | (a, b) :: l => by
    rw [List.map_cons, List.lookup_cons]
    have ih := valV_map n l
    unfold valV at ih ⊢
    rw [List.find?_cons]
    cases hq : n == a with
    | true => rw [show decide ((Sum.inr a : Key) = .inr n) = true from decide_eq_true (by rw [eq_of_beq hq])]; rfl
    | false => rw [show decide ((Sum.inr a : Key) = .inr n) = false from decide_eq_false (fun z => by injection z with z; exact absurd z.symm (ne_of_beq_false hq))]; exact ih
theorem things_of : ∀ {cs : List Nat} {zs : List Str} {us : List V}, cs.length = zs.length → us.length = zs.length → (∀ (j c : Nat) (z : Str), cs[j]? = some c → zs[j]? = some z → ∃ v, us[j]? = some v ∧ thingV c z = some v) → thingsV cs zs = some us
  | [], [], [], _, _, _ => rfl
  | c :: cs, z :: zs, u :: us, h1, h2, h => by
    obtain ⟨v, e1, e2⟩ := h 0 c z rfl rfl
    have e1 : some u = some v := e1
    injection e1 with e1
    subst e1
    unfold thingsV
    rw [e2]
    show (thingsV cs zs).map (u :: ·) = _
    rw [things_of (by simpa using h1) (by simpa using h2) fun j c z a b => h (j + 1) c z a b]
    rfl
  | [], _ :: _, _, h1, _, _ => by simp at h1
  | _ :: _, [], _, h1, _, _ => by simp at h1
  | _, [], _ :: _, _, h2, _ => by simp at h2
  | _, _ :: _, [], _, h2, _ => by simp at h2
abbrev nmRd : List Str := ["line", "words", "shapes", "handed", "word", "shape"]
theorem scRd : FnScope nmRd ["line"] (defScope s_read_deed) := ⟨rfl, rfl, rfl, by decide +kernel, rfl, by decide +kernel, by decide +kernel⟩
def spRd (C : Addr) : Sp := fun vs H Q E => ∃ line : Str, vs = [.str line] ∧ Asc line ∧ line.length ≤ 1000 ∧ (∀ us, readL line = some us → ∀ (p : Addr) (H' : Hp), Same H H' → H' p = some (.tup us) → Q (.ref p) H') ∧ (readL line = none → BadT C H E)
theorem sh_len : ∀ e ∈ shA, e.2.length ≤ 4 ∧ e.2.cps.toList.length = e.2.length := by decide +kernel
theorem lookup_mem {n sh : Str} : ∀ {l : List (Str × Str)}, l.lookup n = some sh → (n, sh) ∈ l
  | [], h => by cases h
  | (a, b) :: l, h => by
    rw [List.lookup_cons] at h
    cases hq : n == a with
    | true =>
      rw [hq] at h
      injection h with h
      subst h
      rw [eq_of_beq hq]
      exact List.mem_cons_self
    | false =>
      rw [hq] at h
      exact List.mem_cons_of_mem _ (lookup_mem h)
theorem ok_rd {f aD C CE fB : Addr} {fd fdB : FuncData} {t0 : Tok} (F : Fun K "read_deed" "read_deed" s_read_deed f fd) (gLw : Ok P w K mg base 1 "line_words" ["line"] spLw) (gRh : OkC (CX1 P w) P w K mg base 4 "read_handed" ["word", "shape"] [] (spRh C)) (gD : GDict P w K aD shG) (mD : mg "SHAPES" = some (.ref aD)) (Z : BtAt K mg C CE fB fdB t0) (T : Blt mg) : FnOk P w K mg base (CX1 P w) 5 f fd ["line"] (spRd C) := by
  have GB : FnOk P w K mg base CX0 3 fB fdB ["self", "row"] (spInit C) := (ok_init Z).mono (by decide)
  refine F.okX scRd (fun vs H Q E h => ?_) (fun cdv A outer s H vs Q E hr hx h => ?_)
  · obtain ⟨z, rfl, _⟩ := h
    rfl
  · obtain ⟨z, rfl, hz, hl, kT, kF⟩ := h
    have nd := scRd.nd
    refine ⟨_, (pss_cons (ps_set (i := 1) nd rfl (Or.inl rfl) (pe_ok gLw hr (by rfl) (pa_cons (pv 0) pa_nil)))
      (pss_cons (ps_if (PW.pt (pw_or (pt_not (pt_truth (pv 1) (fun _ => rfl))) (pw_or1 (pt_cmpR (op_notInG gD) (pe_ix ix_list (pv 1) pe_int (fun _ _ => rfl)) (pe_glob (v := .ref aD) (by rfl) mD rfl) (by rfl))))) (pss_one (ps_raiseI0 (dvs := [.int 0]) hx hr.hd (by rfl) Z.mB Z.kp Z.cl Z.ini Z.ty PySem.F.excBase_ValueError GB hr (bInit Z) (.cons ⟨t0, rfl⟩ .nil) Z.cB (by simp))) pss_nil)
      (pss_cons (ps_set (i := 2) nd rfl (Or.inl rfl) (pe_gget gD (pe_glob (v := .ref aD) (by rfl) mD rfl) (pe_ix ix_list (pv 1) pe_int (fun _ _ => rfl)) (fun _ _ => rfl)))
      (pss_cons (ps_if (pt_cmpR op_ne (pe_callB call_len_seq (by rfl) T.len PySem.boot_len (pa_cons (pv 1) pa_nil)) (pe_op op_add (pe_callB call_len_str (by rfl) T.len PySem.boot_len (pa_cons (pv 2) pa_nil)) pe_int) (nomark _)) (pss_one (ps_raiseI0 (dvs := [.int 0]) hx hr.hd (by rfl) Z.mB Z.kp Z.cl Z.ini Z.ty PySem.F.excBase_ValueError GB hr (bInit Z) (.cons ⟨t0, rfl⟩ .nil) Z.cB (by simp))) pss_nil)
      (pss_cons (ps_setLcE (i := 3) (te := tCall (spRh C) [] E (tCons (tVar 4) (tCons (tVar 5) tNil))) (own := [("word", 4), ("shape", 5)]) (g := (gTup K 2 (gCons (gName 4) (gCons (gName 5) gNil)))) rfl rfl rfl xokF_def (by rfl) nd rfl rfl (sw_true rfl rfl rfl (by decide +kernel)) (pi_zipn (by rfl) T.zip (pa_cons (pe_slice sl_list (pv 1) (po_some pe_int) po_none) (pa_cons (pv 2) pa_nil))) (blkOk_by (own := [("word", 4), ("shape", 5)]) (N := nmRd) (sc := defScope s_read_deed) (by decide +kernel)) (fun _ _ _ _ _ => (pg_tup (by rfl) (pgs_cons (pg_name (i := 4) nd rfl (Or.inl rfl)) (pgs_cons (pg_name (i := 5) nd rfl (Or.inl rfl)) pgs_nil)))) (fun _ _ _ _ _ => pts_nil) (fun _ _ _ _ _ => (pe_okC gRh hr (by rfl) passB (pa_cons (pv 4) (pa_cons (pv 5) pa_nil)))))
      (pss_one (ps_ret (pe_tup (pa_cons (pe_ix ix_list (pv 1) pe_int (fun _ _ => rfl)) (pa_star (pv 3) pa_nil)))))))))), ?_⟩
    refine ⟨_, rfl, z, rfl, hz, hl, fun p H1 s1 op => ?_⟩
    have kF1 : ∀ H', Same H H' → readL z = none → BadT C H' E := fun H' s h => (kF h).keep s
    have hw : wordsOf z = [] ∨ ∃ n rest, wordsOf z = n :: rest ∧ Txt.split z " " = n :: rest ∧ (∀ y ∈ n :: rest, y ≠ "") := by
      unfold wordsOf
      by_cases he : ("" : Str) ∈ Txt.split z " "
      · rw [if_pos he]; exact .inl rfl
      · rw [if_neg he]
        obtain ⟨n, r, e⟩ := split_ne z " "
        rw [e] at he ⊢
        exact .inr ⟨n, r, rfl, rfl, fun y hy q => he (q ▸ hy)⟩
    refine ⟨_, rfl, !((wordsOf z).map V.str).isEmpty, .inl ⟨_, SqL.of op, rfl⟩, ?_⟩
    rcases hw with ew | ⟨n, rest, ew, es, hne⟩
    · have hb : readL z = none := by
        unfold wordsOf at ew
        by_cases he : ("" : Str) ∈ Txt.split z " "
        · exact read_empty he
        · rw [if_neg he] at ew
          unfold readL
          rw [ew]; rfl
      rw [ew]
      exact iteT (iteT ((kF1 _ s1 hb).out))
    · rw [ew] at op ⊢
      have eL : readL z = (shA.lookup n).bind fun sh => (thingsV sh.cps.toList rest).map (V.str n :: ·) := by unfold readL; rw [es]; rfl
      have az : ∀ y ∈ n :: rest, Asc y ∧ y.length ≤ 1000 := fun y hy => by
        rw [← es] at hy
        exact ⟨asc_split hz y hy, Nat.le_trans (PyProof.Rows.part_short hy) hl⟩
      have hlr : rest.length ≤ 1000 := by
        have := split_len z
        rw [es, List.length_cons] at this
        omega
      have a0 : atI ((n :: rest).map V.str) 0 = some (V.str n) := atI_nat (j := 0) rfl
      have ev : valV shG (.inr n) = (shA.lookup n).map V.str := valV_map n shA
      refine iteF ⟨_, rfl, p, _, 0, V.str n, rfl, rfl, SqL.of op, a0, rfl, .inr n, rfl, _, rfl, ?_⟩
      rw [ev]
      cases hs : shA.lookup n with
      | none =>
        rw [hs] at eL
        exact iteT (kF1 _ s1 eL).out
      | some sh =>
        rw [hs] at eL ev
        obtain ⟨l4, lq⟩ := sh_len _ (lookup_mem hs)
        have lq : sh.cps.toList.length = sh.length := lq
        have l4 : sh.length ≤ 4 := l4
        have eL : readL z = (thingsV sh.cps.toList rest).map (V.str n :: ·) := eL
        refine iteF ⟨_, rfl, p, _, 0, V.str n, rfl, rfl, SqL.of op, a0, .inr n, V.str sh, rfl, rfl, ev, ?_⟩
        refine ⟨_, rfl, p, _, rfl, .inl (SqL.of op), _, rfl, sh, rfl, Nat.le_trans l4 (by decide), _, _, rfl, rfl, rfl, _, rfl, ?_⟩
        by_cases hlen : rest.length = sh.length
        case neg =>
          have hb : readL z = none := by
            rw [eL]
            cases ht : thingsV sh.cps.toList rest with
            | none => rfl
            | some us => exact absurd (things_len ht).1.symm (by rw [lq]; exact hlen)
          rw [show (!decide (V.int (((n :: rest).map V.str).length : Nat) = V.int (((sh.length : Nat) : Int) + 1))) = true from by
            rw [decide_eq_false]; rfl
            intro q
            injection q with q
            rw [List.length_map, List.length_cons] at q
            omega]
          exact iteT (kF1 _ s1 hb).out
        rw [show (!decide (V.int (((n :: rest).map V.str).length : Nat) = V.int (((sh.length : Nat) : Int) + 1))) = false from by
          rw [decide_eq_true]; rfl
          rw [List.length_map, List.length_cons, hlen]
          rfl]
        refine iteF ⟨_, rfl, _, rfl, p, _, rfl, SqL.of op, fun q hq => ?_⟩
        have s2 : Same H1 (upd H1 q (.lst (cutV ((n :: rest).map V.str) (some 1) none))) := (Same.refl H1).new' hq
        have oq : (upd H1 q (.lst (cutV ((n :: rest).map V.str) (some 1) none))) q = some (.lst (rest.map V.str)) := by rw [upd_same, cutD1]; rfl
        generalize upd H1 q (.lst (cutV ((n :: rest).map V.str) (some 1) none)) = H2 at s2 oq
        have s12 := s1.trans s2
        refine ⟨_, rfl, .L q, .S sh, _, _, rfl, SqL.of oq, rfl, fun D hD => ?_⟩
        have hD0 := s12.free hD
        refine lc_it (n := rest.length) (fun i H5 => ∃ us : List V, us.length = i ∧ H5 D = some (.lst us) ∧ (∀ (j c : Nat) (y : Str), j < i → sh.cps.toList[j]? = some c → rest[j]? = some y → ∃ v, us[j]? = some v ∧ thingV c y = some v) ∧ Same H2 H5) ⟨[], rfl, upd_same, (fun j c y hj => absurd hj (by omega)), (Same.refl H2).new' hD⟩ ?_ ?_
        · rintro i H5 hi ⟨us, lu, hD5, hu, s5⟩
          have hy : rest[i]? = some rest[i] := List.getElem?_eq_getElem hi
          have hcl : i < sh.cps.toList.length := by omega
          have hc : sh.cps.toList[i]? = some sh.cps.toList[i] := List.getElem?_eq_getElem hcl
          have hx1 : (rest.map V.str)[i]? = some (.str rest[i]) := by rw [List.getElem?_map, hy]; rfl
          have hx2 : (signs sh)[i]? = some (.str ⟨#[sh.cps.toList[i]]⟩) := by unfold signs; rw [List.getElem?_map, hc]; rfl
          refine ⟨⟨_, _, _, _, SqL.of (s5 _ _ oq), rfl, hx1, hx2⟩, ?_⟩
          rintro x H6 ⟨Tq, x', y', rfl, hT, rfl, gx, gy⟩
          have ex := gx _ (SqL.of (s5 _ _ oq))
          have ey := gy _ rfl
          rw [hx1] at ex
          rw [hx2] at ey
          injection ex with ex
          injection ey with ey
          subst ex ey
          have my : rest[i] ∈ n :: rest := List.mem_cons_of_mem _ (List.mem_of_getElem? hy)
          generalize rest[i] = y at hy my
          generalize sh.cps.toList[i] = c at hc
          have s6 : Same H5 (upd H5 Tq (.tup [.str y, .str ⟨#[c]⟩])) := (Same.refl H5).new' hT
          refine ⟨Tq, _, rfl, SqT.of upd_same, rfl, _, _, rfl, _, _, rfl, rfl, rfl, ?_⟩
          generalize upd H5 Tq (.tup [.str y, .str ⟨#[c]⟩]) = H6 at s6
          unfold tYes
          dsimp only
          rw [if_pos rfl]
          refine ⟨_, rfl, _, rfl, y, c, rfl, hne y my, (az y my).1, (az y my).2, fun v ev => ?_, fun hb => ?_⟩
          · refine ⟨us, s6 _ _ hD5, small1000 (by omega), us ++ [v], by rw [List.length_append, lu]; rfl, upd_same, fun j c' y' hj h1 h2 => ?_, (s5.trans s6).turn hD⟩
            rcases Nat.lt_or_ge j i with hlt | hge
            · obtain ⟨v', e1, e2⟩ := hu j c' y' hlt h1 h2
              exact ⟨v', by rw [List.getElem?_append_left (by omega)]; exact e1, e2⟩
            · obtain rfl : j = i := by omega
              rw [hc] at h1
              rw [hy] at h2
              injection h1 with h1
              injection h2 with h2
              subst h1 h2
              exact ⟨v, by rw [List.getElem?_append_right (by omega), lu, Nat.sub_self]; rfl, ev⟩
          · refine kF1 _ ((s12.trans s5).trans s6) ?_
            rw [eL]
            cases ht : thingsV sh.cps.toList rest with
            | none => rfl
            | some us' =>
              obtain ⟨v', _, q'⟩ := things_at ht i c y hc hy
              rw [hb] at q'
              cases q'
        · rintro H5 ⟨us, lu, hD5, hu, s5⟩
          refine ⟨⟨_, _, SqL.of (s5 _ _ oq), rfl, .inl (by rw [List.length_map]; exact Nat.le_refl _)⟩, ?_⟩
          have ht : thingsV sh.cps.toList rest = some us := things_of (by omega) lu fun j c y h1 h2 => hu j c y (List.getElem?_eq_some_iff.mp h2).1 h1 h2
          refine ⟨_, rfl, p, _, 0, V.str n, rfl, rfl, SqL.of (s5 _ _ (s2 _ _ op)), a0, ?_⟩
          refine ⟨_, rfl, D, us, rfl, .inl (SqL.of hD5), (by simp [lu]; exact Nat.le_of_lt (small1000 (by omega))), fun t ht' => ?_⟩
          refine kT (V.str n :: us) (by rw [eL, ht]; rfl) t _ ((s12.trans s5).new' ht') ?_
          rw [upd_same, List.append_nil]

end
end Toy

end
section
set_option maxHeartbeats 4000000
namespace Toy
open PySem L2
section
variable {P : Program} {w : World} {K : PySem.W.Frag} {mg : Str → Option Value} {base : Heap}
/-! ### the law's forms -/
def fmA : List (Str × Str) := [("cut", "wnnn"), ("push", "wnn"), ("slit", "wnn"), ("glue", "wno"), ("beside", "ww"), ("part", "wnw"), ("mirror", "w"), ("turn", "w"), ("burn", "w"), ("drop", "w"), ("keep", "ww")]
def fmG : List (Key × V) := fmA.map fun e => (.inr e.1, .str e.2)
def trC (c : Nat) : Nat := if c = 119 then 97 else if c = 111 then 45 else 49
theorem lookup_none' {n : Str} : ∀ {l : List (Str × Str)}, n ∉ l.map (·.1) → l.lookup n = none
  | [], _ => rfl
  | (a, b) :: l, h => by
    rw [List.map_cons, List.mem_cons, not_or] at h
    rw [List.lookup_cons, show (n == a) = false from beq_eq_false_iff_ne.mpr h.1]
    exact lookup_none' h.2
theorem form_of (n : Str) : (fmA.lookup n = none ∧ shA.lookup n = none) ∨ ∃ fm sh, fmA.lookup n = some fm ∧ shA.lookup n = some sh ∧ fm ≠ "" ∧ fm.length = sh.length ∧ fm.length ≤ 4 ∧ fm.cps.toList.length = fm.length ∧ sh.cps.toList = fm.cps.toList.map trC ∧ ∀ c ∈ fm.cps.toList, c = 119 ∨ c = 110 ∨ c = 111 := by
  by_cases h : n ∈ fmA.map (·.1)
  · right
    have key : ∀ m ∈ fmA.map (·.1), ((fmA.lookup m).bind fun fm => (shA.lookup m).map fun sh => decide (fm ≠ "" ∧ fm.length = sh.length ∧ fm.length ≤ 4 ∧ fm.cps.toList.length = fm.length ∧ sh.cps.toList = fm.cps.toList.map trC ∧ ∀ c ∈ fm.cps.toList, c = 119 ∨ c = 110 ∨ c = 111)) = some true := by decide +kernel
    have q := key n h
    obtain ⟨fm, e1, q⟩ := Option.bind_eq_some_iff.mp q
    obtain ⟨sh, e2, q⟩ := Option.map_eq_some_iff.mp q
    exact ⟨fm, sh, e1, e2, of_decide_eq_true q⟩
  · left
    have h2 : n ∉ shA.map (·.1) := fun q => h ((by decide +kernel : ∀ m ∈ shA.map (·.1), m ∈ fmA.map (·.1)) n q)
    exact ⟨lookup_none' h, lookup_none' h2⟩
abbrev nmFo : List Str := ["_law_forms_here", "_law_word"]
theorem scFo : FnScope nmFo [] (defScope s__law_forms) := ⟨rfl, rfl, rfl, by decide +kernel, rfl, by decide +kernel, by decide +kernel⟩
def spFo : Sp := fun vs H Q _ => vs = [] ∧ ∀ (D : Addr) (H' : Hp), Same H H' → H' D = some (.dK fmG) → Q (.ref D) H'
theorem e6_fm : mergeK [] ([(.inr "cut", .str "wnnn"), (.inr "push", .str "wnn"), (.inr "slit", .str "wnn"), (.inr "glue", .str "wno"), (.inr "beside", .str "ww"), (.inr "part", .str "wnw")] : List (Key × V)) = fmG.take 6 := by decide +kernel
theorem fm_step : ∀ i, i < 4 → ∀ x, ([V.str "mirror", .str "turn", .str "burn", .str "drop"] : List V)[i]? = some x → ∃ k : Str, x = .str k ∧ putK (fmG.take (6 + i)) (.inr k) (.str "w") = fmG.take (6 + (i + 1)) := by
  intro i hi x hx
  have : i = 0 ∨ i = 1 ∨ i = 2 ∨ i = 3 := by omega
  rcases this with rfl | rfl | rfl | rfl <;> (cases hx; exact ⟨_, rfl, by decide +kernel⟩)
theorem ok_fo {f : Addr} {fd : FuncData} (F : Fun K "_law_forms" "_law_forms" s__law_forms f fd) (T : Blt mg) : FnOk P w K mg base CX0 1 f fd [] spFo := by
  refine F.ok scFo (fun vs H Q E h => ?_) (fun cdv A outer s H vs Q E hr h => ?_)
  · obtain ⟨rfl, _⟩ := h
    rfl
  · obtain ⟨rfl, k⟩ := h
    have nd := scFo.nd
    have hu1 : (cxOf CX0 P w K mg base nmFo "_law_forms" (defScope s__law_forms) f cdv A outer s H E).A.units + 1 < cLine := by
      have := hr.un
      show (A.deeper _).units + 1 < cLine
      omega
    refine ⟨_, (pss_cons (ps_set (i := 0) nd rfl (Or.inl rfl) (pe_disp (pps_cons pe_str pe_str (pps_cons pe_str pe_str (pps_cons pe_str pe_str (pps_cons pe_str pe_str (pps_cons pe_str pe_str (pps_cons pe_str pe_str pps_nil)))))) (by rfl) (by rfl) (by simp) (by decide)))
      (pss_cons (ps_for PassesOwn.never rfl (pi_tup (pe_tup (pa_cons pe_str (pa_cons pe_str (pa_cons pe_str (pa_cons pe_str pa_nil)))))) (pg_name (i := 1) nd rfl (Or.inl rfl)) (pss_one (ps_dput hu1 (pv 0) (pv 1) pe_str (by rfl))))
      (pss_cons (ps_dput hu1 (pv 0) pe_str pe_str (by rfl))
      (pss_one (ps_ret (pv 0)))))), ?_⟩
    refine fun D hD => ⟨upd_same, [(.inr "cut", .str "wnnn"), (.inr "push", .str "wnn"), (.inr "slit", .str "wnn"), (.inr "glue", .str "wno"), (.inr "beside", .str "ww"), (.inr "part", .str "wnw")], rfl, by decide, ?_⟩
    rw [e6_fm]
    have s1 : Same H (upd (upd H D (.dK [])) D (.dK (fmG.take 6))) := ((Same.refl H).new' hD).turn hD
    have oD : (upd (upd H D (.dK [])) D (.dK (fmG.take 6))) D = some (.dK (fmG.take 6)) := upd_same
    generalize upd (upd H D (.dK [])) D (.dK (fmG.take 6)) = H1 at s1 oD
    refine ⟨by decide, fun t ht => ?_⟩
    have s2 : Same H1 (upd H1 t (.tup [.str "mirror", .str "turn", .str "burn", .str "drop"])) := (Same.refl H1).new' ht
    have ot : (upd H1 t (.tup [.str "mirror", .str "turn", .str "burn", .str "drop"])) t = some (.tup [.str "mirror", .str "turn", .str "burn", .str "drop"]) := upd_same
    generalize upd H1 t (.tup [.str "mirror", .str "turn", .str "burn", .str "drop"]) = H2 at s2 ot
    refine ⟨t, rfl, ⟨_, SqT.of ot⟩, for_tup (xs := [.str "mirror", .str "turn", .str "burn", .str "drop"]) (fun i σ H3 => (∃ v1, σ = [some (.ref D), v1]) ∧ H3 D = some (.dK (fmG.take (6 + i))) ∧ H3 t = some (.tup [.str "mirror", .str "turn", .str "burn", .str "drop"]) ∧ Same H H3) ⟨⟨none, rfl⟩, s2 _ _ oD, ot, s1.trans s2⟩ (fun i σ H3 _ q => SqT.of q.2.2.1) ?_ ?_⟩
    · rintro i x σ H3 hx ⟨⟨v1, rfl⟩, hD3, ht3, s3⟩
      have hi : i < 4 := (List.getElem?_eq_some_iff.mp hx).1
      obtain ⟨kk, rfl, e⟩ := fm_step i hi x hx
      have hD0 : H D = none := hD
      refine ⟨_, rfl, _, rfl, D, _, rfl, DPut.k (k := .inr kk) hD3 (small1000 (by rw [List.length_take]; omega)), ⟨_, rfl⟩, by rw [upd_same, e], ?_, s3.turn hD0⟩
      rw [upd_ne (fun z => by rw [z, hD3] at ht3; cases ht3)]
      exact ht3
    · rintro σ H3 ⟨⟨v1, rfl⟩, hD3, ht3, s3⟩
      refine ⟨_, rfl, D, _, rfl, DPut.k (k := .inr "keep") hD3 (by decide +kernel), _, rfl, ?_⟩
      refine k D _ (s3.turn hD) ?_
      rw [upd_same]
      exact congrArg (fun q => some (HO.dK q)) (by decide +kernel : putK (fmG.take (6 + 4)) (.inr "keep") (.str "ww") = fmG)

end
end Toy

end
section
set_option maxHeartbeats 4000000
namespace Toy
open PySem L2
section
variable {P : Program} {w : World} {K : PySem.W.Frag} {mg : Str → Option Value} {base : Heap}
/-! ### one thing of a line -/
abbrev nmTh : List Str := ["_law_sign", "_law_word", "_law_good", "_law_one"]
theorem scTh : FnScope nmTh ["_law_sign", "_law_word"] (defScope s__law_thing) := ⟨rfl, rfl, rfl, by decide +kernel, rfl, by decide +kernel, by decide +kernel⟩
def spTh : Sp := fun vs H Q _ => ∃ (c : Nat) (z : Str), vs = [.str ⟨#[c]⟩, .str z] ∧ (c = 119 ∨ c = 110 ∨ c = 111) ∧ Asc z ∧ z.length ≤ 1000 ∧ ∀ (p : Addr) (H' : Hp) (v : V) (g : Bool), Same H H' → H' p = some (.tup [v, .bl g]) → (g = true → thingV (trC c) z = some v) → (g = false → thingV (trC c) z = none) → Q (.ref p) H'
theorem numS_eq (z : Str) : numS z = (decide (1 ≤ z.length ∧ z.length ≤ 2) && z.cps.toList.all (fun c => decide (48 ≤ c ∧ c ≤ 57)) && (z.length == 1 || z.cps.toList.head? != some 48)) := rfl
theorem dig_mem : ∀ c, c < 127 → decide (c ∈ ("0123456789" : Str).cps.toList) = decide (48 ≤ c ∧ c ≤ 57) := by decide +kernel
theorem ok_th {f : Addr} {fd : FuncData} (F : Fun K "_law_thing" "_law_thing" s__law_thing f fd) (T : Blt mg) : FnOk P w K mg base CX0 1 f fd ["_law_sign", "_law_word"] spTh := by
  refine F.ok scTh (fun vs H Q E h => ?_) (fun cdv A outer s H vs Q E hr h => ?_)
  · obtain ⟨c, z, rfl, _⟩ := h
    rfl
  · obtain ⟨c, z, rfl, hc, hz, hl, k⟩ := h
    have nd := scTh.nd
    refine ⟨_, (pss_cons (ps_if (pt_cmpR op_eq (pv 0) pe_str (nomark _)) (pss_one (ps_ret (pe_tup (pa_cons (pv 1) (pa_cons (pe_cmpR op_ne (pv 1) pe_str (nomark _)) pa_nil))))) pss_nil)
      (pss_cons (ps_if (PW.pt (pw_and (pt_cmpR op_eq (pv 0) pe_str (nomark _)) (pw_and1 (pt_cmpR op_eq (pv 1) pe_str (nomark _))))) (pss_one (ps_ret (pe_tup (pa_cons pe_non (pa_cons pe_bl pa_nil))))) pss_nil)
      (pss_cons (ps_set (i := 2) nd rfl (Or.inl rfl) (pe_and (pe_chain op_le op_le pe_int (pe_callB call_len_str (by rfl) T.len PySem.boot_len (pa_cons (pv 1) pa_nil)) pe_int) (pe_one (pe_callB (cr_all rfl) (by rfl) T.all boot_all (pa_cons (pe_lc (own := [("_law_one", 3)]) (g := (gName 3)) (te := tOp (fun x y H Q => ∃ (c : Nat) (z : Str), x = .str ⟨#[c]⟩ ∧ y = .str z ∧ Q (.bl (decide (c ∈ z.cps.toList))) H) (tVar 3) (tC (V.str "0123456789"))) (by rfl) nd (pi_str (pv 1)) (blkOk_by (own := [("_law_one", 3)]) (N := nmTh) (sc := defScope s__law_thing) (by decide +kernel)) (fun _ _ _ _ _ => (pg_name (i := 3) nd rfl (Or.inl rfl))) (fun _ _ _ _ _ => pts_nil) (fun _ _ _ _ _ => (pe_cmpR op_in_sign (pv 3) pe_str (by rfl)))) pa_nil)))))
      (pss_cons (ps_set (i := 2) nd rfl (Or.inl rfl) (pe_and (pv 2) (pe_one (pe_or (pe_cmpR op_eq (pe_callB call_len_str (by rfl) T.len PySem.boot_len (pa_cons (pv 1) pa_nil)) pe_int (nomark _)) (pe_one (pe_cmpR op_ne (pe_ix ix_str (pv 1) pe_int (fun _ _ => rfl)) pe_str (nomark _)))))))
      (pss_one (ps_ret (pe_tup (pa_cons (pe_ifExp (pt_val (pv 2)) (pe_callTy call_int_str (by rfl) T.int boot_int (pa_cons (pv 1) pa_nil)) pe_int) (pa_cons (pv 2) pa_nil))))))))), ?_⟩
    refine ⟨_, rfl, rfl, _, rfl, ?_⟩
    rw [show decide (V.str ⟨#[c]⟩ = V.str "w") = decide (c = 119) from sign_eqV c 119]
    by_cases hw : c = 119
    · subst hw
      rw [decide_eq_true rfl]
      refine iteT ⟨_, rfl, _, rfl, rfl, ?_⟩
      refine ⟨(by show 2 ≤ sizeLine; decide), fun p hp => k p _ _ _ ((Same.refl H).new' hp) upd_same (fun h => ?_) fun h => ?_⟩
      · have hne : z ≠ "" := fun q => by subst q; cases h
        unfold thingV
        rw [if_neg hne, if_pos (by decide)]
      · have he : z = "" := by
          apply Classical.byContradiction
          intro q
          rw [decide_eq_false (fun e => q (V.str.inj e))] at h
          cases h
        rw [he, thing_empty]
    · rw [decide_eq_false hw]
      refine iteF ⟨_, rfl, rfl, _, rfl, ?_⟩
      rw [show decide (V.str ⟨#[c]⟩ = V.str "o") = decide (c = 111) from sign_eqV c 111]
      have tc97 : trC c ≠ 97 := by
        rcases hc with rfl | rfl | rfl
        · exact absurd rfl hw
        · decide
        · decide
      -- what is behind the two
      have last : (¬ (trC c = 45 ∧ z = "-")) → ∀ (p : Addr) (H' : Hp), Same H H' → H' p = some (.tup [(if numS z = true then .int (numV z) else .int 0), .bl (numS z)]) → Q (.ref p) H' := fun hn p H' sm hp => by
        refine k p H' _ _ sm hp (fun h => ?_) fun h => ?_
        · have hne : z ≠ "" := fun q => by subst q; exact absurd h (by decide)
          unfold thingV
          rw [if_neg hne, if_neg tc97, if_neg hn, if_pos h, if_pos h]
        · by_cases hne : z = ""
          · rw [hne, thing_empty]
          · unfold thingV
            rw [if_neg hne, if_neg tc97, if_neg hn, if_neg (by rw [h]; decide)]
      have chars : z.cps.toList.all (fun c => decide (48 ≤ c ∧ c ≤ 57)) = (z.cps.toList.map fun c => decide (c ∈ ("0123456789" : Str).cps.toList)).all id := by
        rw [List.all_map, Bool.eq_iff_iff, List.all_eq_true, List.all_eq_true]
        constructor
        · intro h a ha
          show decide (a ∈ _) = true
          rw [dig_mem a (hz a ha).2]
          exact h a ha
        · intro h a ha
          have := h a ha
          have : decide (a ∈ ("0123456789" : Str).cps.toList) = true := this
          rw [dig_mem a (hz a ha).2] at this
          exact this
      have num0 : numS z = (decide (1 ≤ z.length ∧ z.length ≤ 2) && (z.cps.toList.map fun c => decide (c ∈ ("0123456789" : Str).cps.toList)).all id && (z.length == 1 || z.cps.toList.head? != some 48)) := by rw [numS_eq, chars]
      have hsz : z.cps.toList.length = z.length := rfl
      by_cases h1 : c = 111
      · subst h1
        rw [decide_eq_true rfl]
        by_cases hd : z = "-"
        · subst hd
          refine iteT ⟨_, rfl, rfl, _, rfl, ?_⟩
          rw [decide_eq_true rfl]
          exact iteT ⟨(by show 2 ≤ sizeLine; decide), fun p hp => k p _ _ _ ((Same.refl H).new' hp) upd_same (fun _ => rfl) (fun h => nomatch h)⟩
        · have last2 := last (fun q => hd q.2)
          refine iteT ⟨_, rfl, rfl, _, rfl, ?_⟩
          rw [decide_eq_false (fun e => hd (V.str.inj e))]
          refine iteF ?_
          refine ⟨_, rfl, z, rfl, Nat.le_trans hl (by decide), _, _, rfl, rfl, decide ((1 : Int) ≤ (z.length : Nat)), rfl, ?_⟩
          by_cases ha : 1 ≤ z.length ∧ z.length ≤ 2
          case neg =>
            have n0 : numS z = false := by rw [num0, decide_eq_false ha]; rfl
            rw [n0] at last2
            by_cases hz0 : z.length = 0
            · rw [show decide ((1 : Int) ≤ (z.length : Nat)) = false from decide_eq_false (by omega)]
              refine iteF ⟨_, rfl, iteF ⟨_, rfl, _, rfl, iteF ⟨_, rfl, _, rfl, iteF ⟨_, rfl, (by show 2 ≤ sizeLine; decide), fun p hp => last2 p _ ((Same.refl H).new' hp) upd_same⟩⟩⟩⟩
            · rw [show decide ((1 : Int) ≤ (z.length : Nat)) = true from decide_eq_true (by omega)]
              refine iteT ⟨_, _, rfl, rfl, _, rfl, ?_⟩
              rw [show decide (((z.length : Nat) : Int) ≤ 2) = false from decide_eq_false (by omega)]
              refine iteF ⟨_, rfl, _, rfl, iteF ⟨_, rfl, _, rfl, iteF ⟨_, rfl, (by show 2 ≤ sizeLine; decide), fun p hp => last2 p _ ((Same.refl H).new' hp) upd_same⟩⟩⟩
          rw [show decide ((1 : Int) ≤ (z.length : Nat)) = true from decide_eq_true (by omega)]
          refine iteT ⟨_, _, rfl, rfl, _, rfl, ?_⟩
          rw [show decide (((z.length : Nat) : Int) ≤ 2) = true from decide_eq_true (by omega)]
          refine iteT ⟨_, rfl, z, rfl, fun D hD => ?_⟩
          refine lc_it (n := z.length) (fun i H5 => H5 D = some (.lst ((((z.cps.toList.take i).map fun c => decide (c ∈ ("0123456789" : Str).cps.toList))).map V.bl)) ∧ Same H H5) ⟨upd_same, (Same.refl H).new' hD⟩ ?_ ?_
          · rintro i H5 hi ⟨hD5, s5⟩
            have hx : z.cps[i]? = some (z.cps[i]'hi) := Array.getElem?_eq_getElem hi
            refine ⟨hi, ?_⟩
            rintro x H6 ⟨rfl, c', hc', rfl⟩
            rw [hx] at hc'
            injection hc' with hc'
            subst hc'
            refine ⟨rfl, ?_⟩
            unfold tYes
            dsimp only
            rw [if_pos rfl]
            refine ⟨_, rfl, _, _, rfl, rfl, _, hD5, small1000 (by rw [List.length_map, List.length_map, List.length_take]; omega), ?_, s5.turn hD⟩
            rw [upd_same, List.take_succ, List.map_append, List.map_append]
            have : z.cps.toList[i]? = some (z.cps[i]'hi) := by rw [Array.getElem?_toList]; exact hx
            rw [this]
            rfl
          · rintro H5 ⟨hD5, s5⟩
            refine ⟨Nat.le_refl _, ?_⟩
            rw [show z.cps.toList.take z.length = z.cps.toList from List.take_of_length_le (Nat.le_refl _)] at hD5
            refine ⟨D, _, rfl, SqL.of hD5, ?_⟩
            rw [decide_eq_true ha, Bool.true_and] at num0
            generalize hall : (z.cps.toList.map fun c => decide (c ∈ ("0123456789" : Str).cps.toList)).all id = g at num0
            refine ⟨_, rfl, g, rfl, ?_⟩
            cases g with
            | false =>
              rw [Bool.false_and] at num0
              rw [num0] at last2
              exact iteF ⟨_, rfl, _, rfl, iteF ⟨_, rfl, (by show 2 ≤ sizeLine; decide), fun p hp => last2 p _ (s5.new' hp) upd_same⟩⟩
            | true =>
              rw [Bool.true_and] at num0
              have good : numS z = true → ∀ (p : Addr), H5 p = none → Q (.ref p) (upd H5 p (.tup [.int (numV z), .bl true])) := fun hn p hp => last2 p _ (s5.new' hp) (by rw [upd_same, hn]; rfl)
              have getn : numS z = true → PySem.intText? z = some (numV z) := fun hn => (num_eq hz hn).1
              refine iteT ⟨_, rfl, z, rfl, Nat.le_trans hl (by decide), rfl, decide (z.length = 1), congrArg V.bl (by rw [dec_int, Bool.eq_iff_iff, beq_iff_eq, decide_eq_true_iff]; omega), ?_⟩
              by_cases l1 : z.length = 1
              · rw [show (z.length == 1) = true from beq_iff_eq.mpr l1] at num0
                rw [decide_eq_true l1]
                exact iteT ⟨_, rfl, _, rfl, iteT ⟨_, rfl, z, _, rfl, getn num0, by omega, _, rfl, (by show 2 ≤ sizeLine; decide), fun p hp => good num0 p hp⟩⟩
              · rw [show (z.length == 1) = false from beq_false_of_ne l1, Bool.false_or] at num0
                rw [decide_eq_false l1]
                have h0 : 0 < z.cps.toList.length := by omega
                have hd0 : z.cps.toList.head? = some (z.cps.toList[0]'h0) := by rw [List.head?_eq_getElem?]; exact List.getElem?_eq_getElem h0
                have g0 : z.cps.toList[0]? = some (z.cps.toList[0]'h0) := List.getElem?_eq_getElem h0
                rw [hd0] at num0
                generalize z.cps.toList[0]'h0 = c0 at num0 g0
                refine iteF ⟨_, rfl, z, 0, c0, rfl, rfl, Nat.le_trans hl (by decide), atI_nat (j := 0) g0, rfl, ?_⟩
                rw [show decide (V.str ⟨#[c0]⟩ = V.str "0") = decide (c0 = 48) from sign_eqV c0 48]
                by_cases h48 : c0 = 48
                · rw [show (some c0 != some 48) = false from by rw [h48]; rfl] at num0
                  rw [decide_eq_true h48]
                  rw [num0] at last2
                  exact ⟨_, rfl, _, rfl, iteF ⟨_, rfl, (by show 2 ≤ sizeLine; decide), fun p hp => last2 p _ (s5.new' hp) upd_same⟩⟩
                · rw [show (some c0 != some 48) = true from by rw [bne_iff_ne]; exact fun q => h48 (Option.some.inj q)] at num0
                  rw [decide_eq_false h48]
                  exact ⟨_, rfl, _, rfl, iteT ⟨_, rfl, z, _, rfl, getn num0, by omega, _, rfl, (by show 2 ≤ sizeLine; decide), fun p hp => good num0 p hp⟩⟩
      · have last2 := last (fun q => by
          rcases hc with rfl | rfl | rfl
          · exact hw rfl
          · exact absurd q.1 (by decide)
          · exact h1 rfl)
        rw [decide_eq_false h1]
        refine iteF (iteF ?_)
        refine ⟨_, rfl, z, rfl, Nat.le_trans hl (by decide), _, _, rfl, rfl, decide ((1 : Int) ≤ (z.length : Nat)), rfl, ?_⟩
        by_cases ha : 1 ≤ z.length ∧ z.length ≤ 2
        case neg =>
          have n0 : numS z = false := by rw [num0, decide_eq_false ha]; rfl
          rw [n0] at last2
          by_cases hz0 : z.length = 0
          · rw [show decide ((1 : Int) ≤ (z.length : Nat)) = false from decide_eq_false (by omega)]
            refine iteF ⟨_, rfl, iteF ⟨_, rfl, _, rfl, iteF ⟨_, rfl, _, rfl, iteF ⟨_, rfl, (by show 2 ≤ sizeLine; decide), fun p hp => last2 p _ ((Same.refl H).new' hp) upd_same⟩⟩⟩⟩
          · rw [show decide ((1 : Int) ≤ (z.length : Nat)) = true from decide_eq_true (by omega)]
            refine iteT ⟨_, _, rfl, rfl, _, rfl, ?_⟩
            rw [show decide (((z.length : Nat) : Int) ≤ 2) = false from decide_eq_false (by omega)]
            refine iteF ⟨_, rfl, _, rfl, iteF ⟨_, rfl, _, rfl, iteF ⟨_, rfl, (by show 2 ≤ sizeLine; decide), fun p hp => last2 p _ ((Same.refl H).new' hp) upd_same⟩⟩⟩
        rw [show decide ((1 : Int) ≤ (z.length : Nat)) = true from decide_eq_true (by omega)]
        refine iteT ⟨_, _, rfl, rfl, _, rfl, ?_⟩
        rw [show decide (((z.length : Nat) : Int) ≤ 2) = true from decide_eq_true (by omega)]
        refine iteT ⟨_, rfl, z, rfl, fun D hD => ?_⟩
        refine lc_it (n := z.length) (fun i H5 => H5 D = some (.lst ((((z.cps.toList.take i).map fun c => decide (c ∈ ("0123456789" : Str).cps.toList))).map V.bl)) ∧ Same H H5) ⟨upd_same, (Same.refl H).new' hD⟩ ?_ ?_
        · rintro i H5 hi ⟨hD5, s5⟩
          have hx : z.cps[i]? = some (z.cps[i]'hi) := Array.getElem?_eq_getElem hi
          refine ⟨hi, ?_⟩
          rintro x H6 ⟨rfl, c', hc', rfl⟩
          rw [hx] at hc'
          injection hc' with hc'
          subst hc'
          refine ⟨rfl, ?_⟩
          unfold tYes
          dsimp only
          rw [if_pos rfl]
          refine ⟨_, rfl, _, _, rfl, rfl, _, hD5, small1000 (by rw [List.length_map, List.length_map, List.length_take]; omega), ?_, s5.turn hD⟩
          rw [upd_same, List.take_succ, List.map_append, List.map_append]
          have : z.cps.toList[i]? = some (z.cps[i]'hi) := by rw [Array.getElem?_toList]; exact hx
          rw [this]
          rfl
        · rintro H5 ⟨hD5, s5⟩
          refine ⟨Nat.le_refl _, ?_⟩
          rw [show z.cps.toList.take z.length = z.cps.toList from List.take_of_length_le (Nat.le_refl _)] at hD5
          refine ⟨D, _, rfl, SqL.of hD5, ?_⟩
          rw [decide_eq_true ha, Bool.true_and] at num0
          generalize hall : (z.cps.toList.map fun c => decide (c ∈ ("0123456789" : Str).cps.toList)).all id = g at num0
          refine ⟨_, rfl, g, rfl, ?_⟩
          cases g with
          | false =>
            rw [Bool.false_and] at num0
            rw [num0] at last2
            exact iteF ⟨_, rfl, _, rfl, iteF ⟨_, rfl, (by show 2 ≤ sizeLine; decide), fun p hp => last2 p _ (s5.new' hp) upd_same⟩⟩
          | true =>
            rw [Bool.true_and] at num0
            have good : numS z = true → ∀ (p : Addr), H5 p = none → Q (.ref p) (upd H5 p (.tup [.int (numV z), .bl true])) := fun hn p hp => last2 p _ (s5.new' hp) (by rw [upd_same, hn]; rfl)
            have getn : numS z = true → PySem.intText? z = some (numV z) := fun hn => (num_eq hz hn).1
            refine iteT ⟨_, rfl, z, rfl, Nat.le_trans hl (by decide), rfl, decide (z.length = 1), congrArg V.bl (by rw [dec_int, Bool.eq_iff_iff, beq_iff_eq, decide_eq_true_iff]; omega), ?_⟩
            by_cases l1 : z.length = 1
            · rw [show (z.length == 1) = true from beq_iff_eq.mpr l1] at num0
              rw [decide_eq_true l1]
              exact iteT ⟨_, rfl, _, rfl, iteT ⟨_, rfl, z, _, rfl, getn num0, by omega, _, rfl, (by show 2 ≤ sizeLine; decide), fun p hp => good num0 p hp⟩⟩
            · rw [show (z.length == 1) = false from beq_false_of_ne l1, Bool.false_or] at num0
              rw [decide_eq_false l1]
              have h0 : 0 < z.cps.toList.length := by omega
              have hd0 : z.cps.toList.head? = some (z.cps.toList[0]'h0) := by rw [List.head?_eq_getElem?]; exact List.getElem?_eq_getElem h0
              have g0 : z.cps.toList[0]? = some (z.cps.toList[0]'h0) := List.getElem?_eq_getElem h0
              rw [hd0] at num0
              generalize z.cps.toList[0]'h0 = c0 at num0 g0
              refine iteF ⟨_, rfl, z, 0, c0, rfl, rfl, Nat.le_trans hl (by decide), atI_nat (j := 0) g0, rfl, ?_⟩
              rw [show decide (V.str ⟨#[c0]⟩ = V.str "0") = decide (c0 = 48) from sign_eqV c0 48]
              by_cases h48 : c0 = 48
              · rw [show (some c0 != some 48) = false from by rw [h48]; rfl] at num0
                rw [decide_eq_true h48]
                rw [num0] at last2
                exact ⟨_, rfl, _, rfl, iteF ⟨_, rfl, (by show 2 ≤ sizeLine; decide), fun p hp => last2 p _ (s5.new' hp) upd_same⟩⟩
              · rw [show (some c0 != some 48) = true from by rw [bne_iff_ne]; exact fun q => h48 (Option.some.inj q)] at num0
                rw [decide_eq_false h48]
                exact ⟨_, rfl, _, rfl, iteT ⟨_, rfl, z, _, rfl, getn num0, by omega, _, rfl, (by show 2 ≤ sizeLine; decide), fun p hp => good num0 p hp⟩⟩

end
end Toy

end
section
set_option maxHeartbeats 4000000
namespace Toy
open PySem L2
section
variable {P : Program} {w : World} {K : PySem.W.Frag} {mg : Str → Option Value} {base : Heap}
/-! ### a line that the law reads -/
theorem pe_ok0 {X : Cx} {n k : Nat} {ps : List Str} {sp : Sp} {dvs : List V} {x : Str} {p pos : Pos} (g : OkC CX0 X.prog X.w X.K X.mg X.base n x ps dvs sp) (hr : Room k X.A) (hg : Gl X x) (hn : n ≤ k := by decide) (hdb : (x == ("__debug__" : Str)) = false := by decide) :
    PE X (.Call (.Name x p) [] [] pos) (tCall sp dvs E0 tNil) := by
  obtain ⟨f, fd, us, F, hk, hb, hd, hm⟩ := g
  exact pe_call0 F (hr.mono hn) hg hm hk hb hd pass0 hdb
abbrev nmRe : List Str := ["_law_line", "_law_words", "_law_form", "_law_found", "_law_sign", "_law_word", "_law_thing_here", "_law_good"]
theorem scRe : FnScope nmRe ["_law_line"] (defScope s__law_read) := ⟨rfl, rfl, rfl, by decide +kernel, rfl, by decide +kernel, by decide +kernel⟩
def spRe : Sp := fun vs H Q _ => ∃ line : Str, vs = [.str line] ∧ Asc line ∧ line.length ≤ 1000 ∧ (readL line = none → ∀ H', Same H H' → Q .non H') ∧ ∀ us, readL line = some us → ∀ (p : Addr) (H' : Hp), Same H H' → H' p = some (.tup us) → Q (.ref p) H'
theorem ok_re {f : Addr} {fd : FuncData} (F : Fun K "_law_read" "_law_read" s__law_read f fd) (gFo : Ok P w K mg base 1 "_law_forms" [] spFo) (gTh : Ok P w K mg base 1 "_law_thing" ["_law_sign", "_law_word"] spTh) (T : Blt mg) : FnOk P w K mg base CX0 2 f fd ["_law_line"] spRe := by
  refine F.ok scRe (fun vs H Q E h => ?_) (fun cdv A outer s H vs Q E hr h => ?_)
  · obtain ⟨z, rfl, _⟩ := h
    rfl
  · obtain ⟨z, rfl, hz, hl, kN, kT⟩ := h
    have nd := scRe.nd
    have hu1 : (cxOf CX0 P w K mg base nmRe "_law_read" (defScope s__law_read) f cdv A outer s H E).A.units + 1 < cLine := by
      have := hr.un
      show (A.deeper _).units + 1 < cLine
      omega
    refine ⟨_, (pss_cons (ps_set (i := 1) nd rfl (Or.inl rfl) (pe_split (pv 0) pe_str))
      (pss_cons (ps_set (i := 2) nd rfl (Or.inl rfl) (pe_dget2 hu1 (pe_ok0 gFo hr (by rfl)) (pe_ix ix_list (pv 1) pe_int (fun _ _ => rfl)) pe_str ⟨rfl, rfl, rfl, rfl⟩))
      (pss_cons (ps_if (PW.pt (pw_or (pt_cmpR op_eq (pv 2) pe_str (nomark _)) (pw_or1 (pt_cmpR op_ne (pe_callB call_len_str (by rfl) T.len PySem.boot_len (pa_cons (pv 2) pa_nil)) (pe_op op_sub (pe_callB call_len_seq (by rfl) T.len PySem.boot_len (pa_cons (pv 1) pa_nil)) pe_int) (nomark _))))) (pss_one (ps_ret pe_non)) pss_nil)
      (pss_cons (ps_set (i := 3) nd rfl (Or.inl rfl) (pe_lst (pa_cons (pe_ix ix_list (pv 1) pe_int (fun _ _ => rfl)) pa_nil)))
      (pss_cons (ps_for PassesOwn.never rfl (pi_zipn (by rfl) T.zip (pa_cons (pv 2) (pa_cons (pe_slice sl_list (pv 1) (po_some pe_int) po_none) pa_nil))) (pg_tup (by rfl) (pgs_cons (pg_name (i := 4) nd rfl (Or.inl rfl)) (pgs_cons (pg_name (i := 5) nd rfl (Or.inl rfl)) pgs_nil))) (pss_cons (ps_asg (pe_ok gTh hr (by rfl) (pa_cons (pv 4) (pa_cons (pv 5) pa_nil))) (pg_tup (by rfl) (pgs_cons (pg_name (i := 6) nd rfl (Or.inl rfl)) (pgs_cons (pg_name (i := 7) nd rfl (Or.inl rfl)) pgs_nil))))
      (pss_cons (ps_if (pt_not (pt_val (pv 7))) (pss_one (ps_ret pe_non)) pss_nil)
      (pss_one (ps_expr (pe_bm PySem.F.plainAttrs_list PySem.F.slot_list_append PySem.F.type_list_append mt_append (pv 3) (pa_cons (pv 6) pa_nil)))))))
      (pss_one (ps_ret (pe_callTy call_tuple_of (by rfl) T.tuple boot_tuple (pa_cons (pv 3) pa_nil))))))))), ?_⟩
    refine ⟨_, rfl, ⟨z, rfl⟩, z, " ", rfl, rfl, by decide, Nat.le_trans (by omega : z.length + 2 ≤ 1002) (by decide), fun p hp => ?_⟩
    have s1 : Same H (upd H p (.lst ((Txt.split z " ").map V.str))) := (Same.refl H).new' hp
    have op : (upd H p (.lst ((Txt.split z " ").map V.str))) p = some (.lst ((Txt.split z " ").map V.str)) := upd_same
    generalize upd H p (.lst ((Txt.split z " ").map V.str)) = H1 at s1 op
    obtain ⟨n, rest, es⟩ := split_ne z " "
    have az : ∀ y ∈ n :: rest, Asc y ∧ y.length ≤ 1000 := fun y hy => by
      rw [← es] at hy
      exact ⟨asc_split hz y hy, Nat.le_trans (PyProof.Rows.part_short hy) hl⟩
    have hlr : rest.length ≤ 1000 := by
      have := split_len z
      rw [es, List.length_cons] at this
      omega
    have eL : readL z = (shA.lookup n).bind fun sh => (thingsV sh.cps.toList rest).map (V.str n :: ·) := by unfold readL; rw [es]; rfl
    rw [es] at op
    have a0 : atI ((n :: rest).map V.str) 0 = some (V.str n) := atI_nat (j := 0) rfl
    refine ⟨rfl, fun D H2 s2 oD => ?_⟩
    have s12 := s1.trans s2
    refine ⟨D, rfl, .inl ⟨_, .inl oD⟩, _, rfl, p, _, 0, V.str n, rfl, rfl, SqL.of (s2 _ _ op), a0, _, DGet.k (k := .inr n) oD, ?_⟩
    rw [show valV fmG (.inr n) = (fmA.lookup n).map V.str from valV_map n fmA]
    rcases form_of n with ⟨e1, e2⟩ | ⟨fm, sh, e1, e2, f0, f1, f4, f5, f6, f7⟩
    · rw [e1]
      refine ⟨_, rfl, rfl, _, rfl, ?_⟩
      exact iteT (iteT (kN (by rw [eL, e2]; rfl) H2 s12))
    rw [e1]
    rw [show (Option.map V.str (some fm)).getD (V.str "") = V.str fm from rfl]
    have eL : readL z = (thingsV sh.cps.toList rest).map (V.str n :: ·) := by rw [eL, e2]; rfl
    have hlq : sh.cps.toList.length = fm.length := by rw [f6, List.length_map, f5]
    refine ⟨_, rfl, rfl, _, rfl, ?_⟩
    rw [show decide (V.str fm = V.str "") = false from decide_eq_false (fun q => f0 (V.str.inj q))]
    refine iteF ⟨_, rfl, fm, rfl, Nat.le_trans f4 (by decide), _, rfl, p, _, rfl, .inl (SqL.of (s2 _ _ op)), _, _, rfl, rfl, rfl, _, rfl, ?_⟩
    by_cases hlen : fm.length = rest.length
    case neg =>
      rw [show (!decide (V.int ((fm.length : Nat) : Int) = V.int ((((n :: rest).map V.str).length : Nat) - 1 : Int))) = true from by
        rw [decide_eq_false]; rfl
        intro q
        injection q with q
        rw [List.length_map, List.length_cons] at q
        omega]
      refine iteT (kN ?_ H2 s12)
      rw [eL]
      cases ht : thingsV sh.cps.toList rest with
      | none => rfl
      | some us => exact absurd (things_len ht).1 (by rw [hlq]; exact hlen)
    rw [show (!decide (V.int ((fm.length : Nat) : Int) = V.int ((((n :: rest).map V.str).length : Nat) - 1 : Int))) = false from by
      rw [decide_eq_true]; rfl
      rw [List.length_map, List.length_cons, hlen]
      congr 1
      omega]
    refine iteF ⟨_, rfl, p, _, 0, V.str n, rfl, rfl, SqL.of (s2 _ _ op), a0, (by show 1 ≤ sizeLine; decide), fun L hL => ?_⟩
    have s3 : Same H2 (upd H2 L (.lst [.str n])) := (Same.refl H2).new' hL
    have oL : (upd H2 L (.lst [.str n])) L = some (.lst [.str n]) := upd_same
    generalize upd H2 L (.lst [.str n]) = H3 at s3 oL
    refine ⟨_, rfl, _, rfl, _, rfl, p, _, rfl, SqL.of (s3 _ _ (s2 _ _ op)), fun q hq => ?_⟩
    have s4 : Same H3 (upd H3 q (.lst (cutV ((n :: rest).map V.str) (some 1) none))) := (Same.refl H3).new' hq
    have oq : (upd H3 q (.lst (cutV ((n :: rest).map V.str) (some 1) none))) q = some (.lst (rest.map V.str)) := by rw [upd_same, cutD1]; rfl
    generalize upd H3 q (.lst (cutV ((n :: rest).map V.str) (some 1) none)) = H4 at s4 oq
    have nLq : q ≠ L := fun zz => by rw [zz, oL] at hq; cases hq
    have hL0 : H L = none := s12.free hL
    have s14 := (s12.trans s3).trans s4
    have hsg : (signs fm).length = fm.length := by unfold signs; rw [List.length_map, f5]
    refine ⟨.S fm, .L q, _, _, rfl, rfl, SqL.of oq, ?_⟩
    refine for_it (n := rest.length) (fun i σ H5 => ∃ (v4 v5 v6 v7 : Option V) (us : List V), σ = [some (.str z), some (.ref p), some (.str fm), some (.ref L), v4, v5, v6, v7] ∧ us.length = i ∧ H5 L = some (.lst (.str n :: us)) ∧ (∀ (j c : Nat) (y : Str), j < i → sh.cps.toList[j]? = some c → rest[j]? = some y → ∃ v, us[j]? = some v ∧ thingV c y = some v) ∧ H5 q = some (.lst (rest.map V.str)) ∧ Same H H5) ⟨none, none, none, none, [], rfl, rfl, s4 _ _ oL, (fun j c y hj => absurd hj (by omega)), oq, s14⟩ ?_ ?_
    · rintro i σ H5 hi ⟨v4, v5, v6, v7, us, rfl, lu, hL5, hu, oq5, s5⟩
      have hy : rest[i]? = some rest[i] := List.getElem?_eq_getElem hi
      have hcl : i < fm.cps.toList.length := by omega
      have hc : fm.cps.toList[i]? = some fm.cps.toList[i] := List.getElem?_eq_getElem hcl
      have hx1 : (rest.map V.str)[i]? = some (.str rest[i]) := by rw [List.getElem?_map, hy]; rfl
      have hx2 : (signs fm)[i]? = some (.str ⟨#[fm.cps.toList[i]]⟩) := by unfold signs; rw [List.getElem?_map, hc]; rfl
      refine ⟨⟨_, _, _, _, rfl, SqL.of oq5, hx2, hx1⟩, ?_⟩
      rintro x H6 ⟨Tq, x', y', rfl, hT, rfl, gx, gy⟩
      have ex := gx _ rfl
      have ey := gy _ (SqL.of oq5)
      rw [hx2] at ex
      rw [hx1] at ey
      injection ex with ex
      injection ey with ey
      subst ex ey
      have my : rest[i] ∈ n :: rest := List.mem_cons_of_mem _ (List.mem_of_getElem? hy)
      have mc : fm.cps.toList[i] ∈ fm.cps.toList := List.getElem_mem hcl
      have hsc : sh.cps.toList[i]? = some (trC fm.cps.toList[i]) := by rw [f6, List.getElem?_map, hc]; rfl
      generalize rest[i] = y at hy my
      generalize fm.cps.toList[i] = c at hsc mc
      have s6 : Same H5 (upd H5 Tq (.tup [.str ⟨#[c]⟩, .str y])) := (Same.refl H5).new' hT
      refine ⟨Tq, _, rfl, SqT.of upd_same, rfl, _, _, rfl, _, _, rfl, rfl, ?_⟩
      generalize upd H5 Tq (.tup [.str ⟨#[c]⟩, .str y]) = H6 at s6
      refine ⟨_, rfl, _, rfl, c, y, rfl, f7 c mc, (az y my).1, (az y my).2, fun r H7 v g s7 or gt gf => ?_⟩
      refine ⟨r, _, rfl, SqT.of or, rfl, _, _, rfl, _, _, rfl, rfl, ?_⟩
      refine ⟨_, rfl, g, rfl, ?_⟩
      cases g with
      | false =>
        refine iteT (kN ?_ H7 ((s5.trans s6).trans s7))
        rw [eL]
        cases ht : thingsV sh.cps.toList rest with
        | none => rfl
        | some us' =>
          obtain ⟨v', _, q'⟩ := things_at ht i _ y hsc hy
          rw [gf rfl] at q'
          cases q'
      | true =>
        refine iteF ⟨_, rfl, .inl ⟨rfl, _, SqL.of (s7 _ _ (s6 _ _ hL5))⟩, _, rfl, L, _, _, rfl, rfl, s7 _ _ (s6 _ _ hL5), small1000 (by rw [List.length_cons]; omega), some (.str ⟨#[c]⟩), some (.str y), some v, some (.bl true), us ++ [v], rfl, by rw [List.length_append, lu]; rfl, by rw [upd_same]; rfl, fun j c' y' hj h1 h2 => ?_, ?_, ((s5.trans s6).trans s7).turn hL0⟩
        · rcases Nat.lt_or_ge j i with hlt | hge
          · obtain ⟨v', e1, e2⟩ := hu j c' y' hlt h1 h2
            exact ⟨v', by rw [List.getElem?_append_left (by omega)]; exact e1, e2⟩
          · obtain rfl : j = i := by omega
            rw [hsc] at h1
            rw [hy] at h2
            injection h1 with h1
            injection h2 with h2
            subst h1 h2
            exact ⟨v, by rw [List.getElem?_append_right (by omega), lu, Nat.sub_self]; rfl, gt rfl⟩
        · rw [upd_ne nLq]
          exact s7 _ _ (s6 _ _ oq5)
    · rintro σ H5 ⟨v4, v5, v6, v7, us, rfl, lu, hL5, hu, oq5, s5⟩
      refine ⟨⟨_, _, rfl, SqL.of oq5, .inr (by rw [List.length_map]; exact Nat.le_refl _)⟩, ?_⟩
      have ht : thingsV sh.cps.toList rest = some us := things_of (by omega) lu fun j c y h1 h2 => hu j c y (List.getElem?_eq_some_iff.mp h2).1 h1 h2
      refine ⟨_, rfl, L, _, rfl, .inl ⟨SqL.of hL5, fun l hl => ?_⟩⟩
      exact kT (V.str n :: us) (by rw [eL, ht]; rfl) l _ (s5.new' hl) upd_same

end
end Toy

end
section
set_option maxHeartbeats 4000000
namespace Toy
open PySem L2
section
variable {P : Program} {w : World} {K : PySem.W.Frag} {mg : Str → Option Value} {base : Heap}
/-! ### a deed's line -/
abbrev nmDl : List Str := ["deed", "part"]
theorem scDl : FnScope nmDl ["deed"] (defScope s_deed_line) := ⟨rfl, rfl, rfl, by decide +kernel, rfl, by decide +kernel, by decide +kernel⟩
def shw : V → Str
  | .non => "-"
  | .str a => a
  | .int i => toString i
  | _ => ""
def partOk (v : V) : Prop := v = .non ∨ (∃ a, v = .str a) ∨ ∃ n : Nat, v = .int (n : Nat) ∧ n ≤ 99
theorem thing_shw {c : Nat} {z : Str} {v : V} (hz : Asc z) (h : thingV c z = some v) : shw v = z ∧ partOk v := by
  unfold thingV at h
  split at h
  · cases h
  · split at h
    · injection h with h; subst h; exact ⟨rfl, .inr (.inl ⟨_, rfl⟩)⟩
    · split at h
      · next hd => injection h with h; subst h; exact ⟨hd.2.symm, .inl rfl⟩
      · split at h
        · next hn =>
          injection h with h; subst h
          obtain ⟨e1, e2, e3, e4⟩ := num_eq hz hn
          obtain ⟨m, hm⟩ := Int.eq_ofNat_of_zero_le e2
          exact ⟨e4, .inr (.inr ⟨m, by rw [hm], by omega⟩)⟩
        · cases h
theorem things_shw : ∀ {cs : List Nat} {zs : List Str} {vs : List V}, (∀ z ∈ zs, Asc z) → thingsV cs zs = some vs → vs.map shw = zs ∧ ∀ v ∈ vs, partOk v
  | [], [], vs, _, e => by
    have : some [] = some vs := e
    injection this with this
    subst this
    exact ⟨rfl, fun v h => nomatch h⟩
  | c :: cs, z :: zs, vs, hz, e => by
    unfold thingsV at e
    cases ht : thingV c z with
    | none => rw [ht] at e; cases e
    | some v =>
      rw [ht] at e
      have e : (thingsV cs zs).map (v :: ·) = some vs := e
      obtain ⟨r, h1, h2⟩ := Option.map_eq_some_iff.mp e
      obtain ⟨a, b⟩ := things_shw (fun z h => hz z (List.mem_cons_of_mem _ h)) h1
      obtain ⟨p, q⟩ := thing_shw (hz z List.mem_cons_self) ht
      subst h2
      exact ⟨by rw [List.map_cons, a, p], fun u hu => by
        rcases List.mem_cons.mp hu with rfl | hu
        · exact q
        · exact b u hu⟩
  | [], _ :: _, vs, _, e => by cases (show none = some vs from e)
  | _ :: _, [], vs, _, e => by cases (show none = some vs from e)
theorem read_shw {line : Str} {us : List V} (hz : Asc line) (h : readL line = some us) : us.map shw = Txt.split line " " ∧ (∀ u ∈ us, partOk u) ∧ ∃ (n : Str) (vs : List V), us = .str n :: vs ∧ (n ∈ Txt.split line " ") ∧ Asc n := by
  unfold readL at h
  obtain ⟨n, rest, es⟩ := split_ne line " "
  rw [es] at h ⊢
  have h : ((shA.lookup n).bind fun sh => (thingsV sh.cps.toList rest).map (V.str n :: ·)) = some us := h
  obtain ⟨sh, _, h⟩ := Option.bind_eq_some_iff.mp h
  obtain ⟨vs, ht, e⟩ := Option.map_eq_some_iff.mp h
  have ha : ∀ y ∈ n :: rest, Asc y := fun y hy => asc_split hz y (by rw [es]; exact hy)
  obtain ⟨a, b⟩ := things_shw (fun z hz' => ha z (List.mem_cons_of_mem _ hz')) ht
  subst e
  exact ⟨by rw [List.map_cons, a]; rfl, fun u hu => by
    rcases List.mem_cons.mp hu with rfl | hu
    · exact .inr (.inl ⟨_, rfl⟩)
    · exact b u hu, n, vs, rfl, List.mem_cons_self, ha n List.mem_cons_self⟩
def spDl (K : PySem.W.Frag) : Sp := fun vs H Q _ => ∃ (t : Addr) (line : Str) (us : List V), vs = [.ref t] ∧ H t = some (.tup us) ∧ Asc line ∧ line.length ≤ 1000 ∧ readL line = some us ∧ ∀ H', Same H H' → Q (.str line) H'
theorem ok_dl {f : Addr} {fd : FuncData} (F : Fun K "deed_line" "deed_line" s_deed_line f fd) (T : Blt mg) : FnOk P w K mg base CX0 1 f fd ["deed"] (spDl K) := by
  refine F.ok scDl (fun vs H Q E h => ?_) (fun cdv A outer s H vs Q E hr h => ?_)
  · obtain ⟨t, line, us, rfl, _⟩ := h
    rfl
  · obtain ⟨t, line, us, rfl, ht, hz, hl, hu, k⟩ := h
    have nd := scDl.nd
    obtain ⟨e1, e2, _⟩ := read_shw hz hu
    have hlu : us.length ≤ 1001 := by
      have q := congrArg List.length e1
      rw [List.length_map] at q
      have := split_len line
      omega
    refine ⟨_, (pss_one (ps_ret (pe_join pe_str (pe_lc (own := [("part", 1)]) (g := (gName 1)) (te := tIf (tTest (tOp (fun x y H Q => y = .non ∧ Q (.bl (decide (x = .non))) H) (tVar 1) (tC V.non))) (tC (V.str "-")) (tCB (fun xs H Q => (∃ a, xs = [.str a] ∧ Q (.str a) H) ∨ ∃ i, xs = [.int i] ∧ i.natAbs.log2 < 1920 ∧ Q (.str (toString i)) H) (tCons (tVar 1) tNil))) (by rfl) nd (pi_tup (pv 0)) (blkOk_by (own := [("part", 1)]) (N := nmDl) (sc := defScope s_deed_line) (by decide +kernel)) (fun _ _ _ _ _ => (pg_name (i := 1) nd rfl (Or.inl rfl))) (fun _ _ _ _ _ => pts_nil) (fun _ _ _ _ _ => (pe_ifExp (pt_cmpR op_isN (pv 1) pe_non (nomark _)) pe_str (pe_callTy call_strAny (by rfl) T.str boot_str (pa_cons (pv 1) pa_nil)))))))), ?_⟩
    refine ⟨⟨" ", rfl⟩, _, rfl, t, rfl, ⟨_, SqT.of ht⟩, fun D hD => ?_⟩
    refine lc_tup (xs := us) (fun i H5 => H5 D = some (.lst ((((us.take i).map shw)).map V.str)) ∧ Same H H5) ⟨upd_same, (Same.refl H).new' hD⟩ (fun i H5 _ q => SqT.of (q.2 _ _ ht)) ?_ ?_
    · rintro i x H5 hx ⟨hD5, s5⟩
      have hi := (List.getElem?_eq_some_iff.mp hx).1
      refine ⟨rfl, ?_⟩
      unfold tYes
      dsimp only
      rw [if_pos rfl]
      have fin : ∀ a, a = shw x → ∃ acc, H5 D = some (.lst acc) ∧ acc.length < sizeLine ∧ (fun H5 => H5 D = some (.lst ((((us.take (i + 1)).map shw)).map V.str)) ∧ Same H H5) (upd H5 D (.lst (acc ++ [.str a]))) := fun a ea => by
        refine ⟨_, hD5, Nat.lt_of_le_of_lt (by rw [List.length_map, List.length_map, List.length_take]; omega : _ ≤ 1001) (by decide), ?_, s5.turn hD⟩
        rw [upd_same, List.take_succ, hx, ea, List.map_append, List.map_append]
        rfl
      rcases e2 x (List.mem_of_getElem? hx) with rfl | ⟨a, rfl⟩ | ⟨m, rfl, hm⟩
      · refine ⟨_, rfl, rfl, _, rfl, ?_⟩
        rw [decide_eq_true rfl]
        exact iteT (fin _ rfl)
      · refine ⟨_, rfl, rfl, _, rfl, ?_⟩
        rw [decide_eq_false (fun q => nomatch q)]
        exact iteF ⟨_, rfl, .inl ⟨a, rfl, fin _ rfl⟩⟩
      · refine ⟨_, rfl, rfl, _, rfl, ?_⟩
        rw [decide_eq_false (fun q => nomatch q)]
        exact iteF ⟨_, rfl, .inr ⟨_, rfl, Nat.lt_trans (log_small (by omega)) (by decide), fin _ rfl⟩⟩
    · rintro H5 ⟨hD5, s5⟩
      rw [List.take_of_length_le (Nat.le_refl _), e1] at hD5
      refine ⟨" ", D, _, rfl, rfl, .inl (SqL.of hD5), ?_, ?_⟩
      · have := PyProof.Rows.split_weight line " " (by decide)
        have h1 : (" " : Str).length = 1 := by decide
        rw [h1]
        omega
      · rw [show Txt.join " " (Txt.split line " ") = line from (StrLaws.glued_eq_join " " _).trans (StrLaws.join_split line " ")]
        exact k H5 s5

end
end Toy

end
section
set_option maxHeartbeats 4000000
namespace Toy
open PySem L2
section
variable {P : Program} {w : World} {K : PySem.W.Frag} {mg : Str → Option Value} {base : Heap}
/-! ### names -/
abbrev nmNo : List Str := ["_law_name", "_law_sign"]
theorem scNo : FnScope nmNo ["_law_name"] (defScope s__law_name_ok) := ⟨rfl, rfl, rfl, by decide +kernel, rfl, by decide +kernel, by decide +kernel⟩
def spNo : Sp := fun vs H Q _ => ∃ z : Str, vs = [.str z] ∧ z.length ≤ 1000 ∧ ∀ (b : Bool) (H' : Hp), Same H H' → Q (.bl b) H'
abbrev leS : R2 := fun x y H Q => ∃ i j, x = .str i ∧ y = .str j ∧ Q (.bl (!decide (j.cps.toList < i.cps.toList))) H
theorem ok_no {f : Addr} {fd : FuncData} (F : Fun K "_law_name_ok" "_law_name_ok" s__law_name_ok f fd) (T : Blt mg) : FnOk P w K mg base CX0 1 f fd ["_law_name"] spNo := by
  refine F.ok scNo (fun vs H Q E h => ?_) (fun cdv A outer s H vs Q E hr h => ?_)
  · obtain ⟨z, rfl, _⟩ := h
    rfl
  · obtain ⟨z, rfl, hl, k⟩ := h
    have nd := scNo.nd
    refine ⟨_, (pss_one (ps_ret (pe_and (pe_chain op_le op_le pe_int (pe_callB call_len_str (by rfl) T.len PySem.boot_len (pa_cons (pv 0) pa_nil)) pe_int) (pe_one (pe_callB (cr_all rfl) (by rfl) T.all boot_all (pa_cons (pe_lc (own := [("_law_sign", 1)]) (g := (gName 1)) (te := tChain leS leS (tC (V.str "a")) (tVar 1) (tC (V.str "z"))) (by rfl) nd (pi_str (pv 0)) (blkOk_by (own := [("_law_sign", 1)]) (N := nmNo) (sc := defScope s__law_name_ok) (by decide +kernel)) (fun _ _ _ _ _ => (pg_name (i := 1) nd rfl (Or.inl rfl))) (fun _ _ _ _ _ => pts_nil) (fun _ _ _ _ _ => (pe_chain op_le_str op_le_str pe_str (pv 1) pe_str))) pa_nil)))))), ?_⟩
    refine ⟨_, rfl, z, rfl, Nat.le_trans hl (by decide), _, _, rfl, rfl, decide ((1 : Int) ≤ (z.length : Nat)), rfl, ?_⟩
    cases decide ((1 : Int) ≤ (z.length : Nat)) with
    | false => exact iteF ⟨_, rfl, iteF (k false H (Same.refl H))⟩
    | true =>
      refine iteT ⟨_, _, rfl, rfl, decide (((z.length : Nat) : Int) ≤ 8), rfl, ?_⟩
      cases decide (((z.length : Nat) : Int) ≤ 8) with
      | false => exact iteF (k false H (Same.refl H))
      | true =>
        refine iteT ⟨_, rfl, z, rfl, fun D hD => ?_⟩
        refine lc_it (n := z.length) (fun i H5 => ∃ bs : List Bool, bs.length = i ∧ H5 D = some (.lst (bs.map V.bl)) ∧ Same H H5) ⟨[], rfl, upd_same, (Same.refl H).new' hD⟩ ?_ ?_
        · rintro i H5 hi ⟨bs, lb, hD5, s5⟩
          refine ⟨hi, ?_⟩
          rintro x H6 ⟨rfl, c', hc', rfl⟩
          refine ⟨rfl, ?_⟩
          unfold tYes
          dsimp only
          rw [if_pos rfl]
          have fin : ∀ b : Bool, ∃ acc, H6 D = some (.lst acc) ∧ acc.length < sizeLine ∧ (fun H5 => ∃ bs : List Bool, bs.length = i + 1 ∧ H5 D = some (.lst (bs.map V.bl)) ∧ Same H H5) (upd H6 D (.lst (acc ++ [.bl b]))) := fun b =>
            ⟨_, hD5, small1000 (by rw [List.length_map]; omega), bs ++ [b], by rw [List.length_append, lb]; rfl, by rw [upd_same, List.map_append]; rfl, s5.turn hD⟩
          refine ⟨_, rfl, _, _, rfl, rfl, _, rfl, ?_⟩
          generalize (!decide ((⟨#[c']⟩ : Str).cps.toList < ("a" : Str).cps.toList)) = b1
          cases b1 with
          | false => exact iteF (fin false)
          | true => exact iteT ⟨_, _, rfl, rfl, fin _⟩
        · rintro H5 ⟨bs, lb, hD5, s5⟩
          exact ⟨Nat.le_refl _, D, bs, rfl, SqL.of hD5, k _ H5 s5⟩

end
end Toy

end
section
set_option maxHeartbeats 4000000
namespace Toy
open PySem L2
section
variable {P : Program} {w : World} {K : PySem.W.Frag} {mg : Str → Option Value} {base : Heap}
/-! ### what is drawn -/
theorem DrawL.new {H : Hp} {d l a : Addr} {o : HO} (D : DrawL H d l) (n : H a = none) : DrawL (upd H a o) d l := D.keep ((Same.refl H).new' n)
def spOfL (K : PySem.W.Frag) : Sp := fun vs H Q _ => ∃ (d lD s : Addr) (xs : List V), vs = [.ref d, .ref s] ∧ DrawL H d lD ∧ SqL K H s xs ∧ s ≠ d ∧ 0 < xs.length ∧ xs.length < 1000 ∧ ∀ (x : V) (H' : Hp), x ∈ xs → DrawL H' d lD → But d H H' → Q x H'
theorem ok_ofL {f fT : Addr} {fd fdT : FuncData} (F : Fun K "_law_of" "_law_of" s__law_of f fd) (FT : Fun K "_law_take" "_law_take" s__law_take fT fdT) (bT : Binds K fdT ["_law_draw", "_law_many"] []) (mT : mg "_law_take" = some (.ref fT)) (T : Blt mg) : FnOk P w K mg base CX0 2 f fd ["_law_draw", "_law_some"] (spOfL K) := by
  have GT : FnOk P w K mg base CX0 1 fT fdT ["_law_draw", "_law_many"] spTakeL := ok_takeL FT T
  refine F.ok scOf (fun vs H Q E h => ?_) (fun cdv A outer s H vs Q E hr h => ?_)
  · obtain ⟨d, lD, s, xs, rfl, _⟩ := h
    rfl
  · obtain ⟨d, lD, l, xs, rfl, Dr, hl, ne, h0, h1, k⟩ := h
    refine ⟨_, pss_one (ps_ret (pe_ix ix_list (pv 1) (pe_call GT hr (by rfl) mT FT.kp bT .nil pass0 (pa_cons (pv 0) (pa_cons (pe_callB call_len_seq (by rfl) T.len PySem.boot_len (pa_cons (pv 1) pa_nil)) pa_nil))) (fun _ _ => rfl))), ?_⟩
    refine ⟨_, rfl, _, rfl, _, rfl, l, _, rfl, .inl hl, d, _, (xs.length : Int), rfl, Dr, by omega, log_small h1, fun r H' r0 r1 D' b' => ?_⟩
    obtain ⟨j, rfl⟩ := Int.eq_ofNat_of_zero_le r0
    have hj : j < xs.length := by omega
    exact ⟨l, xs, (j : Int), xs[j], rfl, rfl, (Ext.but b').list ne hl, atI_nat (List.getElem?_eq_getElem hj), k _ _ (List.getElem_mem hj) D' b'⟩
def spOfS : Sp := fun vs H Q _ => ∃ (d lD : Addr) (z : Str), vs = [.ref d, .str z] ∧ DrawL H d lD ∧ 0 < z.length ∧ z.length < 1000 ∧ ∀ (c : Nat) (H' : Hp), c ∈ z.cps.toList → DrawL H' d lD → But d H H' → Q (.str ⟨#[c]⟩) H'
theorem ok_ofS {f fT : Addr} {fd fdT : FuncData} (F : Fun K "_law_of" "_law_of" s__law_of f fd) (FT : Fun K "_law_take" "_law_take" s__law_take fT fdT) (bT : Binds K fdT ["_law_draw", "_law_many"] []) (mT : mg "_law_take" = some (.ref fT)) (T : Blt mg) : FnOk P w K mg base CX0 2 f fd ["_law_draw", "_law_some"] spOfS := by
  have GT : FnOk P w K mg base CX0 1 fT fdT ["_law_draw", "_law_many"] spTakeL := ok_takeL FT T
  refine F.ok scOf (fun vs H Q E h => ?_) (fun cdv A outer s H vs Q E hr h => ?_)
  · obtain ⟨d, lD, z, rfl, _⟩ := h
    rfl
  · obtain ⟨d, lD, z, rfl, Dr, h0, h1, k⟩ := h
    refine ⟨_, pss_one (ps_ret (pe_ix ix_str (pv 1) (pe_call GT hr (by rfl) mT FT.kp bT .nil pass0 (pa_cons (pv 0) (pa_cons (pe_callB call_len_str (by rfl) T.len PySem.boot_len (pa_cons (pv 1) pa_nil)) pa_nil))) (fun _ _ => rfl))), ?_⟩
    refine ⟨_, rfl, _, rfl, _, rfl, z, rfl, Nat.le_of_lt (small1000 (Nat.le_of_lt h1)), d, _, (z.length : Int), rfl, Dr, by omega, log_small h1, fun r H' r0 r1 D' b' => ?_⟩
    obtain ⟨j, rfl⟩ := Int.eq_ofNat_of_zero_le r0
    have hj : j < z.cps.toList.length := by show j < z.length; omega
    exact ⟨z, (j : Int), z.cps.toList[j], rfl, rfl, Nat.le_of_lt (small1000 (Nat.le_of_lt h1)), atI_nat (List.getElem?_eq_getElem hj), k _ _ (List.getElem_mem hj) D' b'⟩
def spOf2 (K : PySem.W.Frag) : Sp := fun vs H Q E => spOfL K vs H Q E ∨ spOfS vs H Q E
def goodW (z : Str) : Prop := Asc z ∧ z.length ≤ 9
instance (z : Str) : Decidable (goodW z) := by unfold goodW; infer_instance
def kx : List (Key × V) := [(.inr "cut", .int 1), (.inr "x", .int 1)]
def l7 : List Str := ["", "A", "abcdefghi", "a b", "a1", "zzzzzzzz", "-"]
def l13 : List Str := ["a", "b", "ab", "ox", "abcdefgh", "names", "cut", "c", "ba", "z", "undo", "aa", "bb"]
theorem g7 : ∀ z ∈ l7, goodW z := by decide +kernel
theorem g13 : ∀ z ∈ l13, goodW z := by decide +kernel
theorem letters_ok : (∀ c ∈ ("abcdefghijklmnopqrstuvwxyz" : Str).cps.toList, 32 ≤ c ∧ c < 127) ∧ ("abcdefghijklmnopqrstuvwxyz" : Str).length = 26 := by decide +kernel
theorem asc_empty : Asc (⟨#[]⟩ : Str) := fun c h => by simp at h
theorem sh_two : ∀ a ∈ (["cut", "x"] : List Str), ∀ b ∈ (["cut", "x"] : List Str), SeqAt.shaped (.list [.str a, .str b]) = true ∧ PyData.eqv (.list [.str a, .str b]) (.list []) = false := by decide +kernel
theorem join_good : ∀ ws : List Str, (∀ y ∈ ws, Asc y ∧ y.length = 1) → ws.length ≤ 8 → goodW (Str.join "" ws) := by
  have key : ∀ ws : List Str, (∀ y ∈ ws, Asc y ∧ y.length = 1) → Asc (Str.join "" ws) ∧ (Str.join "" ws).length ≤ ws.length := by
    intro ws
    induction ws with
    | nil => intro _; exact ⟨(fun c h => nomatch (show c ∈ ([] : List Nat) from h)), Nat.le_refl _⟩
    | cons a ws ih =>
      intro h
      obtain ⟨ha, la⟩ := h a List.mem_cons_self
      cases ws with
      | nil => exact ⟨ha, Nat.le_of_eq la⟩
      | cons b ws =>
        obtain ⟨q1, q2⟩ := ih (fun y hy => h y (List.mem_cons_of_mem _ hy))
        have e : Str.join "" (a :: b :: ws) = a ++ "" ++ Str.join "" (b :: ws) := rfl
        rw [e]
        refine ⟨asc_add (asc_add ha (fun c h => nomatch (show c ∈ ([] : List Nat) from h))) q1, ?_⟩
        have l : ∀ x y : Str, (x ++ y).length = x.length + y.length := fun x y => by show (x.cps ++ y.cps).size = _; exact Array.size_append
        rw [l, l, la, show ("" : Str).length = 0 from rfl, List.length_cons]
        omega
  exact fun ws h hl => ⟨(key ws h).1, by have := (key ws h).2; omega⟩
abbrev nmSn : List Str := ["_law_draw", "_law_kept", "_law_fresh", "_law_some", "_law_letters", "_law_turn", "_law_k"]
theorem scSn : FnScope nmSn ["_law_draw", "_law_kept", "_law_fresh"] (defScope s__law_some_name) := ⟨rfl, rfl, rfl, by decide +kernel, rfl, by decide +kernel, by decide +kernel⟩
def spSn : Sp := fun vs H Q _ => ∃ (d lD kp : Addr) (fr : Bool), vs = [.ref d, .ref kp, .bl fr] ∧ DrawL H d lD ∧ kp ≠ d ∧ H kp = some (.dK kx) ∧ ∀ (z : Str) (H' : Hp), goodW z → DrawL H' d lD → Ext d H H' → Q (.str z) H'
def strE : Expr → Option Str
  | .Constant (.str x) _ _ => some x
  | _ => none
def strsE : List Expr → Option (List Str)
  | [] => some []
  | e :: es => match strE e, strsE es with
    | some x, some l => some (x :: l)
    | _, _ => none
/-- a display of texts -/
theorem pa_strs {X : Cx} : ∀ {es : List Expr} {l : List Str}, strsE es = some l → PA X es (fun _ H Q => Q (l.map V.str) H)
  | [], l, h => by cases h; exact pa_nil
  | e :: es, l, h => by
    cases e with
    | Constant c j p =>
      cases c with
      | str x =>
        cases q : strsE es with
        | none => simp [strsE, strE, q] at h
        | some l' =>
          simp [strsE, strE, q] at h
          subst h
          exact pa_cons pe_str (pa_strs q)
      | _ => simp [strsE, strE] at h
    | _ => simp [strsE, strE] at h
/-- a list of texts; without an argument of its own: the elaborator would otherwise run the display to see whether it is a function -/
theorem pe_strs {X : Cx} {es : List Expr} {l : List Str} {pos : Pos} (h : strsE es = some l := by rfl) : PE X (.List es pos) (tLst (fun _ H Q => Q (l.map V.str) H)) := pe_lst (pa_strs h)
/-- statements whose meaning the elaborator is not to run -/
structure PSsW (X : Cx) (b : List Stmt) (t : TS) : Prop where
  ok : PSs X b t
/-- x = [texts], and what follows -/
theorem pss_setW {X : Cx} {i : Nat} {x : Str} {es : List Expr} {l : List Str} {pos' lp pos : Pos} {rest : List Stmt} {u : TS} (hN : X.N.Nodup) (hi : X.N[i]? = some x) (hx : Loc X.env.scope x) (h : strsE es = some l) (hr : PSs X rest u) (hs : swapsWith (.List es lp) (some (.Name x pos')) pos.line X.env = pure false := by kernel_rfl) (hf : X.fn x = true ∨ X.env.scope.names.lookup x = some .local := by first | exact .inl rfl | exact .inr rfl | assumption) :
    PSsW X (.Assign [.Name x pos'] (.List es lp) pos :: rest) (tSeq (tAsg (tLst (fun _ H Q => Q (l.map V.str) H)) (gName i)) u) := ⟨pss_cons (ps_set hN hi hx (pe_strs h) hs hf) hr⟩
theorem ok_sn {f : Addr} {fd : FuncData} (F : Fun K "_law_some_name" "_law_some_name" s__law_some_name f fd) (gTk : Ok P w K mg base 1 "_law_take" ["_law_draw", "_law_many"] spTakeL) (gOf : Ok P w K mg base 2 "_law_of" ["_law_draw", "_law_some"] (spOf2 K)) (T : Blt mg) (Ts : mg "sorted" = none) : FnOk P w K mg base CX0 3 f fd ["_law_draw", "_law_kept", "_law_fresh"] spSn := by
  refine F.ok scSn (fun vs H Q E h => ?_) (fun cdv A outer s H vs Q E hr h => ?_)
  · obtain ⟨d, lD, kp, fr, rfl, _⟩ := h
    rfl
  · obtain ⟨d, lD, kp, fr, rfl, Dr, kd, hk, k⟩ := h
    have nd := scSn.nd
    have hu64 := hr.units
    refine' ⟨_, (pss_cons (ps_if (pt_cmpR op_eq (pe_ok gTk hr (by rfl) (pa_cons (pv 0) (pa_cons pe_int pa_nil))) pe_int (nomark _)) (pss_one (ps_ret (pe_ok gOf hr (by rfl) (pa_cons (pv 0) (pa_cons pe_strs pa_nil))))) pss_nil)
      (pss_cons (ps_set (i := 3) nd rfl (Or.inl rfl) (pe_callB (by exact cr_sortedSA) (by rfl) Ts (by decide +kernel) (pa_cons (pe_callTy (call_listDS rfl) (by rfl) T.list boot_list (pa_cons (pv 1) pa_nil)) pa_nil)))
      (pss_cut (ps_if (PW.pt (pw_or (pt_val (pv 2)) (pw_or (pt_cmpR (by exact op_eqD hu64) (pv 3) (pe_lst pa_nil) (nomark _)) (pw_or1 (pt_cmpR op_eq (pe_ok gTk hr (by rfl) (pa_cons (pv 0) (pa_cons pe_int pa_nil))) pe_int (nomark _)))))) (PSsW.ok ?hB) pss_nil)
      (pss_one (ps_ret (pe_ok gOf hr (by rfl) (pa_cons (pv 0) (pa_cons (pv 3) pa_nil)))))))), ?_⟩
    case hB => exact (pss_setW (i := 3) nd rfl (Or.inl rfl) (by rfl)
      (pss_cons (ps_set (i := 4) nd rfl (Or.inr rfl) pe_str)
      (pss_one (ps_for PassesOwn.never rfl (pi_range1 (by rfl) T.range (pa_cons pe_int pa_nil)) (pg_name (i := 5) nd rfl (Or.inl rfl)) (pss_one (ps_expr (pe_bm PySem.F.plainAttrs_list PySem.F.slot_list_append PySem.F.type_list_append mt_append (pv 3) (pa_cons (pe_join pe_str (pe_lc (own := [("_law_k", 6)]) (g := (gName 6)) (by rfl) nd (pi_range1 (by rfl) T.range (pa_cons (pe_op op_add pe_int (pe_ok gTk hr (by rfl) (pa_cons (pv 0) (pa_cons pe_int pa_nil)))) pa_nil)) (blkOk_by (own := [("_law_k", 6)]) (N := nmSn) (sc := defScope s__law_some_name) (by decide +kernel)) (fun _ _ _ _ _ => (pg_name (i := 6) nd rfl (Or.inl rfl))) (fun _ _ _ _ _ => pts_nil) (fun _ _ _ _ _ => (pe_ok gOf hr (by rfl) (pa_cons (pv 0) (pa_cons (pv 4) pa_nil)))))) pa_nil))))))))
    refine ⟨_, rfl, d, lD, 16, rfl, Dr, by decide, by decide, fun r H1 r0 r1 D1 b1 => ⟨rfl, _, rfl, ?_⟩⟩
    have x1 := Ext.but b1
    generalize decide (V.int r = V.int 0) = b0
    cases b0 with
    | true =>
      refine iteT ⟨_, rfl, (by show 7 ≤ sizeLine; decide), fun L hL => .inl ⟨d, lD, L, _, rfl, D1.new hL, SqL.of upd_same, (D1.ne hL).1, by decide, by decide, fun x H3 mx D3 b3 => ?_⟩⟩
      have mx : x ∈ l7.map V.str := mx
      obtain ⟨z, hz, rfl⟩ := List.mem_map.mp mx
      exact k z H3 (g7 z hz) D3 ((x1.new hL).trans (Ext.but b3))
    | false =>
      have hk1 := x1 _ _ kd hk
      refine iteF ⟨_, rfl, kp, kx, ["cut", "x"], rfl, .inl hk1, rfl, fun p hp => ?_⟩
      refine ⟨p, _, rfl, SqL.of upd_same, fun ys q pm srt hq => ?_⟩
      have D2 : DrawL (upd (upd H1 p (.lst ((["cut", "x"] : List Str).map V.str))) q (.lst (ys.map V.str))) d lD := (D1.new hp).new hq
      have x2 : Ext d H (upd (upd H1 p (.lst ((["cut", "x"] : List Str).map V.str))) q (.lst (ys.map V.str))) := (x1.new hp).new hq
      have nq := (D1.new (o := .lst ((["cut", "x"] : List Str).map V.str)) hp).ne hq
      have oq : (upd (upd H1 p (.lst ((["cut", "x"] : List Str).map V.str))) q (.lst (ys.map V.str))) q = some (.lst (ys.map V.str)) := upd_same
      generalize upd (upd H1 p (.lst ((["cut", "x"] : List Str).map V.str))) q (.lst (ys.map V.str)) = H2 at D2 x2 oq
      have gy : ∀ z ∈ ys, goodW z := fun z hz => (by decide +kernel : ∀ z ∈ (["cut", "x"] : List Str), goodW z) z (pm.mem_iff.mp hz)
      have ly : ys.length = 2 := pm.length_eq
      refine ⟨fun σ3 H3 => ∃ (L : Addr) (xs : List Str) (v4 v5 v6 : Option V), σ3 = [some (.ref d), some (.ref kp), some (.bl fr), some (.ref L), v4, v5, v6] ∧ H3 L = some (.lst (xs.map V.str)) ∧ (∀ z ∈ xs, goodW z) ∧ 1 ≤ xs.length ∧ xs.length ≤ 20 ∧ L ≠ d ∧ DrawL H3 d lD ∧ Ext d H H3, ?_, ?_⟩
      · refine ⟨_, rfl, fr, rfl, ?_⟩
        cases fr with
        | true =>
          have Db := D2
          have Xb := x2
          refine iteT ?_
          refine ⟨(by show 13 ≤ sizeLine; decide), fun L hL => ?_⟩
          have nL := Db.ne hL
          refine ⟨2, rfl, by decide, by decide, ?_⟩
          refine for_range0 (n := 2) (fun i σ H5 => ∃ (xs : List Str) (v5 v6 : Option V), σ = [some (.ref d), some (.ref kp), some (.bl true), some (.ref L), some (.str "abcdefghijklmnopqrstuvwxyz"), v5, v6] ∧ H5 L = some (.lst (xs.map V.str)) ∧ (∀ z ∈ xs, goodW z) ∧ xs.length = 13 + i ∧ DrawL H5 d lD ∧ Ext d H H5) ⟨l13, none, none, rfl, upd_same, g13, rfl, Db.new hL, Xb.new hL⟩ ?_ ?_
          · rintro i σ H5 hi ⟨xs, v5, v6, rfl, hL5, gx, lx, D5, x5⟩
            refine ⟨_, rfl, .inl ⟨rfl, _, SqL.of hL5⟩, ⟨"", rfl⟩, ?_⟩
            refine ⟨_, rfl, d, lD, 8, rfl, D5, by decide, by decide, fun r H6 r0 r1 D6 b6 => ?_⟩
            have x6 := Ext.but b6
            obtain ⟨m, rfl⟩ := Int.eq_ofNat_of_zero_le r0
            refine ⟨_, _, rfl, rfl, ((1 : Int) + (m : Nat)), rfl, by omega, by omega, fun Dl hDl => ?_⟩
            rw [show ((1 : Int) + (m : Nat)).toNat = 1 + m by omega]
            have nDl := D6.ne hDl
            refine lc_range (lo := 0) (n := 1 + m) (fun j H7 => ∃ ws : List Str, H7 Dl = some (.lst (ws.map V.str)) ∧ ws.length = j ∧ (∀ y ∈ ws, Asc y ∧ y.length = 1) ∧ DrawL H7 d lD ∧ Ext d H6 H7) ⟨[], upd_same, rfl, (fun y hy => nomatch hy), D6.new hDl, (Ext.refl d H6).new hDl⟩ ?_ ?_
            · rintro j H7 hj ⟨ws, hD7, lw, gw, D7, x7⟩
              refine ⟨rfl, ?_⟩
              unfold tYes
              dsimp only
              rw [if_pos rfl]
              refine ⟨_, rfl, _, rfl, .inr ⟨d, lD, _, rfl, D7, by rw [letters_ok.2]; decide, by rw [letters_ok.2]; decide, fun c H8 hc D8 b8 => ?_⟩⟩
              have hD8 : H8 Dl = some (.lst (ws.map V.str)) := by rw [b8 Dl nDl.1]; exact hD7
              refine ⟨_, hD8, small1000 (by rw [List.length_map]; omega), ws ++ [⟨#[c]⟩], by rw [upd_same, List.map_append]; rfl, by rw [List.length_append, lw]; rfl, fun y hy => ?_, D8.put nDl.1 nDl.2, fun b o nb e => ?_⟩
              · rcases List.mem_append.mp hy with q | q
                · exact gw y q
                · rw [List.mem_singleton.mp q]
                  exact ⟨fun c' hc' => by
                    have : c' = c := by simpa using hc'
                    rw [this]; exact letters_ok.1 c hc, rfl⟩
              · rw [upd_ne (ne_of_none e hDl)]
                exact Ext.but b8 _ _ nb (x7 _ _ nb e)
            · rintro H7 ⟨ws, hD7, lw, gw, D7, x7⟩
              have hL7 := x7 _ _ nL.1 (x6 _ _ nL.1 hL5)
              have sm : ∀ l : List Str, (∀ y ∈ l, Asc y ∧ y.length = 1) → (l.map (·.length)).sum = l.length := by
                intro l
                induction l with
                | nil => intro _; rfl
                | cons a l ih =>
                  intro h
                  rw [List.map_cons, List.sum_cons, ih (fun y hy => h y (List.mem_cons_of_mem _ hy)), (h a List.mem_cons_self).2, List.length_cons]
                  omega
              have s1 := sm ws gw
              refine ⟨"", Dl, ws, rfl, rfl, .inl (SqL.of hD7), by rw [s1, lw, show ("" : Str).length = 0 from rfl]; omega, ?_⟩
              have gj : goodW (Txt.join "" ws) := by
                rw [show Txt.join "" ws = Str.join "" ws from StrLaws.glued_eq_join "" ws]
                exact join_good ws gw (by omega)
              refine ⟨L, _, _, rfl, rfl, hL7, small1000 (by rw [List.length_map]; omega), xs ++ [Txt.join "" ws], _, _, rfl, by rw [upd_same, List.map_append]; rfl, fun z hz => ?_, by rw [List.length_append, lx]; rfl, D7.put nL.1 nL.2, ?_⟩
              · rcases List.mem_append.mp hz with q | q
                · exact gx z q
                · rw [List.mem_singleton.mp q]; exact gj
              · intro b o nb e
                rw [upd_ne (ne_of_none (Xb _ _ nb e) hL)]
                exact x7 _ _ nb (x6 _ _ nb (x5 _ _ nb e))
          · rintro σ H5 ⟨xs, v5, v6, rfl, hL5, gx, lx, D5, x5⟩
            exact ⟨L, xs, _, _, _, rfl, hL5, gx, by omega, by omega, nL.1, D5, x5⟩
        | false =>
          obtain ⟨a, b, rfl⟩ : ∃ a b, ys = [a, b] := match ys, ly with | [a, b], _ => ⟨a, b, rfl⟩
          have sh := sh_two a (pm.mem_iff.mp (by simp)) b (pm.mem_iff.mp (by simp))
          refine iteF ⟨_, rfl, Nat.zero_le _, fun e he => ?_⟩
          have oe : (upd H2 e (.lst [])) q = some (.lst [.str a, .str b]) := by rw [upd_ne (ne_of_none oq he)]; exact oq
          refine ⟨.list [.str a, .str b], .list [], .lst (SqL.of oe) (.cons (.str _) (.cons (.str _) .nil)), .lst (SqL.of upd_same) .nil, sh.1, rfl, _, rfl, ?_⟩
          rw [sh.2]
          refine iteF ⟨_, rfl, d, lD, 10, rfl, D2.new he, by decide, by decide, fun r H3 r0 r1 D3 b3 => ⟨rfl, _, rfl, ?_⟩⟩
          have x3 := (x2.new he).trans (Ext.but b3)
          generalize decide (V.int r = V.int 0) = b0
          cases b0 with
          | true =>
            have Db := D3
            have Xb := x3
            refine iteT ?_
            refine ⟨(by show 13 ≤ sizeLine; decide), fun L hL => ?_⟩
            have nL := Db.ne hL
            refine ⟨2, rfl, by decide, by decide, ?_⟩
            refine for_range0 (n := 2) (fun i σ H5 => ∃ (xs : List Str) (v5 v6 : Option V), σ = [some (.ref d), some (.ref kp), some (.bl false), some (.ref L), some (.str "abcdefghijklmnopqrstuvwxyz"), v5, v6] ∧ H5 L = some (.lst (xs.map V.str)) ∧ (∀ z ∈ xs, goodW z) ∧ xs.length = 13 + i ∧ DrawL H5 d lD ∧ Ext d H H5) ⟨l13, none, none, rfl, upd_same, g13, rfl, Db.new hL, Xb.new hL⟩ ?_ ?_
            · rintro i σ H5 hi ⟨xs, v5, v6, rfl, hL5, gx, lx, D5, x5⟩
              refine ⟨_, rfl, .inl ⟨rfl, _, SqL.of hL5⟩, ⟨"", rfl⟩, ?_⟩
              refine ⟨_, rfl, d, lD, 8, rfl, D5, by decide, by decide, fun r H6 r0 r1 D6 b6 => ?_⟩
              have x6 := Ext.but b6
              obtain ⟨m, rfl⟩ := Int.eq_ofNat_of_zero_le r0
              refine ⟨_, _, rfl, rfl, ((1 : Int) + (m : Nat)), rfl, by omega, by omega, fun Dl hDl => ?_⟩
              rw [show ((1 : Int) + (m : Nat)).toNat = 1 + m by omega]
              have nDl := D6.ne hDl
              refine lc_range (lo := 0) (n := 1 + m) (fun j H7 => ∃ ws : List Str, H7 Dl = some (.lst (ws.map V.str)) ∧ ws.length = j ∧ (∀ y ∈ ws, Asc y ∧ y.length = 1) ∧ DrawL H7 d lD ∧ Ext d H6 H7) ⟨[], upd_same, rfl, (fun y hy => nomatch hy), D6.new hDl, (Ext.refl d H6).new hDl⟩ ?_ ?_
              · rintro j H7 hj ⟨ws, hD7, lw, gw, D7, x7⟩
                refine ⟨rfl, ?_⟩
                unfold tYes
                dsimp only
                rw [if_pos rfl]
                refine ⟨_, rfl, _, rfl, .inr ⟨d, lD, _, rfl, D7, by rw [letters_ok.2]; decide, by rw [letters_ok.2]; decide, fun c H8 hc D8 b8 => ?_⟩⟩
                have hD8 : H8 Dl = some (.lst (ws.map V.str)) := by rw [b8 Dl nDl.1]; exact hD7
                refine ⟨_, hD8, small1000 (by rw [List.length_map]; omega), ws ++ [⟨#[c]⟩], by rw [upd_same, List.map_append]; rfl, by rw [List.length_append, lw]; rfl, fun y hy => ?_, D8.put nDl.1 nDl.2, fun b o nb e => ?_⟩
                · rcases List.mem_append.mp hy with q | q
                  · exact gw y q
                  · rw [List.mem_singleton.mp q]
                    exact ⟨fun c' hc' => by
                      have : c' = c := by simpa using hc'
                      rw [this]; exact letters_ok.1 c hc, rfl⟩
                · rw [upd_ne (ne_of_none e hDl)]
                  exact Ext.but b8 _ _ nb (x7 _ _ nb e)
              · rintro H7 ⟨ws, hD7, lw, gw, D7, x7⟩
                have hL7 := x7 _ _ nL.1 (x6 _ _ nL.1 hL5)
                have sm : ∀ l : List Str, (∀ y ∈ l, Asc y ∧ y.length = 1) → (l.map (·.length)).sum = l.length := by
                  intro l
                  induction l with
                  | nil => intro _; rfl
                  | cons a l ih =>
                    intro h
                    rw [List.map_cons, List.sum_cons, ih (fun y hy => h y (List.mem_cons_of_mem _ hy)), (h a List.mem_cons_self).2, List.length_cons]
                    omega
                have s1 := sm ws gw
                refine ⟨"", Dl, ws, rfl, rfl, .inl (SqL.of hD7), by rw [s1, lw, show ("" : Str).length = 0 from rfl]; omega, ?_⟩
                have gj : goodW (Txt.join "" ws) := by
                  rw [show Txt.join "" ws = Str.join "" ws from StrLaws.glued_eq_join "" ws]
                  exact join_good ws gw (by omega)
                refine ⟨L, _, _, rfl, rfl, hL7, small1000 (by rw [List.length_map]; omega), xs ++ [Txt.join "" ws], _, _, rfl, by rw [upd_same, List.map_append]; rfl, fun z hz => ?_, by rw [List.length_append, lx]; rfl, D7.put nL.1 nL.2, ?_⟩
                · rcases List.mem_append.mp hz with q | q
                  · exact gx z q
                  · rw [List.mem_singleton.mp q]; exact gj
                · intro b o nb e
                  rw [upd_ne (ne_of_none (Xb _ _ nb e) hL)]
                  exact x7 _ _ nb (x6 _ _ nb (x5 _ _ nb e))
            · rintro σ H5 ⟨xs, v5, v6, rfl, hL5, gx, lx, D5, x5⟩
              exact ⟨L, xs, _, _, _, rfl, hL5, gx, by omega, by omega, nL.1, D5, x5⟩
          | false =>
            refine iteF ⟨q, [a, b], _, _, _, rfl, ?_, gy, by simp, by simp, nq.1, D3, x3⟩
            rw [b3 q nq.1]
            exact oe
      · rintro σ3 H3 ⟨L, xs, v4, v5, v6, rfl, hL, gx, l1, l2, nL, D3, x3⟩
        refine ⟨_, rfl, _, rfl, .inl ⟨d, lD, L, _, rfl, D3, SqL.of hL, nL, by rw [List.length_map]; omega, by rw [List.length_map]; omega, fun x H4 mx D4 b4 => ?_⟩⟩
        obtain ⟨z, hz, rfl⟩ := List.mem_map.mp mx
        exact k z H4 (gx z hz) D4 (x3.trans (Ext.but b4))

end
end Toy

end
section
set_option maxHeartbeats 4000000
namespace Toy
open PySem L2
section
variable {P : Program} {w : World} {K : PySem.W.Frag} {mg : Str → Option Value} {base : Heap}
/-! ### a line that is drawn -/
abbrev nmDr : List Str := ["_law_draw", "_law_name", "_law_words", "_law_sign", "_law_number", "_law_word"]
theorem scDr : FnScope nmDr ["_law_draw"] (defScope s__law_drawn_line) := ⟨rfl, rfl, rfl, by decide +kernel, rfl, by decide +kernel, by decide +kernel⟩
def spDr : Sp := fun vs H Q _ => ∃ (d lD : Addr), vs = [.ref d] ∧ DrawL H d lD ∧ ∀ (z : Str) (H' : Hp), Asc z → z.length ≤ 60 → DrawL H' d lD → Ext d H H' → Q (.str z) H'
def wtS (xs : List Str) : Nat := (xs.map (·.length)).sum + xs.length
theorem sapp_len (a b : Str) : (a ++ b).length = a.length + b.length := by show (a.cps ++ b.cps).size = _; exact Array.size_append
theorem join_asc : ∀ xs : List Str, (∀ y ∈ xs, Asc y) → Asc (Str.join " " xs) ∧ (Str.join " " xs).length ≤ wtS xs := by
  intro ws
  induction ws with
  | nil => intro _; exact ⟨(fun c h => nomatch (show c ∈ ([] : List Nat) from h)), Nat.zero_le _⟩
  | cons a ws ih =>
    intro h
    have ha := h a List.mem_cons_self
    cases ws with
    | nil => exact ⟨ha, by show a.length ≤ _; unfold wtS; simp⟩
    | cons b ws =>
      obtain ⟨q1, q2⟩ := ih (fun y hy => h y (List.mem_cons_of_mem _ hy))
      have e : Str.join " " (a :: b :: ws) = a ++ " " ++ Str.join " " (b :: ws) := rfl
      rw [e]
      refine ⟨asc_add (asc_add ha (by decide)) q1, ?_⟩
      rw [sapp_len, sapp_len, show (" " : Str).length = 1 from by decide]
      unfold wtS at q2 ⊢
      rw [List.map_cons, List.sum_cons, List.length_cons]
      omega
theorem wt_bd : ∀ xs : List Str, (∀ y ∈ xs, y.length ≤ 9) → wtS xs ≤ 10 * xs.length := by
  intro xs
  induction xs with
  | nil => intro _; exact Nat.le_refl _
  | cons a xs ih =>
    intro h
    have := ih (fun y hy => h y (List.mem_cons_of_mem _ hy))
    have := h a List.mem_cons_self
    unfold wtS at *
    rw [List.map_cons, List.sum_cons, List.length_cons]
    omega
theorem gfm : ∀ z ∈ fmA.map (·.1), goodW z := by decide +kernel
theorem num_good {r : Int} (r0 : 0 ≤ r) (r1 : r < 1000) : goodW (toString r : Str) ∧ r.natAbs.log2 < 1920 := by
  obtain ⟨m, rfl⟩ := Int.eq_ofNat_of_zero_le r0
  obtain ⟨a, b⟩ := asc_nat m (by omega)
  exact ⟨⟨a, by omega⟩, Nat.lt_trans (log_small (by omega)) (by decide)⟩
theorem ok_dr {f : Addr} {fd : FuncData} (F : Fun K "_law_drawn_line" "_law_drawn_line" s__law_drawn_line f fd) (gFo : Ok P w K mg base 1 "_law_forms" [] spFo) (gTk : Ok P w K mg base 1 "_law_take" ["_law_draw", "_law_many"] spTakeL) (gOf : Ok P w K mg base 2 "_law_of" ["_law_draw", "_law_some"] (spOf2 K))
    (gSn : Ok P w K mg base 3 "_law_some_name" ["_law_draw", "_law_kept", "_law_fresh"] spSn) (T : Blt mg) (Ts : mg "sorted" = none) : FnOk P w K mg base CX0 4 f fd ["_law_draw"] spDr := by
  refine F.ok scDr (fun vs H Q E h => ?_) (fun cdv A outer s H vs Q E hr h => ?_)
  · obtain ⟨d, lD, rfl, _⟩ := h
    rfl
  · obtain ⟨d, lD, rfl, Dr, k⟩ := h
    have nd := scDr.nd
    have hu1 : (cxOf CX0 P w K mg base nmDr "_law_drawn_line" (defScope s__law_drawn_line) f cdv A outer s H E).A.units + 1 < cLine := by
      have := hr.un
      show (A.deeper _).units + 1 < cLine
      omega
    refine ⟨_, (pss_cons (ps_set (i := 1) nd rfl (Or.inl rfl) (pe_ok gOf hr (by rfl) (pa_cons (pv 0) (pa_cons (pe_callB (by exact cr_sortedSA) (by rfl) Ts (by decide +kernel) (pa_cons (pe_callTy (call_listDS rfl) (by rfl) T.list boot_list (pa_cons (pe_ok0 gFo hr (by rfl)) pa_nil)) pa_nil)) pa_nil))))
      (pss_cons (ps_set (i := 2) nd rfl (Or.inl rfl) (pe_lst (pa_cons (pv 1) pa_nil)))
      (pss_cons (ps_for PassesOwn.never rfl (pi_str (pe_dget hu1 (pe_ok0 gFo hr (by rfl)) (pv 1) (fun _ _ => rfl))) (pg_name (i := 3) nd rfl (Or.inl rfl))
        (pss_cons (ps_set (i := 4) nd rfl (Or.inl rfl) (pe_callTy call_str_int (by rfl) T.str boot_str (pa_cons (pe_ok gTk hr (by rfl) (pa_cons (pv 0) (pa_cons (pe_ok gOf hr (by rfl) (pa_cons (pv 0) (pa_cons (pe_lst (pa_cons pe_int (pa_cons pe_int (pa_cons pe_int (pa_cons pe_int pa_nil))))) pa_nil))) pa_nil))) pa_nil)))
        (pss_cons (ps_set (i := 5) nd rfl (Or.inl rfl) (pe_ok gSn hr (by rfl) (pa_cons (pv 0) (pa_cons (pe_disp (pps_cons pe_str pe_int (pps_cons pe_str pe_int pps_nil)) (by rfl) (by rfl) (by simp) (by decide)) (pa_cons (pe_cmpR op_eq (pe_ok gTk hr (by rfl) (pa_cons (pv 0) (pa_cons pe_int pa_nil))) pe_int (nomark _)) pa_nil)))))
        (pss_one (ps_expr (pe_bm PySem.F.plainAttrs_list PySem.F.slot_list_append PySem.F.type_list_append mt_append (pv 2) (pa_cons (pe_ifExp (pt_cmpR op_eq (pv 3) pe_str (nomark _)) (pv 5) (pe_ifExp (pt_cmpR op_eq (pv 3) pe_str (nomark _)) (pe_ok gOf hr (by rfl) (pa_cons (pv 0) (pa_cons (pe_lst (pa_cons (pv 4) (pa_cons (pv 4) (pa_cons pe_str pa_nil)))) pa_nil))) (pv 4))) pa_nil)))))))
      (pss_one (ps_ret (pe_join pe_str (pv 2))))))), ?_⟩
    refine ⟨_, rfl, rfl, fun D H1 s1 oD => ?_⟩
    have D1 := Dr.keep s1
    have x1 := Ext.same (d := d) s1
    refine ⟨D, fmG, fmA.map (·.1), rfl, .inl oD, by decide +kernel, fun p hp => ?_⟩
    refine ⟨p, _, rfl, SqL.of upd_same, fun ys q pm srt hq => ?_⟩
    have nq := (D1.new (o := .lst ((fmA.map (·.1)).map V.str)) hp).ne hq
    have lys : ys.length = 11 := pm.length_eq
    refine .inl ⟨d, lD, q, _, rfl, (D1.new hp).new hq, SqL.of upd_same, nq.1, by rw [List.length_map]; omega, by rw [List.length_map]; omega, fun x H2 mx D2 b2 => ?_⟩
    have x2 := ((x1.new hp).new hq).trans (Ext.but b2)
    obtain ⟨n, hn, rfl⟩ := List.mem_map.mp mx
    have mn := pm.mem_iff.mp hn
    refine ⟨_, rfl, (by show 1 ≤ sizeLine; decide), fun W hW => ?_⟩
    have D3 := D2.new (o := .lst [.str n]) hW
    have x3 := x2.new (o := .lst [.str n]) hW
    have nW := D2.ne hW
    have oW : (upd H2 W (.lst [.str n])) W = some (.lst [.str n]) := upd_same
    generalize upd H2 W (.lst [.str n]) = H3 at D3 x3 oW
    refine ⟨rfl, fun D' H4 s4 oD' => ?_⟩
    have D4 := D3.keep s4
    have x4 := x3.trans (Ext.same s4)
    rcases form_of n with ⟨e1, _⟩ | ⟨fm, sh, e1, e2, f0, f1, f4, f5, f6, f7⟩
    · have q := (by decide +kernel : ∀ m ∈ fmA.map (·.1), (fmA.lookup m).isSome = true) n mn
      rw [e1] at q
      cases q
    · have g : DGet H4 D' (.str n) (some (.str fm)) := by
        have q := DGet.k (k := .inr n) oD'
        rw [show valV fmG (.inr n) = (fmA.lookup n).map V.str from valV_map n fmA, e1] at q
        exact q
      refine ⟨_, rfl, D', _, rfl, g, fm, rfl, ?_⟩
      refine for_it (n := fm.length) (fun i σ H5 => ∃ (xs : List Str) (v3 v4 v5 : Option V), σ = [some (.ref d), some (.str n), some (.ref W), v3, v4, v5] ∧ H5 W = some (.lst (xs.map V.str)) ∧ (∀ z ∈ xs, goodW z) ∧ xs.length = 1 + i ∧ DrawL H5 d lD ∧ Ext d H H5) ⟨[n], none, none, none, rfl, s4 _ _ oW, fun z hz => by rw [List.mem_singleton.mp hz]; exact gfm n mn, rfl, D4, x4⟩ ?_ ?_
      · rintro i σ H5 hi ⟨xs, v3, v4, v5, rfl, hW5, gx, lx, D5, x5⟩
        refine ⟨hi, ?_⟩
        rintro x H6 ⟨rfl, c, hc, rfl⟩
        refine ⟨_, rfl, _, rfl, (by show 4 ≤ sizeLine; decide), fun l hl => .inl ⟨d, lD, l, _, rfl, D5.new hl, SqL.of upd_same, (D5.ne hl).1, by decide, by decide, fun x H7 mx D7 b7 => ?_⟩⟩
        have x67 := ((Ext.refl d H6).new (o := .lst [.int 10, .int 100, .int 100, .int 1000]) hl).trans (Ext.but b7)
        obtain ⟨r, rfl, r0, r1, rl⟩ : ∃ r : Int, x = .int r ∧ 0 < r ∧ r ≤ 1000 ∧ r.natAbs.log2 < 1000 := by
          simp only [List.mem_cons, List.not_mem_nil, or_false] at mx
          rcases mx with rfl | rfl | rfl | rfl <;> exact ⟨_, rfl, by decide, by decide, by decide⟩
        refine ⟨d, lD, r, rfl, D7, r0, rl, fun r' H8 r0' r1' D8 b8 => ?_⟩
        have x68 := x67.trans (Ext.but b8)
        obtain ⟨gn, nl⟩ := num_good r0' (by omega)
        refine ⟨r', rfl, nl, ?_⟩
        generalize (toString r' : Str) = num at gn
        refine ⟨_, rfl, fun kp hkp => ⟨upd_same, kx, rfl, by decide, ?_⟩⟩
        have nkp := D8.ne hkp
        have D9 : DrawL (upd (upd H8 kp (.dK [])) kp (.dK (mergeK [] kx))) d lD := (D8.new hkp).put nkp.1 nkp.2
        have x69 : Ext d H6 (upd (upd H8 kp (.dK [])) kp (.dK (mergeK [] kx))) := fun b o nb e => by
          have q := x68 b o nb e
          rw [upd_ne (ne_of_none q hkp), upd_ne (ne_of_none q hkp)]
          exact q
        have ok9 : (upd (upd H8 kp (.dK [])) kp (.dK (mergeK [] kx))) kp = some (.dK kx) := by rw [upd_same]; exact congrArg (fun q => some (HO.dK q)) (by decide +kernel : mergeK [] kx = kx)
        generalize upd (upd H8 kp (.dK [])) kp (.dK (mergeK [] kx)) = H9 at D9 x69 ok9
        refine ⟨_, rfl, d, lD, 2, rfl, D9, by decide, by decide, fun r2 H10 _ _ D10 b10 => ⟨rfl, ?_⟩⟩
        refine ⟨d, lD, kp, _, rfl, D10, nkp.1, by rw [b10 kp nkp.1]; exact ok9, fun y H11 gy D11 x11 => ?_⟩
        have x611 := (x69.trans (Ext.but b10)).trans x11
        have hW11 := x611 _ _ nW.1 hW5
        refine ⟨_, rfl, .inl ⟨rfl, _, SqL.of hW11⟩, ?_⟩
        have fin : ∀ (a : Str) (H12 : Hp), goodW a → DrawL H12 d lD → Ext d H11 H12 → H12 W = some (.lst (xs.map V.str)) ∧ ∃ (xs' : List Str) (v3 v4 v5 : Option V), [some (.ref d), some (.str n), some (.ref W), some (.str ⟨#[c]⟩), some (.str num), some (.str y)] = [some (.ref d), some (.str n), some (.ref W), v3, v4, v5] ∧ (upd H12 W (.lst (xs.map V.str ++ [.str a]))) W = some (.lst (xs'.map V.str)) ∧ (∀ z ∈ xs', goodW z) ∧ xs'.length = 1 + (i + 1) ∧ DrawL (upd H12 W (.lst (xs.map V.str ++ [.str a]))) d lD ∧ Ext d H (upd H12 W (.lst (xs.map V.str ++ [.str a]))) := fun a H12 ga D12 x12 => by
          have h12 := x12 _ _ nW.1 hW11
          refine ⟨h12, xs ++ [a], _, _, _, rfl, by rw [upd_same, List.map_append]; rfl, fun z hz => ?_, by rw [List.length_append, lx]; rfl, D12.put nW.1 nW.2, fun b o nb e => ?_⟩
          · rcases List.mem_append.mp hz with q | q
            · exact gx z q
            · rw [List.mem_singleton.mp q]; exact ga
          · rw [upd_ne (ne_of_none (x2 _ _ nb e) hW)]
            exact x12 _ _ nb (x611 _ _ nb (x5 _ _ nb e))
        refine ⟨_, rfl, rfl, _, rfl, ?_⟩
        generalize decide (V.str ⟨#[c]⟩ = V.str "w") = bw
        cases bw with
        | true =>
          obtain ⟨h1, h2⟩ := fin y H11 gy D11 (Ext.refl d H11)
          exact iteT ⟨_, rfl, W, _, _, rfl, rfl, h1, small1000 (by rw [List.length_map]; omega), h2⟩
        | false =>
          refine iteF ⟨_, rfl, rfl, _, rfl, ?_⟩
          generalize decide (V.str ⟨#[c]⟩ = V.str "o") = bo
          cases bo with
          | true =>
            refine iteT ⟨_, rfl, _, rfl, _, rfl, (by show 3 ≤ sizeLine; decide), fun l2 hl2 => .inl ⟨d, lD, l2, _, rfl, D11.new hl2, SqL.of upd_same, (D11.ne hl2).1, (by show 0 < 3; decide), (by show 3 < 1000; decide), fun x H12 mx D12 b12 => ?_⟩⟩
            obtain ⟨a, rfl, ga⟩ : ∃ a, x = .str a ∧ goodW a := by
              simp only [List.mem_cons, List.not_mem_nil, or_false] at mx
              rcases mx with rfl | rfl | rfl
              · exact ⟨_, rfl, gn⟩
              · exact ⟨_, rfl, gn⟩
              · exact ⟨_, rfl, by decide⟩
            obtain ⟨h1, h2⟩ := fin a H12 ga D12 (((Ext.refl d H11).new hl2).trans (Ext.but b12))
            exact ⟨W, _, _, rfl, rfl, h1, small1000 (by rw [List.length_map]; omega), h2⟩
          | false =>
            obtain ⟨h1, h2⟩ := fin num H11 gn D11 (Ext.refl d H11)
            exact iteF ⟨_, rfl, W, _, _, rfl, rfl, h1, small1000 (by rw [List.length_map]; omega), h2⟩
      · rintro σ H5 ⟨xs, v3, v4, v5, rfl, hW5, gx, lx, D5, x5⟩
        refine ⟨Nat.le_refl _, ⟨" ", rfl⟩, _, rfl, " ", W, xs, rfl, rfl, .inl (SqL.of hW5), ?_, ?_⟩
        · have := wt_bd xs fun y hy => (gx y hy).2
          have h1 : (" " : Str).length = 1 := by decide
          unfold wtS at this
          rw [h1]
          omega
        · rw [show Txt.join " " xs = Str.join " " xs from StrLaws.glued_eq_join " " xs]
          obtain ⟨a, b⟩ := join_asc xs fun y hy => (gx y hy).1
          have := wt_bd xs fun y hy => (gx y hy).2
          exact k _ H5 a (by omega) D5 x5

end
end Toy

end
section
set_option maxHeartbeats 4000000
namespace Toy
open PySem L2
section
variable {P : Program} {w : World} {K : PySem.W.Frag} {mg : Str → Option Value} {base : Heap}
/-! ### a line that is bent -/
def cutT {α : Type} (xs : List α) (lo hi : Option Int) : List α := (xs.drop (HT.sIx xs.length 0 lo)).take (HT.sIx xs.length xs.length hi - HT.sIx xs.length 0 lo)
theorem cutV_strs (xs : List Str) (lo hi : Option Int) : cutV (xs.map V.str) lo hi = (cutT xs lo hi).map V.str := by
  unfold cutV cutT
  rw [List.length_map, List.map_take, List.map_drop]
theorem mem_cutT {α : Type} {xs : List α} {lo hi : Option Int} {x : α} (h : x ∈ cutT xs lo hi) : x ∈ xs := List.mem_of_mem_drop (List.mem_of_mem_take h)
theorem len_cutT {α : Type} (xs : List α) (lo hi : Option Int) : (cutT xs lo hi).length ≤ xs.length := by
  unfold cutT
  rw [List.length_take, List.length_drop]
  omega
theorem wt_app (a b : List Str) : wtS (a ++ b) = wtS a + wtS b := by
  unfold wtS
  rw [List.map_append, List.sum_append, List.length_append]
  omega
theorem wt_take (xs : List Str) (k : Nat) : wtS (xs.take k) ≤ wtS xs := by
  have : wtS xs = wtS (xs.take k) + wtS (xs.drop k) := by rw [← wt_app, List.take_append_drop]
  omega
theorem wt_drop (xs : List Str) (k : Nat) : wtS (xs.drop k) ≤ wtS xs := by
  have : wtS xs = wtS (xs.take k) + wtS (xs.drop k) := by rw [← wt_app, List.take_append_drop]
  omega
theorem wt_cut (xs : List Str) (lo hi : Option Int) : wtS (cutT xs lo hi) ≤ wtS xs := Nat.le_trans (wt_take _ _) (wt_drop _ _)
theorem wt_set : ∀ (xs : List Str) (i : Nat) (y : Str), wtS (xs.set i y) ≤ wtS xs + y.length
  | [], _, _ => Nat.zero_le _
  | x :: xs, 0, y => by
    show wtS (y :: xs) ≤ _
    unfold wtS
    rw [List.map_cons, List.map_cons, List.sum_cons, List.sum_cons, List.length_cons, List.length_cons]
    omega
  | x :: xs, i + 1, y => by
    show wtS (x :: xs.set i y) ≤ _
    have := wt_set xs i y
    unfold wtS at *
    rw [List.map_cons, List.map_cons, List.sum_cons, List.sum_cons, List.length_cons, List.length_cons]
    omega
theorem wt_mem {xs : List Str} {y : Str} (h : y ∈ xs) : y.length + 1 ≤ wtS xs := by
  induction xs with
  | nil => cases h
  | cons x xs ih =>
    unfold wtS at *
    rw [List.map_cons, List.sum_cons, List.length_cons]
    rcases List.mem_cons.mp h with rfl | h
    · omega
    · have := ih h; omega
theorem wt_split (z : Str) : wtS (Txt.split z " ") ≤ z.length + 1 := PyProof.Rows.split_weight z " " (by decide)
theorem asc_cut {z : Str} (h : Asc z) (lo hi : Option Int) : Asc (cutS z lo hi) := fun c hc => by
  have hc : c ∈ (z.cps.toList.drop (HT.sIx z.length 0 lo)).take (HT.sIx z.length z.length hi - HT.sIx z.length 0 lo) := by simpa [cutS] using hc
  exact h c (List.mem_of_mem_drop (List.mem_of_mem_take hc))
theorem cutS_to {z : Str} {k : Nat} (h : k ≤ z.length) : (cutS z none (some ((k : Nat) : Int))).length = k := by
  show ((z.cps.toList.drop (HT.sIx z.length 0 none)).take (HT.sIx z.length z.length (some ((k : Nat) : Int)) - HT.sIx z.length 0 none)).toArray.size = k
  rw [HT.sIx_none, HT.sIx_nat, Nat.min_eq_left h]
  simp
  exact Nat.min_eq_left h
theorem cutS_from (z : Str) (k : Nat) : (cutS z (some ((k : Nat) : Int)) none).length ≤ z.length - k := by
  show ((z.cps.toList.drop (HT.sIx z.length 0 (some ((k : Nat) : Int)))).take (HT.sIx z.length z.length none - HT.sIx z.length 0 (some ((k : Nat) : Int)))).toArray.size ≤ _
  rw [HT.sIx_none, HT.sIx_nat]
  simp
  omega
theorem ixN_nat {n j : Nat} (h : j < n) : ixN n ((j : Nat) : Int) = some j := by
  have q := (ixN_seq (n := n) (i := ((j : Nat) : Int)) (j := j))
  unfold ixN
  rw [if_pos (by omega), if_pos (by omega), Int.toNat_natCast]
def l12 : List Str := ["-", "00", "07", "7", "99", "100", "+1", "cut", "undo", "Cut", "1.0", "-1"]
def l7b : List Str := [" ", "0", "9", "-", "x", "!", "~"]
theorem g12 : ∀ z ∈ l12, Asc z ∧ z.length ≤ 4 := by decide +kernel
theorem g7b : ∀ z ∈ l7b, Asc z ∧ z.length ≤ 1 := by decide +kernel
abbrev nmBl : List Str := ["_law_draw", "_law_line", "_law_words", "_law_at", "_law_to", "_law_fork", "_law_spot"]
theorem scBl : FnScope nmBl ["_law_draw", "_law_line"] (defScope s__law_bent_line) := ⟨rfl, rfl, rfl, by decide +kernel, rfl, by decide +kernel, by decide +kernel⟩
def spBl : Sp := fun vs H Q _ => ∃ (d lD : Addr) (z : Str) (m : Nat), vs = [.ref d, .str z] ∧ DrawL H d lD ∧ Asc z ∧ z.length ≤ m ∧ m ≤ 200 ∧ ∀ (y : Str) (H' : Hp), Asc y → y.length ≤ 3 * m + 20 → DrawL H' d lD → Ext d H H' → Q (.str y) H'
def BlP (d lD : Addr) (z : Str) (a b : Nat) (fk : Int) (ws : List Str) (m : Nat) (H : Hp) (n : Int) (σ : St) (H' : Hp) : Prop := ∃ (L : Addr) (xs : List Str), σ = [some (.ref d), some (.str z), some (.ref L), some (.int ((a : Nat) : Int)), some (.int ((b : Nat) : Int)), some (.int fk), none] ∧ H' L = some (.lst (xs.map V.str)) ∧ (∀ y ∈ xs, Asc y) ∧ wtS xs ≤ 3 * m + 6 ∧ xs.length ≤ 900 ∧ L ≠ d ∧ L ≠ lD ∧ DrawL H' d lD ∧ Ext d H H' ∧ (fk < n ∨ xs = ws) ∧ H L = none
theorem ext_none {d b : Addr} {H H' : Hp} (x : Ext d H H') (n : b ≠ d) (h : H' b = none) : H b = none := by
  cases e : H b with
  | none => rfl
  | some o => rw [x b o n e] at h; cases h
theorem ok_bl {f : Addr} {fd : FuncData} (F : Fun K "_law_bent_line" "_law_bent_line" s__law_bent_line f fd) (gTk : Ok P w K mg base 1 "_law_take" ["_law_draw", "_law_many"] spTakeL) (gOf : Ok P w K mg base 2 "_law_of" ["_law_draw", "_law_some"] (spOf2 K)) (T : Blt mg) : FnOk P w K mg base CX0 3 f fd ["_law_draw", "_law_line"] spBl := by
  refine F.ok scBl (fun vs H Q E h => ?_) (fun cdv A outer s H vs Q E hr h => ?_)
  · obtain ⟨d, lD, z, m, rfl, _⟩ := h
    rfl
  · obtain ⟨d, lD, z, m, rfl, Dr, hz, hl, hm, k⟩ := h
    have nd := scBl.nd
    refine ⟨_, (pss_cons (ps_set (i := 2) nd rfl (Or.inl rfl) (pe_split (pv 1) pe_str))
      (pss_cons (ps_par (i := 3) (j := 4) (by rfl) nd rfl rfl (by decide) rfl rfl (pa_cons (pe_ok gTk hr (by rfl) (pa_cons (pv 0) (pa_cons (pe_callB call_len_seq (by rfl) T.len PySem.boot_len (pa_cons (pv 2) pa_nil)) pa_nil))) (pa_cons (pe_ok gTk hr (by rfl) (pa_cons (pv 0) (pa_cons (pe_callB call_len_seq (by rfl) T.len PySem.boot_len (pa_cons (pv 2) pa_nil)) pa_nil))) pa_nil)) (by rfl))
      (pss_cons (ps_set (i := 5) nd rfl (Or.inl rfl) (pe_ok gTk hr (by rfl) (pa_cons (pv 0) (pa_cons pe_int pa_nil))))
      (pss_cut (ps_if (pt_cmpR op_eq (pv 5) pe_int (nomark _)) (pss_one (ps_set (i := 2) nd rfl (Or.inl rfl) (pe_op op_cat (pe_slice sl_list (pv 2) po_none (po_some (pv 3))) (pe_slice sl_list (pv 2) (po_some (pe_op op_add (pv 3) pe_int)) po_none)))) pss_nil)
      (pss_cut (ps_if (pt_cmpR op_eq (pv 5) pe_int (nomark _)) (pss_one (ps_set (i := 2) nd rfl (Or.inl rfl) (pe_op op_cat (pe_op op_cat (pe_slice sl_list (pv 2) po_none (po_some (pv 3))) (pe_lst (pa_cons (pe_ix ix_list (pv 2) (pv 4) (fun _ _ => rfl)) pa_nil))) (pe_slice sl_list (pv 2) (po_some (pv 3)) po_none)))) pss_nil)
      (pss_cut (ps_if (pt_cmpR op_eq (pv 5) pe_int (nomark _)) (pss_one (ps_asg (pe_tup (pa_cons (pe_ix ix_list (pv 2) (pv 4) (fun _ _ => rfl)) (pa_cons (pe_ix ix_list (pv 2) (pv 3) (fun _ _ => rfl)) pa_nil))) (pg_tup (by rfl) (pgs_cons (pg_sub (pv 2) (pv 3) set_list) (pgs_cons (pg_sub (pv 2) (pv 4) set_list) pgs_nil))))) pss_nil)
      (pss_cut (ps_if (pt_cmpR op_eq (pv 5) pe_int (nomark _)) (pss_one (ps_asg (pe_ok gOf hr (by rfl) (pa_cons (pv 0) (pa_cons (pe_lst (pa_cons pe_str (pa_cons pe_str (pa_cons pe_str (pa_cons pe_str (pa_cons pe_str (pa_cons pe_str (pa_cons pe_str (pa_cons pe_str (pa_cons pe_str (pa_cons pe_str (pa_cons pe_str (pa_cons pe_str pa_nil))))))))))))) pa_nil))) (pg_sub (pv 2) (pv 3) set_list))) pss_nil)
      (pss_cons (ps_set (i := 1) nd rfl (Or.inl rfl) (pe_join pe_str (pv 2)))
      (pss_cons (ps_set (i := 6) nd rfl (Or.inl rfl) (pe_ok gTk hr (by rfl) (pa_cons (pv 0) (pa_cons (pe_op op_add (pe_callB call_len_str (by rfl) T.len PySem.boot_len (pa_cons (pv 1) pa_nil)) pe_int) pa_nil))))
      (pss_cons (ps_if (pt_cmpR op_eq (pv 5) pe_int (nomark _)) (pss_one (ps_ret (pe_op op_add_str (pe_op op_add_str (pe_slice sl_str (pv 1) po_none (po_some (pv 6))) (pe_ok gOf hr (by rfl) (pa_cons (pv 0) (pa_cons (pe_lst (pa_cons pe_str (pa_cons pe_str (pa_cons pe_str (pa_cons pe_str (pa_cons pe_str (pa_cons pe_str (pa_cons pe_str pa_nil)))))))) pa_nil)))) (pe_slice sl_str (pv 1) (po_some (pv 6)) po_none)))) pss_nil)
      (pss_one (ps_ret (pe_ifExp (pt_cmpR op_eq (pv 5) pe_int (nomark _)) (pe_op op_add_str (pe_slice sl_str (pv 1) po_none (po_some (pv 6))) (pe_slice sl_str (pv 1) (po_some (pe_op op_add (pv 6) pe_int)) po_none)) (pv 1)))))))))))))), ?_⟩
    refine ⟨_, rfl, ⟨z, rfl⟩, z, " ", rfl, rfl, by decide, Nat.le_trans (by omega : z.length + 2 ≤ 1002) (by decide), fun p hp => ?_⟩
    have D1 := Dr.new (o := .lst ((Txt.split z " ").map V.str)) hp
    have x1 := (Ext.refl d H).new (o := .lst ((Txt.split z " ").map V.str)) hp
    have np := Dr.ne hp
    have op : (upd H p (.lst ((Txt.split z " ").map V.str))) p = some (.lst ((Txt.split z " ").map V.str)) := upd_same
    generalize upd H p (.lst ((Txt.split z " ").map V.str)) = H1 at D1 x1 op
    have aw : ∀ y ∈ Txt.split z " ", Asc y := asc_split hz
    have ww := wt_split z
    have l0 : 0 < (Txt.split z " ").length := by
      obtain ⟨a, b, e⟩ := split_ne z " "
      rw [e, List.length_cons]; omega
    have l1 := split_len z
    generalize Txt.split z " " = ws at op aw ww l0 l1
    refine ⟨_, rfl, _, rfl, p, _, rfl, .inl (SqL.of op), d, lD, _, rfl, D1, by rw [List.length_map]; omega, by rw [List.length_map]; exact log_small (by omega), fun r H2 r0 r1 D2 b2 => ?_⟩
    have op2 : H2 p = some (.lst (ws.map V.str)) := by rw [b2 p np.1]; exact op
    refine ⟨_, rfl, _, rfl, p, _, rfl, .inl (SqL.of op2), d, lD, _, rfl, D2, by rw [List.length_map]; omega, by rw [List.length_map]; exact log_small (by omega), fun t H3 t0 t1 D3 b3 => ?_⟩
    have op3 : H3 p = some (.lst (ws.map V.str)) := by rw [b3 p np.1]; exact op2
    rw [List.length_map] at r1 t1
    obtain ⟨a, rfl⟩ := Int.eq_ofNat_of_zero_le r0
    obtain ⟨b, rfl⟩ := Int.eq_ofNat_of_zero_le t0
    refine ⟨_, _, rfl, ?_⟩
    refine ⟨_, rfl, d, lD, 7, rfl, D3, by decide, by decide, fun fk H4 _ _ D4 b4 => ?_⟩
    have op4 : H4 p = some (.lst (ws.map V.str)) := by rw [b4 p np.1]; exact op3
    have x4 := ((x1.trans (Ext.but b2)).trans (Ext.but b3)).trans (Ext.but b4)
    refine ⟨BlP d lD z a b fk ws m H 1, ?_, ?_⟩
    · refine ⟨_, rfl, rfl, _, rfl, ?_⟩
      rw [dec_int]
      by_cases hf : fk = 0
      · rw [show (fk == 0) = true from beq_iff_eq.mpr hf]
        refine iteT ⟨_, rfl, _, rfl, _, rfl, p, _, rfl, SqL.of op4, fun q hq => ?_⟩
        rw [cutV_strs]
        have oq : (upd H4 q (.lst ((cutT ws none (some ((a : Nat) : Int))).map V.str))) q = some (.lst ((cutT ws none (some ((a : Nat) : Int))).map V.str)) := upd_same
        have x5 := x4.new (o := .lst ((cutT ws none (some ((a : Nat) : Int))).map V.str)) hq
        have D5 := D4.new (o := .lst ((cutT ws none (some ((a : Nat) : Int))).map V.str)) hq
        have op5 : (upd H4 q (.lst ((cutT ws none (some ((a : Nat) : Int))).map V.str))) p = some (.lst (ws.map V.str)) := by rw [upd_ne (ne_of_none op4 hq)]; exact op4
        generalize upd H4 q (.lst ((cutT ws none (some ((a : Nat) : Int))).map V.str)) = H5 at oq x5 D5 op5
        refine ⟨_, rfl, _, rfl, _, _, rfl, rfl, _, rfl, p, _, rfl, SqL.of op5, fun q2 hq2 => ?_⟩
        rw [cutV_strs]
        have oq2 : (upd H5 q2 (.lst ((cutT ws (some (((a : Nat) : Int) + 1)) none).map V.str))) q = some (.lst ((cutT ws none (some ((a : Nat) : Int))).map V.str)) := by rw [upd_ne (ne_of_none oq hq2)]; exact oq
        refine ⟨q, q2, _, _, rfl, rfl, oq2, upd_same, ?_, fun l hl => ?_⟩
        · rw [List.length_map, List.length_map]
          have := len_cutT ws none (some ((a : Nat) : Int))
          have := len_cutT ws (some (((a : Nat) : Int) + 1)) none
          exact Nat.le_of_lt (small1000 (by omega))
        · have n1 := (D5.new (o := .lst ((cutT ws (some (((a : Nat) : Int) + 1)) none).map V.str)) hq2).ne hl
          refine ⟨l, cutT ws none (some ((a : Nat) : Int)) ++ cutT ws (some (((a : Nat) : Int) + 1)) none, rfl, by rw [upd_same, List.map_append], fun y hy => ?_, ?_, ?_, n1.1, n1.2, (D5.new hq2).new hl, (x5.new hq2).new hl, .inl (by omega), ext_none (x5.new hq2) n1.1 hl⟩
          · rcases List.mem_append.mp hy with h | h
            · exact aw y (mem_cutT h)
            · exact aw y (mem_cutT h)
          · have := wt_cut ws none (some ((a : Nat) : Int))
            have := wt_cut ws (some (((a : Nat) : Int) + 1)) none
            rw [wt_app]
            omega
          · have := len_cutT ws none (some ((a : Nat) : Int))
            have := len_cutT ws (some (((a : Nat) : Int) + 1)) none
            rw [List.length_append]
            omega
      · rw [show (fk == 0) = false from beq_false_of_ne hf]
        exact iteF ⟨p, ws, rfl, op4, aw, by omega, by omega, np.1, np.2, D4, x4, .inr rfl, hp⟩
    rintro σ5 H5 ⟨L, xs, rfl, oL, ax, wx, lx, nL1, nL2, D5, x5, hk5, hL0⟩
    refine ⟨BlP d lD z a b fk ws m H 2, ?_, ?_⟩
    · refine ⟨_, rfl, rfl, _, rfl, ?_⟩
      rw [dec_int]
      by_cases hf : fk = 1
      · rw [show (fk == 1) = true from beq_iff_eq.mpr hf]
        obtain rfl : xs = ws := hk5.resolve_left (by omega)
        have hb : b < xs.length := by omega
        have gb : (xs.map V.str)[b]? = some (.str xs[b]) := by rw [List.getElem?_map, List.getElem?_eq_getElem hb]; rfl
        have mb : xs[b] ∈ xs := List.getElem_mem hb
        generalize xs[b] = yb at gb mb
        refine iteT ⟨_, rfl, _, rfl, _, rfl, L, _, rfl, SqL.of oL, fun q hq => ?_⟩
        rw [cutV_strs]
        generalize ec1 : cutT xs none (some ((a : Nat) : Int)) = c1
        have w1 : wtS c1 ≤ wtS xs := ec1 ▸ wt_cut xs none (some ((a : Nat) : Int))
        have m1 : ∀ y ∈ c1, Asc y := fun y hy => aw y (mem_cutT (ec1 ▸ hy))
        have len1 : c1.length ≤ xs.length := ec1 ▸ len_cutT xs none (some ((a : Nat) : Int))
        have oq : (upd H5 q (.lst (c1.map V.str))) q = some (.lst (c1.map V.str)) := upd_same
        have x6 := x5.new (o := .lst (c1.map V.str)) hq
        have D6 := D5.new (o := .lst (c1.map V.str)) hq
        have oL6 : (upd H5 q (.lst (c1.map V.str))) L = some (.lst (xs.map V.str)) := by rw [upd_ne (ne_of_none oL hq)]; exact oL
        generalize upd H5 q (.lst (c1.map V.str)) = H6 at oq x6 D6 oL6
        refine ⟨_, rfl, _, rfl, L, _, ((b : Nat) : Int), _, rfl, rfl, SqL.of oL6, atI_nat gb, (by show 1 ≤ sizeLine; decide), fun q2 hq2 => ?_⟩
        have oq2 : (upd H6 q2 (.lst [.str yb])) q = some (.lst (c1.map V.str)) := by rw [upd_ne (ne_of_none oq hq2)]; exact oq
        have x7 := x6.new (o := .lst [.str yb]) hq2
        have D7 := D6.new (o := .lst [.str yb]) hq2
        have oL7 : (upd H6 q2 (.lst [.str yb])) L = some (.lst (xs.map V.str)) := by rw [upd_ne (ne_of_none oL6 hq2)]; exact oL6
        have o22 : (upd H6 q2 (.lst [.str yb])) q2 = some (.lst [.str yb]) := upd_same
        generalize upd H6 q2 (.lst [.str yb]) = H7 at oq2 x7 D7 oL7 o22
        refine ⟨q, q2, _, _, rfl, rfl, oq2, o22, (by rw [List.length_map]; exact Nat.le_of_lt (small1000 (by show c1.length + 1 ≤ 1000; omega))), fun q3 hq3 => ?_⟩
        have x8 := x7.new (o := .lst (c1.map V.str ++ [.str yb])) hq3
        have D8 := D7.new (o := .lst (c1.map V.str ++ [.str yb])) hq3
        have o33 : (upd H7 q3 (.lst (c1.map V.str ++ [.str yb]))) q3 = some (.lst (c1.map V.str ++ [.str yb])) := upd_same
        have oL8 : (upd H7 q3 (.lst (c1.map V.str ++ [.str yb]))) L = some (.lst (xs.map V.str)) := by rw [upd_ne (ne_of_none oL7 hq3)]; exact oL7
        generalize upd H7 q3 (.lst (c1.map V.str ++ [.str yb])) = H8 at x8 D8 o33 oL8
        refine ⟨_, rfl, _, rfl, _, rfl, L, _, rfl, SqL.of oL8, fun q4 hq4 => ?_⟩
        rw [cutV_strs]
        generalize ec2 : cutT xs (some ((a : Nat) : Int)) none = c2
        have w2 : wtS c2 ≤ wtS xs := ec2 ▸ wt_cut xs (some ((a : Nat) : Int)) none
        have m2 : ∀ y ∈ c2, Asc y := fun y hy => aw y (mem_cutT (ec2 ▸ hy))
        have len2 : c2.length ≤ xs.length := ec2 ▸ len_cutT xs (some ((a : Nat) : Int)) none
        have o34 : (upd H8 q4 (.lst (c2.map V.str))) q3 = some (.lst (c1.map V.str ++ [.str yb])) := by rw [upd_ne (ne_of_none o33 hq4)]; exact o33
        refine ⟨q3, q4, _, _, rfl, rfl, o34, upd_same, (by rw [List.length_append, List.length_map, List.length_map]; exact Nat.le_of_lt (small1000 (by show c1.length + 1 + c2.length ≤ 1000; omega))), fun l hl => ?_⟩
        have n1 := (D8.new (o := .lst (c2.map V.str)) hq4).ne hl
        refine ⟨l, c1 ++ [yb] ++ c2, rfl, by rw [upd_same, List.map_append, List.map_append]; rfl, fun y hy => ?_, ?_, ?_, n1.1, n1.2, (D8.new hq4).new hl, (x8.new hq4).new hl, .inl (by omega), ext_none (x8.new hq4) n1.1 hl⟩
        · rcases List.mem_append.mp hy with h | h
          · rcases List.mem_append.mp h with h | h
            · exact m1 y h
            · rw [List.mem_singleton.mp h]; exact aw yb mb
          · exact m2 y h
        · have hlen : wtS c1 + wtS c2 ≤ wtS xs + wtS xs := by omega
          have := wt_mem mb
          rw [wt_app, wt_app]
          have : wtS [yb] = yb.length + 1 := by unfold wtS; simp
          omega
        · rw [List.length_append, List.length_append]
          show c1.length + 1 + c2.length ≤ 900
          omega
      · rw [show (fk == 1) = false from beq_false_of_ne hf]
        exact iteF ⟨L, xs, rfl, oL, ax, wx, lx, nL1, nL2, D5, x5, hk5.imp (by omega) id, hL0⟩
    rintro σ6 H6 ⟨L, xs, rfl, oL, ax, wx, lx, nL1, nL2, D5, x5, hk5, hL0⟩
    refine ⟨BlP d lD z a b fk ws m H 3, ?_, ?_⟩
    · refine ⟨_, rfl, rfl, _, rfl, ?_⟩
      rw [dec_int]
      by_cases hf : fk = 2
      · rw [show (fk == 2) = true from beq_iff_eq.mpr hf]
        obtain rfl : xs = ws := hk5.resolve_left (by omega)
        have hb : b < xs.length := by omega
        have ha : a < xs.length := by omega
        have gb : (xs.map V.str)[b]? = some (.str xs[b]) := by rw [List.getElem?_map, List.getElem?_eq_getElem hb]; rfl
        have ga : (xs.map V.str)[a]? = some (.str xs[a]) := by rw [List.getElem?_map, List.getElem?_eq_getElem ha]; rfl
        have mb : xs[b] ∈ xs := List.getElem_mem hb
        have ma : xs[a] ∈ xs := List.getElem_mem ha
        generalize xs[b] = yb at gb mb
        generalize xs[a] = ya at ga ma
        refine iteT ⟨_, rfl, _, rfl, L, _, ((b : Nat) : Int), _, rfl, rfl, SqL.of oL, atI_nat gb, _, rfl, _, rfl, L, _, ((a : Nat) : Int), _, rfl, rfl, SqL.of oL, atI_nat ga, (by show 2 ≤ sizeLine; decide), fun t ht => ?_⟩
        have ot : (upd H6 t (.tup [.str yb, .str ya])) t = some (.tup [.str yb, .str ya]) := upd_same
        have x7 := x5.new (o := .tup [.str yb, .str ya]) ht
        have D7 := D5.new (o := .tup [.str yb, .str ya]) ht
        have oL7 : (upd H6 t (.tup [.str yb, .str ya])) L = some (.lst (xs.map V.str)) := by rw [upd_ne (ne_of_none oL ht)]; exact oL
        generalize upd H6 t (.tup [.str yb, .str ya]) = H7 at ot x7 D7 oL7
        refine ⟨t, _, rfl, SqT.of ot, rfl, _, _, rfl, _, rfl, _, rfl, L, _, ((a : Nat) : Int), a, rfl, rfl, oL7, ixN_nat (by rw [List.length_map]; exact ha), _, _, rfl, _, rfl, _, rfl, L, _, ((b : Nat) : Int), b, rfl, rfl, upd_same, ixN_nat (by rw [List.length_set, List.length_map]; exact hb), rfl, ?_⟩
        refine ⟨L, (xs.set a yb).set b ya, rfl, by rw [upd_same, List.map_set, List.map_set], fun y hy => ?_, ?_, by rw [List.length_set, List.length_set]; exact lx, nL1, nL2, (D7.put nL1 nL2).put nL1 nL2, ?_, .inl (by omega), hL0⟩
        · rcases List.mem_or_eq_of_mem_set hy with h | h
          · rcases List.mem_or_eq_of_mem_set h with h | h
            · exact aw y h
            · rw [h]; exact aw yb mb
          · rw [h]; exact aw ya ma
        · have q1 := wt_set (xs.set a yb) b ya
          have q2 := wt_set xs a yb
          have := wt_mem mb
          have := wt_mem ma
          omega
        · intro b' o nb e
          have nL : b' ≠ L := fun zz => by rw [zz, hL0] at e; cases e
          rw [upd_ne nL, upd_ne nL]
          exact x7 b' o nb e
      · rw [show (fk == 2) = false from beq_false_of_ne hf]
        exact iteF ⟨L, xs, rfl, oL, ax, wx, lx, nL1, nL2, D5, x5, hk5.imp (by omega) id, hL0⟩
    rintro σ7 H7 ⟨L, xs, rfl, oL, ax, wx, lx, nL1, nL2, D5, x5, hk5, hL0⟩
    refine ⟨BlP d lD z a b fk ws m H 4, ?_, ?_⟩
    · refine ⟨_, rfl, rfl, _, rfl, ?_⟩
      rw [dec_int]
      by_cases hf : fk = 3
      · rw [show (fk == 3) = true from beq_iff_eq.mpr hf]
        obtain rfl : xs = ws := hk5.resolve_left (by omega)
        have ha : a < xs.length := by omega
        refine iteT ⟨_, rfl, (by show 12 ≤ sizeLine; decide), fun l hl => .inl ⟨d, lD, l, _, rfl, D5.new hl, SqL.of upd_same, (D5.ne hl).1, (by show 0 < 12; decide), (by show 12 < 1000; decide), fun x H8 mx D8 b8 => ?_⟩⟩
        have x8 := (x5.new (o := .lst (l12.map V.str)) hl).trans (Ext.but b8)
        have mx : x ∈ l12.map V.str := mx
        obtain ⟨y, hy, rfl⟩ := List.mem_map.mp mx
        obtain ⟨ay, ly⟩ := g12 y hy
        have oL8 : H8 L = some (.lst (xs.map V.str)) := by rw [b8 L nL1, upd_ne (ne_of_none oL hl)]; exact oL
        refine ⟨_, rfl, _, rfl, L, _, ((a : Nat) : Int), a, rfl, rfl, oL8, ixN_nat (by rw [List.length_map]; exact ha), ?_⟩
        refine ⟨L, xs.set a y, rfl, by rw [upd_same, List.map_set], fun y' hy' => ?_, ?_, by rw [List.length_set]; exact lx, nL1, nL2, D8.put nL1 nL2, ?_, .inl (by omega), hL0⟩
        · rcases List.mem_or_eq_of_mem_set hy' with h | h
          · exact aw y' h
          · rw [h]; exact ay
        · have := wt_set xs a y
          omega
        · intro b' o nb e
          have nL : b' ≠ L := fun zz => by rw [zz, hL0] at e; cases e
          rw [upd_ne nL]
          exact x8 b' o nb e
      · rw [show (fk == 3) = false from beq_false_of_ne hf]
        exact iteF ⟨L, xs, rfl, oL, ax, wx, lx, nL1, nL2, D5, x5, hk5.imp (by omega) id, hL0⟩
    rintro σ8 H8 ⟨L, xs, rfl, oL, ax, wx, lx, nL1, nL2, D5, x5, hk5, hL0⟩
    obtain ⟨aj, lj⟩ := join_asc xs ax
    rw [← show Txt.join " " xs = Str.join " " xs from StrLaws.glued_eq_join " " xs] at aj lj
    refine ⟨⟨" ", rfl⟩, _, rfl, " ", L, xs, rfl, rfl, .inl (SqL.of oL), ?_, ?_⟩
    · have h1 : (" " : Str).length = 1 := by decide
      unfold wtS at wx
      rw [h1]
      omega
    generalize Txt.join " " xs = ln at aj lj
    have lz : ln.length ≤ sizeLine := Nat.le_of_lt (small1000 (by omega))
    refine ⟨_, rfl, _, rfl, ln, rfl, lz, _, _, rfl, rfl, d, lD, _, rfl, D5, by omega, log_small (n := ln.length + 1) (by omega), fun sp H9 s0 s1 D9 b9 => ?_⟩
    obtain ⟨sp, rfl⟩ := Int.eq_ofNat_of_zero_le s0
    have hsp : sp ≤ ln.length := by omega
    have x9 := x5.trans (Ext.but b9)
    refine ⟨_, rfl, rfl, _, rfl, ?_⟩
    generalize decide (V.int fk = V.int 4) = b4'
    have at1 := asc_cut aj none (some ((sp : Nat) : Int))
    have at2 := asc_cut aj (some ((sp : Nat) : Int)) none
    have at3 := asc_cut aj (some (((sp : Nat) : Int) + 1)) none
    have la := cutS_to hsp
    have lb := cutS_from ln sp
    have lc := cutS_from ln (sp + 1)
    cases b4' with
    | true =>
      refine iteT ⟨_, rfl, _, rfl, _, rfl, ln, rfl, lz, _, rfl, (by show 7 ≤ sizeLine; decide), fun l hl => .inl ⟨d, lD, l, _, rfl, D9.new hl, SqL.of upd_same, (D9.ne hl).1, (by show 0 < 7; decide), (by show 7 < 1000; decide), fun x H10 mx D10 b10 => ?_⟩⟩
      have x10 := (x9.new (o := .lst (l7b.map V.str)) hl).trans (Ext.but b10)
      have mx : x ∈ l7b.map V.str := mx
      obtain ⟨y, hy, rfl⟩ := List.mem_map.mp mx
      obtain ⟨ay, ly⟩ := g7b y hy
      refine ⟨_, _, rfl, rfl, Nat.le_of_lt (small1000 (by rw [la]; omega)), _, rfl, _, rfl, _, rfl, ln, rfl, lz, _, _, rfl, rfl, Nat.le_of_lt (small1000 (by rw [sapp_len, la]; omega)), ?_⟩
      exact k _ H10 (asc_add (asc_add at1 ay) at2) (by rw [sapp_len, sapp_len, la]; omega) D10 x10
    | false =>
      refine iteF ⟨_, rfl, rfl, _, rfl, ?_⟩
      generalize decide (V.int fk = V.int 5) = b5'
      cases b5' with
      | true =>
        refine iteT ⟨_, rfl, _, rfl, _, rfl, ln, rfl, lz, _, rfl, _, rfl, _, _, rfl, rfl, _, rfl, ln, rfl, lz, _, _, rfl, rfl, ?_, ?_⟩
        · have lc' : (cutS ln (some (((sp : Nat) : Int) + 1)) none).length ≤ ln.length - (sp + 1) := lc
          exact Nat.le_of_lt (small1000 (by rw [la]; omega))
        · have lc' : (cutS ln (some (((sp : Nat) : Int) + 1)) none).length ≤ ln.length - (sp + 1) := lc
          exact k _ H9 (asc_add at1 at3) (by rw [sapp_len, la]; omega) D9 x9
      | false => exact iteF ⟨_, rfl, k ln H9 aj (by omega) D9 x9⟩

end
end Toy

end
section
set_option maxHeartbeats 4000000
namespace Toy
open PySem L2
section
variable {P : Program} {w : World} {K : PySem.W.Frag} {mg : Str → Option Value} {base : Heap}
theorem scSame : FnScope ["_law_told", "_law_due", "_law_one", "_law_other"] ["_law_told", "_law_due"] (defScope s__law_same) := ⟨rfl, rfl, rfl, by decide +kernel, rfl, by decide +kernel, by decide +kernel⟩
theorem step_same {f : Addr} {fd : FuncData} {R : Hp → V → V → Prop} {n : Nat} (F : Fun K "_law_same" "_law_same" s__law_same f fd) (b : Binds K fd ["_law_told", "_law_due"] []) (mS : mg "_law_same" = some (.ref f)) (T : Blt mg) (hR : ∀ H H' x y, Same H H' → R H x y → R H' x y)
    (ih : FnOk P w K mg base CX0 n f fd ["_law_told", "_law_due"] (spR R)) : FnOk P w K mg base CX0 (n + 1) f fd ["_law_told", "_law_due"] (spR (StepR R)) := by
  refine F.ok scSame (fun vs H Q E h => ?_) (fun cdv A outer s H vs Q E hr h => ?_)
  · obtain ⟨x, y, rfl, _⟩ := h
    rfl
  · obtain ⟨x, y, rfl, al, k⟩ := h
    have nd := scSame.nd
    refine ⟨_, pss_cons (ps_if (pt_cmpR op_isN (pv 1) pe_non (nomark _)) (pss_one (ps_ret (pe_cmpR op_isN (pv 0) pe_non (nomark _)))) pss_nil)
      (pss_cons (ps_if (PW.pt (pw_or (pt_val (pe_callB (call_isi (T := "bool")) (by rfl) T.isinstance boot_isinstance (pa_cons (pv 1) (pa_cons (pe_bltn (v := .ty "bool") (by rfl) T.bool boot_bool rfl) pa_nil)))) (pw_or1 (pt_val (pe_callB (call_isi (T := "bool")) (by rfl) T.isinstance boot_isinstance (pa_cons (pv 0) (pa_cons (pe_bltn (v := .ty "bool") (by rfl) T.bool boot_bool rfl) pa_nil)))))))
        (pss_one (ps_ret (pe_and (pe_callB (call_isi (T := "bool")) (by rfl) T.isinstance boot_isinstance (pa_cons (pv 1) (pa_cons (pe_bltn (v := .ty "bool") (by rfl) T.bool boot_bool rfl) pa_nil))) (pe_and (pe_callB (call_isi (T := "bool")) (by rfl) T.isinstance boot_isinstance (pa_cons (pv 0) (pa_cons (pe_bltn (v := .ty "bool") (by rfl) T.bool boot_bool rfl) pa_nil))) (pe_one (pe_cmpR op_eq (pv 0) (pv 1) (nomark _))))))) pss_nil)
      (pss_cons (ps_if (pt_val (pe_callB call_isi2 (by rfl) T.isinstance boot_isinstance (pa_cons (pv 1) (pa_cons (pe_tup (pa_cons (pe_bltn (v := .ty "int") (by rfl) T.int boot_int rfl) (pa_cons (pe_bltn (v := .ty "str") (by rfl) T.str boot_str rfl) pa_nil))) pa_nil))))
        (pss_one (ps_ret (pe_and (pe_callB call_isi2 (by rfl) T.isinstance boot_isinstance (pa_cons (pv 0) (pa_cons (pe_tup (pa_cons (pe_bltn (v := .ty "int") (by rfl) T.int boot_int rfl) (pa_cons (pe_bltn (v := .ty "str") (by rfl) T.str boot_str rfl) pa_nil))) pa_nil)))
          (pe_and (pe_cmpR op_eq (pe_callB (call_isi (T := "int")) (by rfl) T.isinstance boot_isinstance (pa_cons (pv 0) (pa_cons (pe_bltn (v := .ty "int") (by rfl) T.int boot_int rfl) pa_nil))) (pe_callB (call_isi (T := "int")) (by rfl) T.isinstance boot_isinstance (pa_cons (pv 1) (pa_cons (pe_bltn (v := .ty "int") (by rfl) T.int boot_int rfl) pa_nil))) (nomark _)) (pe_one (pe_cmpR op_eq (pv 0) (pv 1) (nomark _))))))) pss_nil)
      (pss_cons (ps_if (PW.pt (pw_or (pt_cmpR op_ne (pe_callB (call_isi (T := "list")) (by rfl) T.isinstance boot_isinstance (pa_cons (pv 1) (pa_cons (pe_bltn (v := .ty "list") (by rfl) T.list boot_list rfl) pa_nil))) (pe_callB (call_isi (T := "list")) (by rfl) T.isinstance boot_isinstance (pa_cons (pv 0) (pa_cons (pe_bltn (v := .ty "list") (by rfl) T.list boot_list rfl) pa_nil))) (nomark _))
          (pw_or1 (pt_cmpR op_ne (pe_callB (call_isi (T := "tuple")) (by rfl) T.isinstance boot_isinstance (pa_cons (pv 1) (pa_cons (pe_bltn (v := .ty "tuple") (by rfl) T.tuple boot_tuple rfl) pa_nil))) (pe_callB (call_isi (T := "tuple")) (by rfl) T.isinstance boot_isinstance (pa_cons (pv 0) (pa_cons (pe_bltn (v := .ty "tuple") (by rfl) T.tuple boot_tuple rfl) pa_nil))) (nomark _)))))
        (pss_one (ps_ret pe_bl)) pss_nil)
      (pss_one (ps_ret (pe_and (pe_cmpR op_eq (pe_callB call_len_seq (by rfl) T.len PySem.boot_len (pa_cons (pv 0) pa_nil)) (pe_callB call_len_seq (by rfl) T.len PySem.boot_len (pa_cons (pv 1) pa_nil)) (nomark _))
        (pe_one (pe_callB (cr_all rfl) (by rfl) T.all boot_all (pa_cons (pe_lc (own := [("_law_one", 2), ("_law_other", 3)]) (g := gTup K 2 (gCons (gName 2) (gCons (gName 3) gNil))) (by rfl) nd (pi_zipn (by rfl) T.zip (pa_cons (pv 0) (pa_cons (pv 1) pa_nil))) (blkOk_by (own := [("_law_one", 2), ("_law_other", 3)]) (N := ["_law_told", "_law_due", "_law_one", "_law_other"]) (sc := defScope s__law_same) (by decide +kernel))
          (fun _ _ _ _ _ => pg_tup (by rfl) (pgs_cons (pg_name (i := 2) nd rfl (Or.inl rfl)) (pgs_cons (pg_name (i := 3) nd rfl (Or.inl rfl)) pgs_nil))) (fun _ _ _ _ _ => pts_nil) (fun _ _ _ _ _ => pe_call ih hr (by rfl) mS F.kp b .nil pass0 (pa_cons (pv 2) (pa_cons (pv 3) pa_nil)))) pa_nil))))))))), ?_⟩
    have skip : ∀ {q : Prop} {A B : Prop} [Decidable q], q → A → if (decide q) = true then A else B := fun hq ha => by rw [decide_eq_true hq]; exact iteT ha
    rcases al with ⟨hf, rfl⟩ | ⟨a, b', xs, ys, rfl, rfl, ha, hb, hl, hz, hel⟩ | ⟨a, b', xs, ys, rfl, rfl, ha, hb, hl, hz, hel⟩
    · cases x with
      | non =>
        refine ⟨_, rfl, rfl, _, rfl, ?_⟩
        rw [decide_eq_true rfl]
        refine iteT ?_
        refine ⟨_, rfl, rfl, ?_⟩
        exact k H (Same.refl H)
      | bl y =>
        refine ⟨_, rfl, rfl, _, rfl, ?_⟩
        rw [decide_eq_false (fun z => nomatch z)]
        refine iteF ?_
        refine ⟨_, rfl, _, _, true, rfl, .bl y, (kt_bool K).2.1, _, rfl, iteT ?_⟩
        refine iteT ?_
        refine ⟨_, rfl, _, _, true, rfl, .bl y, (kt_bool K).2.1, _, rfl, iteT ?_⟩
        refine ⟨_, rfl, _, _, true, rfl, .bl y, (kt_bool K).2.1, _, rfl, iteT ?_⟩
        refine ⟨_, rfl, _, rfl, rfl, ?_⟩
        rw [decide_eq_true rfl]
        exact k H (Same.refl H)
      | int y =>
        refine ⟨_, rfl, rfl, _, rfl, ?_⟩
        rw [decide_eq_false (fun z => nomatch z)]
        refine iteF ?_
        refine ⟨_, rfl, _, _, false, rfl, .int y, (kt_bool K).2.2.1, _, rfl, iteF ?_⟩
        refine ⟨_, rfl, _, _, false, rfl, .int y, (kt_bool K).2.2.1, _, rfl, ?_⟩
        refine iteF ?_
        refine ⟨_, rfl, (by show 2 ≤ sizeLine; decide), fun p hp => ⟨_, _, p, "int", "str", true, rfl, upd_same, .int y, (fun _ z => nomatch z), (kt_two K).1, _, rfl, iteT ?_⟩⟩
        refine ⟨_, rfl, (by show 2 ≤ sizeLine; decide), fun p2 hp2 => ⟨_, _, p2, "int", "str", true, rfl, upd_same, .int y, (fun _ z => nomatch z), (kt_two K).1, _, rfl, iteT ?_⟩⟩
        refine ⟨_, rfl, _, _, true, rfl, .int y, (kt_int K).1, _, rfl, _, _, true, rfl, .int y, (kt_int K).1, rfl, ?_⟩
        rw [decide_eq_true rfl]
        refine ⟨_, rfl, iteT ?_⟩
        refine ⟨_, rfl, _, rfl, rfl, ?_⟩
        rw [decide_eq_true rfl]
        exact k _ (((Same.refl H).new hp).new hp2)
      | str y =>
        refine ⟨_, rfl, rfl, _, rfl, ?_⟩
        rw [decide_eq_false (fun z => nomatch z)]
        refine iteF ?_
        refine ⟨_, rfl, _, _, false, rfl, .str y, (kt_bool K).2.2.2.1, _, rfl, iteF ?_⟩
        refine ⟨_, rfl, _, _, false, rfl, .str y, (kt_bool K).2.2.2.1, _, rfl, ?_⟩
        refine iteF ?_
        refine ⟨_, rfl, (by show 2 ≤ sizeLine; decide), fun p hp => ⟨_, _, p, "int", "str", true, rfl, upd_same, .str y, (fun _ z => nomatch z), (kt_two K).2.1, _, rfl, iteT ?_⟩⟩
        refine ⟨_, rfl, (by show 2 ≤ sizeLine; decide), fun p2 hp2 => ⟨_, _, p2, "int", "str", true, rfl, upd_same, .str y, (fun _ z => nomatch z), (kt_two K).2.1, _, rfl, iteT ?_⟩⟩
        refine ⟨_, rfl, _, _, false, rfl, .str y, (kt_int K).2, _, rfl, _, _, false, rfl, .str y, (kt_int K).2, rfl, ?_⟩
        rw [decide_eq_true rfl]
        refine ⟨_, rfl, iteT ?_⟩
        refine ⟨_, rfl, _, rfl, rfl, ?_⟩
        rw [decide_eq_true rfl]
        exact k _ (((Same.refl H).new hp).new hp2)
      | byt y => cases hf
      | flt y => cases hf
      | ref y => cases hf
      | ty y => cases hf
    · refine ⟨_, rfl, rfl, _, rfl, ?_⟩
      rw [decide_eq_false (fun z => nomatch z)]
      refine iteF ?_
      refine ⟨_, rfl, _, _, false, rfl, .lst hb, (kt_bool K).2.2.2.2.1, _, rfl, iteF ?_⟩
      refine ⟨_, rfl, _, _, false, rfl, .lst ha, (kt_bool K).2.2.2.2.1, _, rfl, ?_⟩
      refine iteF ?_
      refine ⟨_, rfl, (by show 2 ≤ sizeLine; decide), fun p hp => ?_⟩
      have ha1 : (upd H p (.tup [.ty "int", .ty "str"])) a = some (.lst xs) := by rw [upd_ne (ne_of_none ha hp)]; exact ha
      have hb1 : (upd H p (.tup [.ty "int", .ty "str"])) b' = some (.lst ys) := by rw [upd_ne (ne_of_none hb hp)]; exact hb
      have s1 : Same H (upd H p (.tup [.ty "int", .ty "str"])) := (Same.refl H).new hp
      generalize hH1 : upd H p (.tup [.ty "int", .ty "str"]) = H1 at ha1 hb1 s1
      refine ⟨_, _, p, "int", "str", false, rfl, (by rw [← hH1]; exact upd_same), .lst hb1, (fun _ z => nomatch z), (kt_two K).2.2.1, _, rfl, iteF ?_⟩
      refine ⟨_, rfl, _, _, true, rfl, .lst hb1, (kt_list K).1, _, rfl, _, _, true, rfl, .lst ha1, (kt_list K).1, rfl, _, rfl, ?_⟩
      refine iteNS rfl ?_
      refine ⟨_, rfl, _, _, false, rfl, .lst hb1, (kt_tuple K).1, _, rfl, _, _, false, rfl, .lst ha1, (kt_tuple K).1, rfl, _, rfl, ?_⟩
      refine iteNS rfl ?_
      refine ⟨_, rfl, a, xs, rfl, .inl (SqL.of ha1), _, rfl, b', ys, rfl, .inl (SqL.of hb1), rfl, ?_⟩
      rw [hl, decide_eq_true rfl]
      refine ⟨_, rfl, iteT ?_⟩
      have sH : ∀ {H2 : Hp}, Same H1 H2 → Same H H2 := fun s2 => s1.trans s2
      refine ⟨_, rfl, _, rfl, .L a, .L b', xs, ys, rfl, SqL.of ha1, SqL.of hb1, fun D hD => lc_it (n := xs.length) (fun i H2 => Same H1 H2 ∧ H2 D = some (.lst (List.replicate i (V.bl true)))) ⟨(Same.refl H1).new hD, upd_same⟩ (fun i H2 hi z => ?_) (fun H2 z => ?_)⟩
      · obtain ⟨s2, hD2⟩ := z
        refine ⟨⟨xs, ys, _, _, SqL.of (s2 _ _ ha1), SqL.of (s2 _ _ hb1), List.getElem?_eq_getElem hi, List.getElem?_eq_getElem (by omega)⟩, ?_⟩
        rintro v HF ⟨T, x, y, rfl, hT, rfl, hx, hy⟩
        have hx := hx _ (SqL.of (s2 _ _ ha1))
        have hy := hy _ (SqL.of (s2 _ _ hb1))
        refine ⟨T, [x, y], rfl, SqT.of upd_same, rfl, x, [y], rfl, y, [], rfl, rfl, rfl, ?_⟩
        unfold tYes
        dsimp only
        rw [if_pos rfl]
        have s3 : Same H2 (upd H2 T (.tup [x, y])) := (Same.refl H2).new hT
        refine ⟨_, rfl, _, rfl, x, y, rfl, hR H _ x y (sH (s2.trans s3)) (hel i x y hx hy), fun H3 s4 => ?_⟩
        refine ⟨_, s4 _ _ (s3 _ _ hD2), by rw [List.length_replicate]; omega, (s2.trans (s3.trans s4)).turn hD, ?_⟩
        rw [upd_same, List.replicate_succ']
      · obtain ⟨s2, hD2⟩ := z
        refine ⟨⟨xs, ys, SqL.of (s2 _ _ ha1), SqL.of (s2 _ _ hb1), .inl (Nat.le_refl _)⟩, ?_⟩
        refine ⟨D, List.replicate xs.length true, rfl, SqL.of (by rw [hD2, List.map_replicate]), ?_⟩
        rw [show (List.replicate xs.length true).all id = true by simp]
        exact k H2 (sH s2)
    · refine ⟨_, rfl, rfl, _, rfl, ?_⟩
      rw [decide_eq_false (fun z => nomatch z)]
      refine iteF ?_
      refine ⟨_, rfl, _, _, false, rfl, .tup hb, (kt_bool K).2.2.2.2.2, _, rfl, iteF ?_⟩
      refine ⟨_, rfl, _, _, false, rfl, .tup ha, (kt_bool K).2.2.2.2.2, _, rfl, ?_⟩
      refine iteF ?_
      refine ⟨_, rfl, (by show 2 ≤ sizeLine; decide), fun p hp => ?_⟩
      have ha1 : (upd H p (.tup [.ty "int", .ty "str"])) a = some (.tup xs) := by rw [upd_ne (ne_of_none ha hp)]; exact ha
      have hb1 : (upd H p (.tup [.ty "int", .ty "str"])) b' = some (.tup ys) := by rw [upd_ne (ne_of_none hb hp)]; exact hb
      have s1 : Same H (upd H p (.tup [.ty "int", .ty "str"])) := (Same.refl H).new hp
      generalize hH1 : upd H p (.tup [.ty "int", .ty "str"]) = H1 at ha1 hb1 s1
      refine ⟨_, _, p, "int", "str", false, rfl, (by rw [← hH1]; exact upd_same), .tup hb1, (fun _ z => nomatch z), (kt_two K).2.2.2, _, rfl, iteF ?_⟩
      refine ⟨_, rfl, _, _, false, rfl, .tup hb1, (kt_list K).2, _, rfl, _, _, false, rfl, .tup ha1, (kt_list K).2, rfl, _, rfl, ?_⟩
      refine iteNS rfl ?_
      refine ⟨_, rfl, _, _, true, rfl, .tup hb1, (kt_tuple K).2, _, rfl, _, _, true, rfl, .tup ha1, (kt_tuple K).2, rfl, _, rfl, ?_⟩
      refine iteNS rfl ?_
      refine ⟨_, rfl, a, xs, rfl, .inr (SqT.of ha1), _, rfl, b', ys, rfl, .inr (SqT.of hb1), rfl, ?_⟩
      rw [hl, decide_eq_true rfl]
      refine ⟨_, rfl, iteT ?_⟩
      have sH : ∀ {H2 : Hp}, Same H1 H2 → Same H H2 := fun s2 => s1.trans s2
      refine ⟨_, rfl, _, rfl, .T a, .T b', xs, ys, rfl, SqT.of ha1, SqT.of hb1, fun D hD => lc_it (n := xs.length) (fun i H2 => Same H1 H2 ∧ H2 D = some (.lst (List.replicate i (V.bl true)))) ⟨(Same.refl H1).new hD, upd_same⟩ (fun i H2 hi z => ?_) (fun H2 z => ?_)⟩
      · obtain ⟨s2, hD2⟩ := z
        refine ⟨⟨xs, ys, _, _, SqT.of (s2 _ _ ha1), SqT.of (s2 _ _ hb1), List.getElem?_eq_getElem hi, List.getElem?_eq_getElem (by omega)⟩, ?_⟩
        rintro v HF ⟨T, x, y, rfl, hT, rfl, hx, hy⟩
        have hx := hx _ (SqT.of (s2 _ _ ha1))
        have hy := hy _ (SqT.of (s2 _ _ hb1))
        refine ⟨T, [x, y], rfl, SqT.of upd_same, rfl, x, [y], rfl, y, [], rfl, rfl, rfl, ?_⟩
        unfold tYes
        dsimp only
        rw [if_pos rfl]
        have s3 : Same H2 (upd H2 T (.tup [x, y])) := (Same.refl H2).new hT
        refine ⟨_, rfl, _, rfl, x, y, rfl, hR H _ x y (sH (s2.trans s3)) (hel i x y hx hy), fun H3 s4 => ?_⟩
        refine ⟨_, s4 _ _ (s3 _ _ hD2), by rw [List.length_replicate]; omega, (s2.trans (s3.trans s4)).turn hD, ?_⟩
        rw [upd_same, List.replicate_succ']
      · obtain ⟨s2, hD2⟩ := z
        refine ⟨⟨xs, ys, SqT.of (s2 _ _ ha1), SqT.of (s2 _ _ hb1), .inl (Nat.le_refl _)⟩, ?_⟩
        refine ⟨D, List.replicate xs.length true, rfl, SqL.of (by rw [hD2, List.map_replicate]), ?_⟩
        rw [show (List.replicate xs.length true).all id = true by simp]
        exact k H2 (sH s2)
theorem ok_same {f : Addr} {fd : FuncData} (F : Fun K "_law_same" "_law_same" s__law_same f fd) (b : Binds K fd ["_law_told", "_law_due"] []) (mS : mg "_law_same" = some (.ref f)) (T : Blt mg) : ∀ n, FnOk P w K mg base CX0 n f fd ["_law_told", "_law_due"] (spR (Alike n))
  | 0 => FnOk.never
  | n + 1 => step_same F b mS T (fun _ _ _ _ s h => Alike.keep s h) (ok_same F b mS T n)

end
end Toy

end
section
set_option maxHeartbeats 4000000
namespace Toy
open PySem L2
section
variable {P : Program} {w : World} {K : PySem.W.Frag} {mg : Str → Option Value} {base : Heap}
abbrev nmKind : List Str := ["_law_e", "_law_flags", "_law_words", "_law_of_room", "_law_bases", "_law_word", "_law_good"]
theorem scKind : FnScope nmKind ["_law_e"] (defScope s__law_kind) := ⟨rfl, rfl, rfl, by decide +kernel, rfl, by decide +kernel, by decide +kernel⟩
theorem ok_kind {f cE rE : Addr} {fd : FuncData} {e : Nat → Addr} (F : Fun K "_law_kind" "_law_kind" s__law_kind f fd) (R : Errs K mg e cE rE) (T : Blt mg) : FnOkQ P w K mg base 1 f fd ["_law_e"] (spKind K e cE rE) := by
  refine F.okQ scKind (fun ea oe vs H Q E h => ?_) (fun cdv A outer s H vs Q ea oe hr hA hx hH hfr h => ?_)
  · obtain ⟨j, rfl, _⟩ := h
    rfl
  · obtain ⟨j, rfl, J, hcls, hex, hdic, k⟩ := h
    have nd := scKind.nd
    have hu : A.units + 3 + 64 < cLine := huq_of hr
    have kn : ExKn (cxOfQ CX0 P w K mg base nmKind "_law_kind" (defScope s__law_kind) f cdv A outer s H E0).nox ea (e j) oe := ⟨hx, hH, hfr, by simp [cxOfQ], hcls, hex⟩
    have qu : Qu (cxOfQ CX0 P w K mg base nmKind "_law_kind" (defScope s__law_kind) f cdv A outer s H E0).nox := by
      obtain ⟨vs, dv, cv⟩ := id hex
      exact ⟨ea, oe, vs, hA, hx, hH, hfr, by simp [cxOfQ], dv, cv⟩
    have z : ExcK (cxOfQ CX0 P w K mg base nmKind "_law_kind" (defScope s__law_kind) f cdv A outer s H E0).nox.K (e j) := J.z
    refine ⟨_, pss_cut (ps_set (i := 1) nd rfl (Or.inl rfl) (pe_lst (pa_cons (pe_callB (call_isiE kn z) (by rfl) T.isinstance boot_isinstance (pa_cons (pv 0) (pa_cons (pe_glob (v := .ref (e 0)) (by rfl) R.m0 rfl) pa_nil))) (pa_cons (pe_callB (call_isiE kn z) (by rfl) T.isinstance boot_isinstance (pa_cons (pv 0) (pa_cons (pe_glob (v := .ref (e 1)) (by rfl) R.m1 rfl) pa_nil))) (pa_cons (pe_callB (call_isiE kn z) (by rfl) T.isinstance boot_isinstance (pa_cons (pv 0) (pa_cons (pe_glob (v := .ref (e 2)) (by rfl) R.m2 rfl) pa_nil))) pa_nil)))))
      (pss_cut (ps_set (i := 1) nd rfl (Or.inl rfl) (pe_op op_cat (pv 1) (pe_lst (pa_cons (pe_callB (call_isiE kn z) (by rfl) T.isinstance boot_isinstance (pa_cons (pv 0) (pa_cons (pe_glob (v := .ref (e 3)) (by rfl) R.m3 rfl) pa_nil))) (pa_cons (pe_callB (call_isiE kn z) (by rfl) T.isinstance boot_isinstance (pa_cons (pv 0) (pa_cons (pe_glob (v := .ref (e 4)) (by rfl) R.m4 rfl) pa_nil))) (pa_cons (pe_callB (call_isiE kn z) (by rfl) T.isinstance boot_isinstance (pa_cons (pv 0) (pa_cons (pe_glob (v := .ref (e 5)) (by rfl) R.m5 rfl) pa_nil))) pa_nil))))))
      (pss_cut (ps_set (i := 1) nd rfl (Or.inl rfl) (pe_op op_cat (pv 1) (pe_lst (pa_cons (pe_callB (call_isiE kn z) (by rfl) T.isinstance boot_isinstance (pa_cons (pv 0) (pa_cons (pe_glob (v := .ref (e 6)) (by rfl) R.m6 rfl) pa_nil))) (pa_cons (pe_callB (call_isiE kn z) (by rfl) T.isinstance boot_isinstance (pa_cons (pv 0) (pa_cons (pe_glob (v := .ref (e 7)) (by rfl) R.m7 rfl) pa_nil))) (pa_cons (pe_callB (call_isiE kn z) (by rfl) T.isinstance boot_isinstance (pa_cons (pv 0) (pa_cons (pe_glob (v := .ref (e 8)) (by rfl) R.m8 rfl) pa_nil))) pa_nil))))))
      (pss_cut (ps_set (i := 1) nd rfl (Or.inl rfl) (pe_op op_cat (pv 1) (pe_lst (pa_cons (pe_callB (call_isiE kn z) (by rfl) T.isinstance boot_isinstance (pa_cons (pv 0) (pa_cons (pe_glob (v := .ref (e 9)) (by rfl) R.m9 rfl) pa_nil))) (pa_cons (pe_callB (call_isiE kn z) (by rfl) T.isinstance boot_isinstance (pa_cons (pv 0) (pa_cons (pe_glob (v := .ref (e 10)) (by rfl) R.m10 rfl) pa_nil))) (pa_cons (pe_callB (call_isiE kn z) (by rfl) T.isinstance boot_isinstance (pa_cons (pv 0) (pa_cons (pe_glob (v := .ref (e 11)) (by rfl) R.m11 rfl) pa_nil))) pa_nil))))))
      (pss_cut (ps_set (i := 1) nd rfl (Or.inl rfl) (pe_op op_cat (pv 1) (pe_lst (pa_cons (pe_callB (call_isiE kn z) (by rfl) T.isinstance boot_isinstance (pa_cons (pv 0) (pa_cons (pe_glob (v := .ref (e 12)) (by rfl) R.m12 rfl) pa_nil))) (pa_cons (pe_callB (call_isiE kn z) (by rfl) T.isinstance boot_isinstance (pa_cons (pv 0) (pa_cons (pe_glob (v := .ref (e 13)) (by rfl) R.m13 rfl) pa_nil))) (pa_cons (pe_callB (call_isiE kn z) (by rfl) T.isinstance boot_isinstance (pa_cons (pv 0) (pa_cons (pe_glob (v := .ref (e 14)) (by rfl) R.m14 rfl) pa_nil))) pa_nil))))))
      (pss_cut (ps_set (i := 1) nd rfl (Or.inl rfl) (pe_op op_cat (pv 1) (pe_lst (pa_cons (pe_callB (call_isiE kn z) (by rfl) T.isinstance boot_isinstance (pa_cons (pv 0) (pa_cons (pe_glob (v := .ref (e 15)) (by rfl) R.m15 rfl) pa_nil))) (pa_cons (pe_callB (call_isiE kn z) (by rfl) T.isinstance boot_isinstance (pa_cons (pv 0) (pa_cons (pe_glob (v := .ref (e 16)) (by rfl) R.m16 rfl) pa_nil))) (pa_cons (pe_callB (call_isiE kn z) (by rfl) T.isinstance boot_isinstance (pa_cons (pv 0) (pa_cons (pe_glob (v := .ref (e 17)) (by rfl) R.m17 rfl) pa_nil))) pa_nil))))))
      (pss_cut (ps_set (i := 1) nd rfl (Or.inl rfl) (pe_op op_cat (pv 1) (pe_lst (pa_cons (pe_callB (call_isiE kn z) (by rfl) T.isinstance boot_isinstance (pa_cons (pv 0) (pa_cons (pe_glob (v := .ref (e 18)) (by rfl) R.m18 rfl) pa_nil))) (pa_cons (pe_callB (call_isiE kn z) (by rfl) T.isinstance boot_isinstance (pa_cons (pv 0) (pa_cons (pe_glob (v := .ref (e 19)) (by rfl) R.m19 rfl) pa_nil))) (pa_cons (pe_callB (call_isiE kn z) (by rfl) T.isinstance boot_isinstance (pa_cons (pv 0) (pa_cons (pe_glob (v := .ref (e 20)) (by rfl) R.m20 rfl) pa_nil))) pa_nil))))))
      (pss_cut (ps_set (i := 1) nd rfl (Or.inl rfl) (pe_op op_cat (pv 1) (pe_lst (pa_cons (pe_callB (call_isiE kn z) (by rfl) T.isinstance boot_isinstance (pa_cons (pv 0) (pa_cons (pe_glob (v := .ref (e 21)) (by rfl) R.m21 rfl) pa_nil))) (pa_cons (pe_callB (call_isiE kn z) (by rfl) T.isinstance boot_isinstance (pa_cons (pv 0) (pa_cons (pe_glob (v := .ref (e 22)) (by rfl) R.m22 rfl) pa_nil))) pa_nil)))))
      (pss_cons (ps_set (i := 2) nd rfl (Or.inl rfl) pe_str)
      (pss_cons (ps_set (i := 2) nd rfl (Or.inl rfl) (pe_op op_add_str (pv 2) pe_str))
      (pss_cut (ps_set (i := 3) nd rfl (Or.inl rfl) (pe_cmpR op_in_seq pe_bl (pe_slice sl_list (pv 1) (po_some pe_int) po_none) (by rfl)))
      (pss_cut (ps_set (i := 4) nd rfl (Or.inl rfl) (pe_lst (pa_cons (pe_callB (call_isiE kn z) (by rfl) T.isinstance boot_isinstance (pa_cons (pv 0) (pa_cons (pe_glob (v := .ref cE) (by rfl) R.mC rfl) pa_nil))) (pa_cons (pe_callB (call_isiET (T := "ValueError") kn z) (by rfl) T.isinstance boot_isinstance (pa_cons (pv 0) (pa_cons (pe_bltn (v := .ty "ValueError") (by rfl) R.mV boot_valueerror rfl) pa_nil))) pa_nil))))
      (pss_cut (ps_set (i := 4) nd rfl (Or.inl rfl) (pe_op op_cat (pv 4) (pe_lst (pa_cons (pe_callB (call_isiE kn z) (by rfl) T.isinstance boot_isinstance (pa_cons (pv 0) (pa_cons (pe_glob (v := .ref rE) (by rfl) R.mR rfl) pa_nil))) (pa_cons (pe_callB (call_isiET (T := "LookupError") kn z) (by rfl) T.isinstance boot_isinstance (pa_cons (pv 0) (pa_cons (pe_bltn (v := .ty "LookupError") (by rfl) R.mL boot_lookuperror rfl) pa_nil))) pa_nil)))))
      (pss_cut (ps_if (pt_cmpR (op_neD hu) (pv 4) (pe_lst (pa_cons (pe_not (pv 3)) (pa_cons (pe_not (pv 3)) (pa_cons (pv 3) (pa_cons (pv 3) pa_nil))))) (nomark _)) (pss_one (ps_ret pe_str)) pss_nil)
      (pss_one (ps_ret (pe_join pe_str (pe_lcQ (own := [("_law_word", 5), ("_law_good", 6)]) (g := gTup K 2 (gCons (gName 5) (gCons (gName 6) gNil))) qu nd (pi_zipQ (by rfl) T.zip (pa_cons (pe_split (pv 2) pe_str) (pa_cons (pv 1) pa_nil))) (blkOk_by (own := [("_law_word", 5), ("_law_good", 6)]) (N := nmKind) (sc := defScope s__law_kind) (by decide +kernel))
        (fun _ _ _ _ _ q => pg_tupQ q (pgs_cons (pg_name (i := 5) nd rfl (Or.inl rfl)) (pgs_cons (pg_name (i := 6) nd rfl (Or.inl rfl)) pgs_nil))) (fun _ _ _ _ _ => pts_one (pt_val (pv 6))) (fun _ _ _ _ _ => pv 5)))))))))))))))))), ?_⟩
    have lt := J.lt
    refine ⟨fun σ2 H2 => ∃ fl : Addr, σ2 = [some (.ref ea), some (.ref fl), none, none, none, none, none] ∧ Same H H2 ∧ H2 fl = some (.lst (flg j 3)), ?_, ?_⟩
    · refine ⟨_, rfl, e 0, decide (0 = j), ⟨rfl, J.is 0 (by decide)⟩, hdic, _, rfl, e 1, decide (1 = j), ⟨rfl, J.is 1 (by decide)⟩, hdic, _, rfl, e 2, decide (2 = j), ⟨rfl, J.is 2 (by decide)⟩, hdic, (by show 3 ≤ sizeLine; decide), fun p hp => ⟨p, rfl, (Same.refl H).new hp, upd_same⟩⟩
    rintro σ2 H2 ⟨fl, rfl, s2, e2⟩
    have hd2 := hdic.keep s2
    refine ⟨fun σ2 H2 => ∃ fl : Addr, σ2 = [some (.ref ea), some (.ref fl), none, none, none, none, none] ∧ Same H H2 ∧ H2 fl = some (.lst (flg j 6)), ?_, ?_⟩
    · refine ⟨_, rfl, _, rfl, e 3, decide (3 = j), ⟨rfl, J.is 3 (by decide)⟩, hd2, _, rfl, e 4, decide (4 = j), ⟨rfl, J.is 4 (by decide)⟩, hd2, _, rfl, e 5, decide (5 = j), ⟨rfl, J.is 5 (by decide)⟩, hd2, (by show 3 ≤ sizeLine; decide), fun p hp => ⟨fl, p, _, _, rfl, rfl, (by rw [upd_ne (ne_of_none e2 hp)]; exact e2), upd_same, (by show 6 ≤ sizeLine; decide), fun q hq => ⟨q, rfl, (s2.new hp).new hq, upd_same⟩⟩⟩
    rintro σ2 H2 ⟨fl, rfl, s2, e2⟩
    have hd2 := hdic.keep s2
    refine ⟨fun σ2 H2 => ∃ fl : Addr, σ2 = [some (.ref ea), some (.ref fl), none, none, none, none, none] ∧ Same H H2 ∧ H2 fl = some (.lst (flg j 9)), ?_, ?_⟩
    · refine ⟨_, rfl, _, rfl, e 6, decide (6 = j), ⟨rfl, J.is 6 (by decide)⟩, hd2, _, rfl, e 7, decide (7 = j), ⟨rfl, J.is 7 (by decide)⟩, hd2, _, rfl, e 8, decide (8 = j), ⟨rfl, J.is 8 (by decide)⟩, hd2, (by show 3 ≤ sizeLine; decide), fun p hp => ⟨fl, p, _, _, rfl, rfl, (by rw [upd_ne (ne_of_none e2 hp)]; exact e2), upd_same, (by show 9 ≤ sizeLine; decide), fun q hq => ⟨q, rfl, (s2.new hp).new hq, upd_same⟩⟩⟩
    rintro σ2 H2 ⟨fl, rfl, s2, e2⟩
    have hd2 := hdic.keep s2
    refine ⟨fun σ2 H2 => ∃ fl : Addr, σ2 = [some (.ref ea), some (.ref fl), none, none, none, none, none] ∧ Same H H2 ∧ H2 fl = some (.lst (flg j 12)), ?_, ?_⟩
    · refine ⟨_, rfl, _, rfl, e 9, decide (9 = j), ⟨rfl, J.is 9 (by decide)⟩, hd2, _, rfl, e 10, decide (10 = j), ⟨rfl, J.is 10 (by decide)⟩, hd2, _, rfl, e 11, decide (11 = j), ⟨rfl, J.is 11 (by decide)⟩, hd2, (by show 3 ≤ sizeLine; decide), fun p hp => ⟨fl, p, _, _, rfl, rfl, (by rw [upd_ne (ne_of_none e2 hp)]; exact e2), upd_same, (by show 12 ≤ sizeLine; decide), fun q hq => ⟨q, rfl, (s2.new hp).new hq, upd_same⟩⟩⟩
    rintro σ2 H2 ⟨fl, rfl, s2, e2⟩
    have hd2 := hdic.keep s2
    refine ⟨fun σ2 H2 => ∃ fl : Addr, σ2 = [some (.ref ea), some (.ref fl), none, none, none, none, none] ∧ Same H H2 ∧ H2 fl = some (.lst (flg j 15)), ?_, ?_⟩
    · refine ⟨_, rfl, _, rfl, e 12, decide (12 = j), ⟨rfl, J.is 12 (by decide)⟩, hd2, _, rfl, e 13, decide (13 = j), ⟨rfl, J.is 13 (by decide)⟩, hd2, _, rfl, e 14, decide (14 = j), ⟨rfl, J.is 14 (by decide)⟩, hd2, (by show 3 ≤ sizeLine; decide), fun p hp => ⟨fl, p, _, _, rfl, rfl, (by rw [upd_ne (ne_of_none e2 hp)]; exact e2), upd_same, (by show 15 ≤ sizeLine; decide), fun q hq => ⟨q, rfl, (s2.new hp).new hq, upd_same⟩⟩⟩
    rintro σ2 H2 ⟨fl, rfl, s2, e2⟩
    have hd2 := hdic.keep s2
    refine ⟨fun σ2 H2 => ∃ fl : Addr, σ2 = [some (.ref ea), some (.ref fl), none, none, none, none, none] ∧ Same H H2 ∧ H2 fl = some (.lst (flg j 18)), ?_, ?_⟩
    · refine ⟨_, rfl, _, rfl, e 15, decide (15 = j), ⟨rfl, J.is 15 (by decide)⟩, hd2, _, rfl, e 16, decide (16 = j), ⟨rfl, J.is 16 (by decide)⟩, hd2, _, rfl, e 17, decide (17 = j), ⟨rfl, J.is 17 (by decide)⟩, hd2, (by show 3 ≤ sizeLine; decide), fun p hp => ⟨fl, p, _, _, rfl, rfl, (by rw [upd_ne (ne_of_none e2 hp)]; exact e2), upd_same, (by show 18 ≤ sizeLine; decide), fun q hq => ⟨q, rfl, (s2.new hp).new hq, upd_same⟩⟩⟩
    rintro σ2 H2 ⟨fl, rfl, s2, e2⟩
    have hd2 := hdic.keep s2
    refine ⟨fun σ2 H2 => ∃ fl : Addr, σ2 = [some (.ref ea), some (.ref fl), none, none, none, none, none] ∧ Same H H2 ∧ H2 fl = some (.lst (flg j 21)), ?_, ?_⟩
    · refine ⟨_, rfl, _, rfl, e 18, decide (18 = j), ⟨rfl, J.is 18 (by decide)⟩, hd2, _, rfl, e 19, decide (19 = j), ⟨rfl, J.is 19 (by decide)⟩, hd2, _, rfl, e 20, decide (20 = j), ⟨rfl, J.is 20 (by decide)⟩, hd2, (by show 3 ≤ sizeLine; decide), fun p hp => ⟨fl, p, _, _, rfl, rfl, (by rw [upd_ne (ne_of_none e2 hp)]; exact e2), upd_same, (by show 21 ≤ sizeLine; decide), fun q hq => ⟨q, rfl, (s2.new hp).new hq, upd_same⟩⟩⟩
    rintro σ2 H2 ⟨fl, rfl, s2, e2⟩
    have hd2 := hdic.keep s2
    refine ⟨fun σ2 H2 => ∃ fl : Addr, σ2 = [some (.ref ea), some (.ref fl), none, none, none, none, none] ∧ Same H H2 ∧ H2 fl = some (.lst (flg j 23)), ?_, ?_⟩
    · refine ⟨_, rfl, _, rfl, e 21, decide (21 = j), ⟨rfl, J.is 21 (by decide)⟩, hd2, _, rfl, e 22, decide (22 = j), ⟨rfl, J.is 22 (by decide)⟩, hd2, (by show 2 ≤ sizeLine; decide), fun p hp => ⟨fl, p, _, _, rfl, rfl, (by rw [upd_ne (ne_of_none e2 hp)]; exact e2), upd_same, (by show 23 ≤ sizeLine; decide), fun q hq => ⟨q, rfl, (s2.new hp).new hq, upd_same⟩⟩⟩
    rintro σ2 H2 ⟨fl, rfl, s2, e2⟩
    have hd2 := hdic.keep s2
    refine ⟨_, rfl, _, _, rfl, rfl, small_line' words_len, ?_⟩
    refine ⟨fun σ3 H3 => σ3 = [some (.ref ea), some (.ref fl), some (.str (wordsA ++ wordsB)), some (.bl (!decide (j < 17))), none, none, none] ∧ Same H2 H3, ?_, ?_⟩
    · refine ⟨_, rfl, 17, rfl, fl, _, rfl, SqL.of e2, fun p hp => ⟨p, _, rfl, .inl (SqL.of upd_same), rfl, (flg_room j lt).2, ?_⟩⟩
      rw [show (if false = true then !inV (.bl true) (cutV (flg j 23) (some 17) none) else inV (.bl true) (cutV (flg j 23) (some 17) none)) = (!decide (j < 17)) from (flg_room j lt).1]
      exact ⟨rfl, (Same.refl H2).new hp⟩
    rintro σ3 H3 ⟨rfl, s3⟩
    have hd3 := hd2.keep s3
    refine ⟨fun σ4 H4 => ∃ b4 : Addr, σ4 = [some (.ref ea), some (.ref fl), some (.str (wordsA ++ wordsB)), some (.bl (!decide (j < 17))), some (.ref b4), none, none] ∧ Same H2 H4 ∧ H4 b4 = some (.lst [.bl (decide (j < 17)), .bl (decide (j < 17))]), ?_, ?_⟩
    · exact ⟨_, rfl, cE, _, ⟨rfl, J.c⟩, hd3, _, rfl, _, ⟨rfl, J.v⟩, hd3, (by show 2 ≤ sizeLine; decide), fun p hp => ⟨p, rfl, s3.new hp, upd_same⟩⟩
    rintro σ4 H4 ⟨b4, rfl, s4, e4⟩
    have hd4 := hd2.keep s4
    refine ⟨fun σ5 H5 => ∃ b4 : Addr, σ5 = [some (.ref ea), some (.ref fl), some (.str (wordsA ++ wordsB)), some (.bl (!decide (j < 17))), some (.ref b4), none, none] ∧ Same H2 H5 ∧ H5 b4 = some (.lst [.bl (decide (j < 17)), .bl (decide (j < 17)), .bl (!decide (j < 17)), .bl (!decide (j < 17))]), ?_, ?_⟩
    · exact ⟨_, rfl, _, rfl, rE, _, ⟨rfl, J.r⟩, hd4, _, rfl, _, ⟨rfl, J.l⟩, hd4, (by show 2 ≤ sizeLine; decide), fun p hp => ⟨b4, p, _, _, rfl, rfl, (by rw [upd_ne (ne_of_none e4 hp)]; exact e4), upd_same, (by show 4 ≤ sizeLine; decide), fun q hq => ⟨q, rfl, (s4.new hp).new hq, upd_same⟩⟩⟩
    rintro σ5 H5 ⟨b5, rfl, s5, e5⟩
    refine ⟨fun σ6 H6 => ∃ v4, σ6 = [some (.ref ea), some (.ref fl), some (.str (wordsA ++ wordsB)), some (.bl (!decide (j < 17))), v4, none, none] ∧ Same H2 H6, ?_, ?_⟩
    · refine ⟨_, rfl, _, rfl, _, rfl, _, rfl, _, rfl, _, rfl, _, rfl, (by show 4 ≤ sizeLine; decide), fun p hp => ?_⟩
      have e5' : (upd H5 p (.lst [.bl (!(!decide (j < 17))), .bl (!(!decide (j < 17))), .bl (!decide (j < 17)), .bl (!decide (j < 17))])) b5 = some (.lst [.bl (decide (j < 17)), .bl (decide (j < 17)), .bl (!decide (j < 17)), .bl (!decide (j < 17))]) := by rw [upd_ne (ne_of_none e5 hp)]; exact e5
      refine ⟨.list [.bool (decide (j < 17)), .bool (decide (j < 17)), .bool (!decide (j < 17)), .bool (!decide (j < 17))], .list [.bool (!(!decide (j < 17))), .bool (!(!decide (j < 17))), .bool (!decide (j < 17)), .bool (!decide (j < 17))], .lst (SqL.of e5') (.cons (.bl _) (.cons (.bl _) (.cons (.bl _) (.cons (.bl _) .nil)))), .lst (SqL.of upd_same) (.cons (.bl _) (.cons (.bl _) (.cons (.bl _) (.cons (.bl _) .nil)))), ?_, ?_, _, rfl, ?_⟩
      · cases decide (j < 17) <;> decide +kernel
      · cases decide (j < 17) <;> decide +kernel
      · rw [show (!PyData.eqv (.list [.bool (decide (j < 17)), .bool (decide (j < 17)), .bool (!decide (j < 17)), .bool (!decide (j < 17))]) (.list [.bool (!(!decide (j < 17))), .bool (!(!decide (j < 17))), .bool (!decide (j < 17)), .bool (!decide (j < 17))])) = false by cases decide (j < 17) <;> decide +kernel]
        exact iteF ⟨_, rfl, s5.new hp⟩
    rintro σ6 H6 ⟨v4, rfl, s6⟩
    refine ⟨⟨_, rfl⟩, _, rfl, ⟨_, rfl⟩, _, _, rfl, rfl, (by decide +kernel), small_line' (by have := words_len; show (wordsA ++ wordsB).length + 2 ≤ 1000; decide +kernel), fun p hp => ?_⟩
    rw [words_split]
    have e6 : (upd H6 p (.lst ((errNames.map Str.ofString).map V.str))) fl = some (.lst (flg j 23)) := by rw [upd_ne (ne_of_none (s6 _ _ e2) hp)]; exact s6 _ _ e2
    have s7 : Same H2 (upd H6 p (.lst ((errNames.map Str.ofString).map V.str))) := s6.new hp
    have ep : (upd H6 p (.lst ((errNames.map Str.ofString).map V.str))) p = some (.lst ((errNames.map Str.ofString).map V.str)) := upd_same
    generalize upd H6 p (.lst ((errNames.map Str.ofString).map V.str)) = H7 at e6 s7 ep
    refine ⟨_, rfl, p, fl, _, _, rfl, SqL.of ep, SqL.of e6, fun D hD => lc_zip (n := 23) (fun i H8 => Same H7 H8 ∧ H8 D = some (.lst (if j < i then [.str (Str.ofString (errNames.getD j ""))] else []))) ⟨(Same.refl H7).new hD, upd_same⟩ (by decide) (by simp [flg]) (.inl rfl)
      (fun i H8 _ z => ⟨SqL.of (z.1 _ _ ep), SqL.of (z.1 _ _ e6)⟩) (fun i x y t H8 hx hy ht z => ?_) (fun H8 z => ?_)⟩
    · obtain ⟨s8, hD8⟩ := z
      have hi : i < 23 := (List.getElem?_eq_some_iff.mp hx).1
      have ex : x = .str (Str.ofString (errNames.getD i "")) := by
        rw [List.getElem?_map, List.getElem?_map, List.getElem?_eq_getElem (show i < errNames.length from hi)] at hx
        rw [List.getD_eq_getElem?_getD, List.getElem?_eq_getElem (show i < errNames.length from hi)]
        exact (Option.some.inj hx).symm
      have ey : y = .bl (decide (i = j)) := by
        unfold flg at hy
        rw [List.getElem?_map, List.getElem?_range hi] at hy
        exact (Option.some.inj hy).symm
      subst ex ey
      have s9 : Same H8 (upd H8 t (.tup [.str (Str.ofString (errNames.getD i "")), .bl (decide (i = j))])) := (Same.refl H8).new ht
      refine ⟨t, _, rfl, SqT.of upd_same, rfl, _, _, rfl, _, [], rfl, rfl, rfl, ?_⟩
      refine ⟨_, rfl, _, rfl, ite2 (fun q => ?_) (fun q => ?_)⟩
      · have q := of_decide_eq_true q
        subst q
        rw [if_neg (Nat.lt_irrefl _)] at hD8
        refine ⟨_, rfl, _, s9 _ _ hD8, (by show 0 < sizeLine; decide), (s8.trans s9).turn hD, ?_⟩
        rw [upd_same, if_pos (Nat.lt_succ_self _)]
        rfl
      · have q : ¬ i = j := fun z => q (decide_eq_true z)
        refine ⟨s8.trans s9, ?_⟩
        rw [s9 _ _ hD8]
        by_cases c : j < i
        · rw [if_pos c, if_pos (by omega)]
        · rw [if_neg c, if_neg (by omega)]
    · obtain ⟨s8, hD8⟩ := z
      rw [if_pos lt] at hD8
      refine ⟨_, D, [Str.ofString (errNames.getD j "")], rfl, rfl, .inl (SqL.of hD8), ?_, ?_⟩
      · exact (show ∀ j, j < 23 → ([Str.ofString (errNames.getD j "")].map (·.length)).sum + [Str.ofString (errNames.getD j "")].length * (Str.ofString "+").length ≤ 16777216 by decide +kernel) j lt
      · rw [join_one j lt]
        exact k H8 (s2.trans (s7.trans s8))

end
end Toy

end
section
set_option maxHeartbeats 4000000
namespace Toy
open PySem L2
section
variable {P : Program} {w : World} {K : PySem.W.Frag} {mg : Str → Option Value} {base : Heap}
/-! ### asked -/
abbrev nmAs : List Str := ["_law_line", "_law_e"]
theorem scAs : FnScope nmAs ["_law_line"] (defScope s__law_asked) := ⟨rfl, rfl, rfl, by decide +kernel, rfl, by decide +kernel, by decide +kernel⟩
def noT : List V := [.str "no", .str "BadText", .int 0]
def spAs : Sp := fun vs H Q _ => ∃ line : Str, vs = [.str line] ∧ Asc line ∧ line.length ≤ 1000 ∧ (∀ us, readL line = some us → ∀ (p : Addr) (H' : Hp), Same H H' → H' p = some (.tup us) → Q (.ref p) H') ∧ (readL line = none → ∀ (q : Addr) (H' : Hp), Same H H' → H' q = some (.lst noT) → Q (.ref q) H')
theorem ok_as {f fK fB cE rE : Addr} {fd fdK fdB : FuncData} {e : Nat → Addr} {t0 : Tok} (F : Fun K "_law_asked" "_law_asked" s__law_asked f fd) (gRd : OkC (CX1 P w) P w K mg base 5 "read_deed" ["line"] [] (spRd (e 16)))
    (Z : BtAt K mg (e 16) cE fB fdB t0) (XG : XGet K (e 16) "row") (J16 : ErrAt K e cE rE 16)
    (FK : Fun K "_law_kind" "_law_kind" s__law_kind fK fdK) (bK : Binds K fdK ["_law_e"] []) (mK : mg "_law_kind" = some (.ref fK)) (R : Errs K mg e cE rE) (T : Blt mg) : FnOk P w K mg base CX0 6 f fd ["_law_line"] spAs := by
  have GK : FnOkQ P w K mg base 1 fK fdK ["_law_e"] (spKind K e cE rE) := ok_kind FK R T
  refine F.ok scAs (fun vs H Q E h => ?_) (fun cdv A outer s H vs Q E hr h => ?_)
  · obtain ⟨z, rfl, _⟩ := h
    rfl
  · obtain ⟨z, rfl, hz, hl, kT, kF⟩ := h
    have nd := scAs.nd
    refine ⟨_, pss_one (ps_try2 (i := 1) nd rfl rfl rfl rfl (by rfl) Z.mB Z.cB (by simp) (by rfl) R.mC R.qC (by decide) (by rfl) R.mR R.qR (by decide)
      (fun xe pins E hx => pss_one (ps_ret (pe_okC gRd hr (by rfl) (passes1 hx) (pa_cons (pv 0) pa_nil))))
      (fun ea oe => pss_one (ps_ret (pe_lst (pa_cons pe_str (pa_cons (pe_callQ (ea := ea) (oe := oe) GK ((hr.q.mono (by decide)).mark _) rfl List.mem_cons_self (by rfl) mK FK.kp bK (pa_cons (pv 1) pa_nil)) (pa_cons (pe_xfld (pv 1)) pa_nil))))))
      (fun ea oe => pss_one (ps_ret (pe_lst (pa_cons pe_str (pa_cons (pe_callQ (ea := ea) (oe := oe) GK ((hr.q.mono (by decide)).mark _) rfl List.mem_cons_self (by rfl) mK FK.kp bK (pa_cons (pv 1) pa_nil)) pa_nil)))))), ?_⟩
    refine ⟨_, rfl, z, rfl, hz, hl, kT, fun hb => fun dx H1 hdx s1 => ?_⟩
    refine ⟨e 16, _, rfl, Z.cB, .inl ⟨by simp, fun ea oe hea hexo => ?_⟩⟩
    refine ⟨_, rfl, 16, rfl, J16, hexo.1, hexo.2.2, .inr ⟨dx, _, hexo.2.1, hdx⟩, fun H2 s2 => ?_⟩
    refine ⟨_, rfl, ea, oe, e 16, dx, _, .int 0, rfl, List.mem_cons_self, hexo, s2 _ _ hdx, rfl, XG, (by show 3 ≤ sizeLine; decide), fun q hq => ?_⟩
    exact kF hb q _ ((s1.trans s2).new' hq) upd_same

end
end Toy

end
section
set_option maxHeartbeats 4000000
namespace Toy
open PySem L2
section
variable {P : Program} {w : World} {K : PySem.W.Frag} {mg : Str → Option Value} {base : Heap}
/-! ### the law -/
abbrev nmLaw : List Str := ["_law_script", "_law_draw", "_law_turn", "_law_line", "_law_step", "_law_due", "_law_told"]
theorem scLaw : FnScope nmLaw ["_law_script"] (defScope s_law) := ⟨rfl, rfl, rfl, by decide +kernel, rfl, by decide +kernel, by decide +kernel⟩
def spLaw (K : PySem.W.Frag) : Sp := fun vs H Q _ => ∃ (a : Addr) (ns : List Int), vs = [.ref a] ∧ SqL K H a (ns.map V.int) ∧ ns.length ≤ 63 ∧ ∀ H', Q (.bl true) H'
theorem sh_first : ∀ e ∈ shA, e.2.cps.toList.head? = some 97 := by decide +kernel
theorem read_two {line : Str} {us : List V} (h : readL line = some us) : ∃ (n z : Str) (vs : List V), us = .str n :: .str z :: vs ∧ z ∈ Txt.split line " " := by
  unfold readL at h
  obtain ⟨n, rest, es⟩ := split_ne line " "
  rw [es] at h ⊢
  have h : ((shA.lookup n).bind fun sh => (thingsV sh.cps.toList rest).map (V.str n :: ·)) = some us := h
  obtain ⟨sh, hs, h⟩ := Option.bind_eq_some_iff.mp h
  obtain ⟨vs, ht, e⟩ := Option.map_eq_some_iff.mp h
  have h97 := sh_first _ (lookup_mem hs)
  have h97 : sh.cps.toList.head? = some 97 := h97
  generalize sh.cps.toList = cs at ht h97
  cases cs with
  | nil => cases h97
  | cons c cs =>
    have h97 : some c = some 97 := h97
    injection h97 with h97
    subst h97
    cases rest with
    | nil => cases (show none = some vs from ht)
    | cons z zs =>
      unfold thingsV at ht
      cases hz : thingV 97 z with
      | none => rw [hz] at ht; cases ht
      | some v =>
        rw [hz] at ht
        have ht : (thingsV cs zs).map (v :: ·) = some vs := ht
        obtain ⟨r, _, e3⟩ := Option.map_eq_some_iff.mp ht
        unfold thingV at hz
        by_cases hn : z = ""
        · rw [if_pos hn] at hz; cases hz
        · rw [if_neg hn, if_pos rfl] at hz
          injection hz with hz
          subst hz e3 e
          exact ⟨n, z, r, rfl, List.mem_cons_of_mem _ List.mem_cons_self⟩
def bd (i : Nat) : Nat := if i = 0 then 60 else if i = 1 then 200 else 620
theorem read_nil : readL "" = none := by
  unfold readL
  exact read_empty (by decide +kernel)
theorem ok_law {f : Addr} {fd : FuncData} (F : Fun K "law" "law" s_law f fd) (gBe : Ok P w K mg base 1 "_law_begin" ["_law_script"] (spBegin K)) (gTk : Ok P w K mg base 1 "_law_take" ["_law_draw", "_law_many"] spTakeL) (gDr : Ok P w K mg base 4 "_law_drawn_line" ["_law_draw"] spDr)
    (gBl : Ok P w K mg base 3 "_law_bent_line" ["_law_draw", "_law_line"] spBl) (gRe : Ok P w K mg base 2 "_law_read" ["_law_line"] spRe) (gAs : Ok P w K mg base 6 "_law_asked" ["_law_line"] spAs) (gSa : Ok P w K mg base 3 "_law_same" ["_law_told", "_law_due"] (spR (Alike 3)))
    (gNo : Ok P w K mg base 1 "_law_name_ok" ["_law_name"] spNo) (gDl : Ok P w K mg base 1 "deed_line" ["deed"] (spDl K)) (T : Blt mg) : FnOk P w K mg base CX0 7 f fd ["_law_script"] (spLaw K) := by
  refine F.ok scLaw (fun vs H Q E h => ?_) (fun cdv A outer s H vs Q E hr h => ?_)
  · obtain ⟨a, ns, rfl, _⟩ := h
    rfl
  · obtain ⟨a0, ns, rfl, hS, hlen, k⟩ := h
    have nd := scLaw.nd
    have hu64 := hr.units
    refine ⟨_, (pss_cons (ps_set (i := 1) nd rfl (Or.inl rfl) (pe_ok gBe hr (by rfl) (pa_cons (pv 0) pa_nil)))
      (pss_cons (ps_for PassesOwn.never rfl (pi_range1 (by rfl) T.range (pa_cons pe_int pa_nil)) (pg_name (i := 2) nd rfl (Or.inl rfl)) (pss_cons (ps_set (i := 3) nd rfl (Or.inl rfl) (pe_ok gDr hr (by rfl) (pa_cons (pv 1) pa_nil)))
      (pss_cons (ps_for PassesOwn.never rfl (pi_range1 (by rfl) T.range (pa_cons (pe_ok gTk hr (by rfl) (pa_cons (pv 1) (pa_cons pe_int pa_nil))) pa_nil)) (pg_name (i := 4) nd rfl (Or.inl rfl)) (pss_one (ps_set (i := 3) nd rfl (Or.inl rfl) (pe_ok gBl hr (by rfl) (pa_cons (pv 1) (pa_cons (pv 3) pa_nil))))))
      (pss_cons (ps_set (i := 5) nd rfl (Or.inl rfl) (pe_ok gRe hr (by rfl) (pa_cons (pv 3) pa_nil)))
      (pss_cons (ps_set (i := 6) nd rfl (Or.inl rfl) (pe_ok gAs hr (by rfl) (pa_cons (pv 3) pa_nil)))
      (pss_cons (ps_if (pt_not (pt_val (pe_ok gSa hr (by rfl) (pa_cons (pv 6) (pa_cons (pe_ifExp (pt_cmpR op_isN (pv 5) pe_non (nomark _)) (pe_lst (pa_cons pe_str (pa_cons pe_str (pa_cons pe_int pa_nil)))) (pv 5)) pa_nil))))) (pss_one (ps_ret pe_bl)) pss_nil)
      (pss_one (ps_if (PW.pt (pw_and (pt_cmpR op_notN (pv 5) pe_non (nomark _)) (pw_and (pt_val (pe_ok gNo hr (by rfl) (pa_cons (pe_callTy call_strAny (by rfl) T.str boot_str (pa_cons (pe_ix ix_tup (pv 5) pe_int (fun _ _ => rfl)) pa_nil)) pa_nil))) (pw_and1 (pt_cmpR op_ne (pe_ok gDl hr (by rfl) (pa_cons (pv 5) pa_nil)) (pv 3) (nomark _)))))) (pss_one (ps_ret pe_bl)) pss_nil))))))))
      (pss_one (ps_ret (pe_cmpR (by exact op_eqD hu64) (pe_ok gAs hr (by rfl) (pa_cons pe_str pa_nil)) (pe_lst (pa_cons pe_str (pa_cons pe_str (pa_cons pe_int pa_nil)))) (nomark _)))))), ?_⟩
    refine ⟨_, rfl, a0, ns, rfl, hS, hlen, fun dr H1 D1 s1 => ?_⟩
    obtain ⟨lD, DL⟩ := drawL_of D1
    refine ⟨8, rfl, by decide, by decide, for_range (n := 8) (fun i σ H6 => (∃ v2 v3 v4 v5 v6 : Option V, σ = [some (.ref a0), some (.ref dr), v2, v3, v4, v5, v6]) ∧ DrawL H6 dr lD) ⟨⟨none, none, none, none, none, rfl⟩, DL⟩ ?_ ?_⟩
    · rintro i σ H2 hi ⟨⟨v2, v3, v4, v5, v6, rfl⟩, D2⟩
      refine ⟨_, rfl, dr, lD, rfl, D2, fun z H3 az lz D3 _ => ?_⟩
      refine ⟨_, rfl, dr, lD, 3, rfl, D3, by decide, by decide, fun r H4 r0 r1 D4 b4 => ?_⟩
      obtain ⟨m, rfl⟩ := Int.eq_ofNat_of_zero_le r0
      refine ⟨_, rfl, by omega, by omega, ?_⟩
      rw [Int.toNat_natCast]
      refine for_range0 (n := m) (fun j σ H6 => (∃ (y : Str) (v4 v5 v6 : Option V), σ = [some (.ref a0), some (.ref dr), some (.int (0 + (i : Nat))), some (.str y), v4, v5, v6] ∧ Asc y ∧ y.length ≤ bd j) ∧ DrawL H6 dr lD) ⟨⟨z, v4, v5, v6, rfl, az, lz⟩, D4⟩ ?_ ?_
      · rintro j σ H5 hj ⟨⟨y, v4, v5, v6, rfl, ay, ly⟩, D5⟩
        have hb : bd j ≤ 200 ∧ 3 * bd j + 20 ≤ bd (j + 1) := by
          have : j = 0 ∨ j = 1 := by omega
          rcases this with rfl | rfl <;> decide
        exact ⟨_, rfl, _, rfl, dr, lD, y, bd j, rfl, D5, ay, ly, hb.1, fun y2 H6 ay2 ly2 D6 _ => ⟨⟨y2, _, _, _, rfl, ay2, by omega⟩, D6⟩⟩
      · rintro σ H5 ⟨⟨y, v4, v5, v6, rfl, ay, ly⟩, D5⟩
        have hb : bd m ≤ 620 := by
          unfold bd
          split
          · decide
          · split <;> decide
        have ly : y.length ≤ 1000 := by omega
        refine ⟨_, rfl, y, rfl, ay, ly, fun hn H6 s6 => ?_, fun us hu t H6 s6 ot => ?_⟩
        · refine ⟨_, rfl, y, rfl, ay, ly, fun us hu => absurd (hn.symm.trans hu) (fun q => nomatch q), fun _ q H7 s7 oq => ?_⟩
          refine ⟨_, rfl, _, rfl, rfl, _, rfl, ?_⟩
          rw [decide_eq_true rfl]
          refine iteT ⟨(by show 3 ≤ sizeLine; decide), fun q2 hq2 => ?_⟩
          have oq' : (upd H7 q2 (.lst noT)) q = some (.lst noT) := by rw [upd_ne (ne_of_none oq hq2)]; exact oq
          refine ⟨_, _, rfl, Or.inr (Or.inl ⟨q, q2, noT, noT, rfl, rfl, oq', upd_same, rfl, by decide, fun i x y h1 h2 => ?_⟩), fun H8 s8 => ⟨_, rfl, iteF ?_⟩⟩
          · rw [h1] at h2
            injection h2 with h2
            subst h2
            exact Alike.flat ((by decide : ∀ x ∈ noT, flatV x = true) x (List.mem_of_getElem? h1))
          · refine ⟨_, rfl, rfl, _, rfl, iteF ?_⟩
            exact ⟨⟨_, _, _, _, _, rfl⟩, (((D5.keep s6).keep s7).new hq2).keep s8⟩
        · refine ⟨_, rfl, y, rfl, ay, ly, fun us2 hu2 p H7 s7 op => ?_, fun hn => absurd (hn.symm.trans hu) (fun q => nomatch q)⟩
          obtain rfl : us = us2 := Option.some.inj (hu.symm.trans hu2)
          have ot7 := s7 _ _ ot
          obtain ⟨_, pk, _⟩ := read_shw ay hu
          obtain ⟨n, z2, vs, eu, mz⟩ := read_two hu
          refine ⟨_, rfl, _, rfl, rfl, _, rfl, ?_⟩
          rw [decide_eq_false (fun q => nomatch q)]
          have lus : us.length < sizeLine := by
            have e1 := (read_shw ay hu).1
            have q := congrArg List.length e1
            rw [List.length_map] at q
            have := split_len y
            exact Nat.lt_of_le_of_lt (by omega : us.length ≤ 1001) (by decide)
          refine iteF ⟨_, rfl, _, _, rfl, Or.inr (Or.inr ⟨p, t, us, us, rfl, rfl, op, ot7, rfl, lus, fun i x y h1 h2 => ?_⟩), fun H8 s8 => ⟨_, rfl, iteF ?_⟩⟩
          · rw [h1] at h2
            injection h2 with h2
            subst h2
            refine Alike.flat ?_
            rcases pk x (List.mem_of_getElem? h1) with rfl | ⟨a, rfl⟩ | ⟨m, rfl, _⟩ <;> rfl
          · have ot8 := s8 _ _ ot7
            have D8 := ((D5.keep s6).keep s7).keep s8
            have g1 : us[1]? = some (.str z2) := by rw [eu]; rfl
            refine ⟨_, rfl, rfl, _, rfl, ?_⟩
            rw [decide_eq_false (fun q => nomatch q)]
            refine iteT ⟨_, rfl, t, _, 1, _, rfl, rfl, SqT.of ot8, atI_nat (j := 1) g1, .inl ⟨z2, rfl, ?_⟩⟩
            refine ⟨z2, rfl, Nat.le_trans (PyProof.Rows.part_short mz) ly, fun b H9 s9 => ⟨b, rfl, ?_⟩⟩
            cases b with
            | false => exact iteF (iteF ⟨⟨_, _, _, _, _, rfl⟩, D8.keep s9⟩)
            | true =>
              refine iteT ⟨_, rfl, t, y, us, rfl, s9 _ _ ot8, ay, ly, hu, fun H10 s10 => ⟨_, rfl, rfl, _, rfl, ?_⟩⟩
              rw [decide_eq_true rfl]
              exact iteF ⟨⟨_, _, _, _, _, rfl⟩, (D8.keep s9).keep s10⟩
    · rintro σ H2 ⟨⟨v2, v3, v4, v5, v6, rfl⟩, D2⟩
      refine ⟨"", rfl, asc_empty, by decide, fun us hu => absurd (read_nil.symm.trans hu) (fun q => nomatch q), fun _ q H3 s3 oq => ?_⟩
      refine ⟨(by show 3 ≤ sizeLine; decide), fun q2 hq2 => ?_⟩
      have oq' : (upd H3 q2 (.lst noT)) q = some (.lst noT) := by rw [upd_ne (ne_of_none oq hq2)]; exact oq
      refine ⟨.list [.str "no", .str "BadText", .int 0], .list [.str "no", .str "BadText", .int 0], .lst (SqL.of oq') (.cons (.str _) (.cons (.str _) (.cons (.int _) .nil))), .lst (SqL.of upd_same) (.cons (.str _) (.cons (.str _) (.cons (.int _) .nil))), by decide +kernel, by decide +kernel, ?_⟩
      rw [show PyData.eqv (.list [.str "no", .str "BadText", .int 0]) (.list [.str "no", .str "BadText", .int 0]) = true from by decide +kernel]
      exact k _

end
end Toy

end
section
set_option maxHeartbeats 4000000
namespace Toy
open PySem L2
theorem kit_at {cs : List Addr} {f : Addr → Option Bool} {g : Nat → Option Bool} {n : Nat} (h : cs.map f = (List.range n).map g) (i : Nat) (hi : i < n) : f (cs.getD i 0) = g i := by
  have hl : cs.length = n := by
    have := congrArg List.length h
    simpa using this
  have e := congrArg (fun l => l[i]?) h
  simp only [List.getElem?_map, List.getElem?_range hi, List.getElem?_eq_getElem (show i < cs.length by omega), Option.map_some] at e
  rw [List.getD_eq_getElem?_getD, List.getElem?_eq_getElem (show i < cs.length by omega)]
  exact Option.some.inj e
theorem cls_any {K : PySem.W.Frag} {C CE : Addr} (h : (PySem.W.clsIn K C).any (fun cd => cd.hasDict && cd.mro == .ref C :: .ref CE :: bmV) = true) : ∃ cd, PySem.W.clsIn K C = some cd ∧ cd.hasDict = true ∧ cd.mro = .ref C :: .ref CE :: bmV := by
  obtain ⟨cd, hc, hd⟩ := PySem.W.any_some h
  rw [Bool.and_eq_true, beq_iff_eq] at hd
  exact ⟨cd, hc, hd.1, hd.2⟩
theorem all_mk {l : PySem.W.OpenLaw} {w : World} {K : PySem.W.Frag} {h : Heap} {mg : Str → Option Value} {fa fbegin ftake fof fsame fkind fno fsn ffo fth fre fdr fbl fasked fL fisn frn fdl flw frh frd x0 x1 x2 x3 x4 x5 x6 x7 x8 x9 x10 x11 x12 x13 x14 x15 x16 x17 x18 x19 x20 x21 x22 xC xR fB TB xSH : Addr} (X : K.In h) (G : h.Ns mainGlobals mg) (hfa : mg "law" = some (.ref fa)) {odbegin anbegin odtake antake odof anof odsame ansame odkind ankind odno anno odsn ansn odfo anfo odth anth odre anre oddr andr odbl anbl odasked anasked odL anL odisn anisn odrn anrn oddl andl odlw anlw odrh anrh odrd anrd odB anB d2B : Option Addr} {slbegin sltake slof slsame slkind slno slsn slfo slth slre sldr slbl slasked slL slisn slrn sldl sllw slrh slrd slB s2B : Array (Option Value)} {ocbegin kVbegin dcbegin pmbegin cdbegin ctbegin octake kVtake dctake pmtake cdtake cttake ocof kVof dcof pmof cdof ctof ocsame kVsame dcsame pmsame cdsame ctsame ockind kVkind dckind pmkind cdkind ctkind ocno kVno dcno pmno cdno ctno ocsn kVsn dcsn pmsn cdsn ctsn ocfo kVfo dcfo pmfo cdfo ctfo octh kVth dcth pmth cdth ctth ocre kVre dcre pmre cdre ctre ocdr kVdr dcdr pmdr cddr ctdr ocbl kVbl dcbl pmbl cdbl ctbl ocasked kVasked dcasked pmasked cdasked ctasked ocL kVL dcL pmL cdL ctL ocisn kVisn dcisn pmisn cdisn ctisn ocrn kVrn dcrn pmrn cdrn ctrn ocdl kVdl dcdl pmdl cddl ctdl oclw kVlw dclw pmlw cdlw ctlw ocrh kVrh dcrh pmrh cdrh ctrh ocrd kVrd dcrd pmrd cdrd ctrd ocB kVB dcB pmB cdB ctB c2B : Value} {nB nSH : Nat} {t0 tSH_0a tSH_0b tSH_1a tSH_1b tSH_2a tSH_2b tSH_3a tSH_3b tSH_4a tSH_4b tSH_5a tSH_5b tSH_6a tSH_6b tSH_7a tSH_7b tSH_8a tSH_8b tSH_9a tSH_9b tSH_10a tSH_10b : Tok}
    (abegin : PySem.W.nsIn K mainGlobals "_law_begin" = some (some (.ref fbegin)))
    (lbegin : K.lookup fbegin = some ⟨ocbegin, odbegin, .func (PySem.W.fnOf "_law_begin" "_law_begin" (defArgs s__law_begin) (defBody s__law_begin) (defScope s__law_begin) .none kVbegin dcbegin pmbegin anbegin cdbegin ctbegin), slbegin⟩)
    (cbegin : PySem.W.codeIn K cdbegin "_law_begin" = true)
    (kbegin : PySem.W.keepIn K (.ref fbegin) = true)
    (atake : PySem.W.nsIn K mainGlobals "_law_take" = some (some (.ref ftake)))
    (ltake : K.lookup ftake = some ⟨octake, odtake, .func (PySem.W.fnOf "_law_take" "_law_take" (defArgs s__law_take) (defBody s__law_take) (defScope s__law_take) .none kVtake dctake pmtake antake cdtake cttake), sltake⟩)
    (ctake : PySem.W.codeIn K cdtake "_law_take" = true)
    (ktake : PySem.W.keepIn K (.ref ftake) = true)
    (aof : PySem.W.nsIn K mainGlobals "_law_of" = some (some (.ref fof)))
    (lof : K.lookup fof = some ⟨ocof, odof, .func (PySem.W.fnOf "_law_of" "_law_of" (defArgs s__law_of) (defBody s__law_of) (defScope s__law_of) .none kVof dcof pmof anof cdof ctof), slof⟩)
    (cof : PySem.W.codeIn K cdof "_law_of" = true)
    (kof : PySem.W.keepIn K (.ref fof) = true)
    (asame : PySem.W.nsIn K mainGlobals "_law_same" = some (some (.ref fsame)))
    (lsame : K.lookup fsame = some ⟨ocsame, odsame, .func (PySem.W.fnOf "_law_same" "_law_same" (defArgs s__law_same) (defBody s__law_same) (defScope s__law_same) .none kVsame dcsame pmsame ansame cdsame ctsame), slsame⟩)
    (csame : PySem.W.codeIn K cdsame "_law_same" = true)
    (ksame : PySem.W.keepIn K (.ref fsame) = true)
    (akind : PySem.W.nsIn K mainGlobals "_law_kind" = some (some (.ref fkind)))
    (lkind : K.lookup fkind = some ⟨ockind, odkind, .func (PySem.W.fnOf "_law_kind" "_law_kind" (defArgs s__law_kind) (defBody s__law_kind) (defScope s__law_kind) .none kVkind dckind pmkind ankind cdkind ctkind), slkind⟩)
    (ckind : PySem.W.codeIn K cdkind "_law_kind" = true)
    (kkind : PySem.W.keepIn K (.ref fkind) = true)
    (ano : PySem.W.nsIn K mainGlobals "_law_name_ok" = some (some (.ref fno)))
    (lno : K.lookup fno = some ⟨ocno, odno, .func (PySem.W.fnOf "_law_name_ok" "_law_name_ok" (defArgs s__law_name_ok) (defBody s__law_name_ok) (defScope s__law_name_ok) .none kVno dcno pmno anno cdno ctno), slno⟩)
    (cno : PySem.W.codeIn K cdno "_law_name_ok" = true)
    (kno : PySem.W.keepIn K (.ref fno) = true)
    (asn : PySem.W.nsIn K mainGlobals "_law_some_name" = some (some (.ref fsn)))
    (lsn : K.lookup fsn = some ⟨ocsn, odsn, .func (PySem.W.fnOf "_law_some_name" "_law_some_name" (defArgs s__law_some_name) (defBody s__law_some_name) (defScope s__law_some_name) .none kVsn dcsn pmsn ansn cdsn ctsn), slsn⟩)
    (csn : PySem.W.codeIn K cdsn "_law_some_name" = true)
    (ksn : PySem.W.keepIn K (.ref fsn) = true)
    (afo : PySem.W.nsIn K mainGlobals "_law_forms" = some (some (.ref ffo)))
    (lfo : K.lookup ffo = some ⟨ocfo, odfo, .func (PySem.W.fnOf "_law_forms" "_law_forms" (defArgs s__law_forms) (defBody s__law_forms) (defScope s__law_forms) .none kVfo dcfo pmfo anfo cdfo ctfo), slfo⟩)
    (cfo : PySem.W.codeIn K cdfo "_law_forms" = true)
    (kfo : PySem.W.keepIn K (.ref ffo) = true)
    (ath : PySem.W.nsIn K mainGlobals "_law_thing" = some (some (.ref fth)))
    (lth : K.lookup fth = some ⟨octh, odth, .func (PySem.W.fnOf "_law_thing" "_law_thing" (defArgs s__law_thing) (defBody s__law_thing) (defScope s__law_thing) .none kVth dcth pmth anth cdth ctth), slth⟩)
    (cth : PySem.W.codeIn K cdth "_law_thing" = true)
    (kth : PySem.W.keepIn K (.ref fth) = true)
    (are : PySem.W.nsIn K mainGlobals "_law_read" = some (some (.ref fre)))
    (lre : K.lookup fre = some ⟨ocre, odre, .func (PySem.W.fnOf "_law_read" "_law_read" (defArgs s__law_read) (defBody s__law_read) (defScope s__law_read) .none kVre dcre pmre anre cdre ctre), slre⟩)
    (cre : PySem.W.codeIn K cdre "_law_read" = true)
    (kre : PySem.W.keepIn K (.ref fre) = true)
    (adr : PySem.W.nsIn K mainGlobals "_law_drawn_line" = some (some (.ref fdr)))
    (ldr : K.lookup fdr = some ⟨ocdr, oddr, .func (PySem.W.fnOf "_law_drawn_line" "_law_drawn_line" (defArgs s__law_drawn_line) (defBody s__law_drawn_line) (defScope s__law_drawn_line) .none kVdr dcdr pmdr andr cddr ctdr), sldr⟩)
    (cdr : PySem.W.codeIn K cddr "_law_drawn_line" = true)
    (kdr : PySem.W.keepIn K (.ref fdr) = true)
    (abl : PySem.W.nsIn K mainGlobals "_law_bent_line" = some (some (.ref fbl)))
    (lbl : K.lookup fbl = some ⟨ocbl, odbl, .func (PySem.W.fnOf "_law_bent_line" "_law_bent_line" (defArgs s__law_bent_line) (defBody s__law_bent_line) (defScope s__law_bent_line) .none kVbl dcbl pmbl anbl cdbl ctbl), slbl⟩)
    (cbl : PySem.W.codeIn K cdbl "_law_bent_line" = true)
    (kbl : PySem.W.keepIn K (.ref fbl) = true)
    (aasked : PySem.W.nsIn K mainGlobals "_law_asked" = some (some (.ref fasked)))
    (lasked : K.lookup fasked = some ⟨ocasked, odasked, .func (PySem.W.fnOf "_law_asked" "_law_asked" (defArgs s__law_asked) (defBody s__law_asked) (defScope s__law_asked) .none kVasked dcasked pmasked anasked cdasked ctasked), slasked⟩)
    (casked : PySem.W.codeIn K cdasked "_law_asked" = true)
    (kasked : PySem.W.keepIn K (.ref fasked) = true)
    (aL : PySem.W.nsIn K mainGlobals "law" = some (some (.ref fL)))
    (lL : K.lookup fL = some ⟨ocL, odL, .func (PySem.W.fnOf "law" "law" (defArgs s_law) (defBody s_law) (defScope s_law) .none kVL dcL pmL anL cdL ctL), slL⟩)
    (cL : PySem.W.codeIn K cdL "law" = true)
    (kL : PySem.W.keepIn K (.ref fL) = true)
    (aisn : PySem.W.nsIn K mainGlobals "is_number" = some (some (.ref fisn)))
    (lisn : K.lookup fisn = some ⟨ocisn, odisn, .func (PySem.W.fnOf "is_number" "is_number" (defArgs s_is_number) (defBody s_is_number) (defScope s_is_number) .none kVisn dcisn pmisn anisn cdisn ctisn), slisn⟩)
    (cisn : PySem.W.codeIn K cdisn "is_number" = true)
    (kisn : PySem.W.keepIn K (.ref fisn) = true)
    (arn : PySem.W.nsIn K mainGlobals "read_number" = some (some (.ref frn)))
    (lrn : K.lookup frn = some ⟨ocrn, odrn, .func (PySem.W.fnOf "read_number" "read_number" (defArgs s_read_number) (defBody s_read_number) (defScope s_read_number) .none kVrn dcrn pmrn anrn cdrn ctrn), slrn⟩)
    (crn : PySem.W.codeIn K cdrn "read_number" = true)
    (krn : PySem.W.keepIn K (.ref frn) = true)
    (adl : PySem.W.nsIn K mainGlobals "deed_line" = some (some (.ref fdl)))
    (ldl : K.lookup fdl = some ⟨ocdl, oddl, .func (PySem.W.fnOf "deed_line" "deed_line" (defArgs s_deed_line) (defBody s_deed_line) (defScope s_deed_line) .none kVdl dcdl pmdl andl cddl ctdl), sldl⟩)
    (cdl : PySem.W.codeIn K cddl "deed_line" = true)
    (kdl : PySem.W.keepIn K (.ref fdl) = true)
    (alw : PySem.W.nsIn K mainGlobals "line_words" = some (some (.ref flw)))
    (llw : K.lookup flw = some ⟨oclw, odlw, .func (PySem.W.fnOf "line_words" "line_words" (defArgs s_line_words) (defBody s_line_words) (defScope s_line_words) .none kVlw dclw pmlw anlw cdlw ctlw), sllw⟩)
    (clw : PySem.W.codeIn K cdlw "line_words" = true)
    (klw : PySem.W.keepIn K (.ref flw) = true)
    (arh : PySem.W.nsIn K mainGlobals "read_handed" = some (some (.ref frh)))
    (lrh : K.lookup frh = some ⟨ocrh, odrh, .func (PySem.W.fnOf "read_handed" "read_handed" (defArgs s_read_handed) (defBody s_read_handed) (defScope s_read_handed) .none kVrh dcrh pmrh anrh cdrh ctrh), slrh⟩)
    (crh : PySem.W.codeIn K cdrh "read_handed" = true)
    (krh : PySem.W.keepIn K (.ref frh) = true)
    (ard : PySem.W.nsIn K mainGlobals "read_deed" = some (some (.ref frd)))
    (lrd : K.lookup frd = some ⟨ocrd, odrd, .func (PySem.W.fnOf "read_deed" "read_deed" (defArgs s_read_deed) (defBody s_read_deed) (defScope s_read_deed) .none kVrd dcrd pmrd anrd cdrd ctrd), slrd⟩)
    (crd : PySem.W.codeIn K cdrd "read_deed" = true)
    (krd : PySem.W.keepIn K (.ref frd) = true)
    (z_len : PySem.W.nsIn K mainGlobals "len" = some none)
    (z_list : PySem.W.nsIn K mainGlobals "list" = some none)
    (z_range : PySem.W.nsIn K mainGlobals "range" = some none)
    (z_isinstance : PySem.W.nsIn K mainGlobals "isinstance" = some none)
    (z_int : PySem.W.nsIn K mainGlobals "int" = some none)
    (z_str : PySem.W.nsIn K mainGlobals "str" = some none)
    (z_bool : PySem.W.nsIn K mainGlobals "bool" = some none)
    (z_tuple : PySem.W.nsIn K mainGlobals "tuple" = some none)
    (z_all : PySem.W.nsIn K mainGlobals "all" = some none)
    (z_zip : PySem.W.nsIn K mainGlobals "zip" = some none)
    (z_min : PySem.W.nsIn K mainGlobals "min" = some none)
    (z_sorted : PySem.W.nsIn K mainGlobals "sorted" = some none)
    (z_v : PySem.W.nsIn K mainGlobals "ValueError" = some none)
    (z_l : PySem.W.nsIn K mainGlobals "LookupError" = some none)
    (e0 : PySem.W.nsIn K mainGlobals "BadSize" = some (some (.ref x0)))
    (e1 : PySem.W.nsIn K mainGlobals "BadStair" = some (some (.ref x1)))
    (e2 : PySem.W.nsIn K mainGlobals "BadNumber" = some (some (.ref x2)))
    (e3 : PySem.W.nsIn K mainGlobals "NoColumn" = some (some (.ref x3)))
    (e4 : PySem.W.nsIn K mainGlobals "NoCell" = some (some (.ref x4)))
    (e5 : PySem.W.nsIn K mainGlobals "NoCorner" = some (some (.ref x5)))
    (e6 : PySem.W.nsIn K mainGlobals "NoEdge" = some (some (.ref x6)))
    (e7 : PySem.W.nsIn K mainGlobals "NotJoined" = some (some (.ref x7)))
    (e8 : PySem.W.nsIn K mainGlobals "NotSlit" = some (some (.ref x8)))
    (e9 : PySem.W.nsIn K mainGlobals "Unlike" = some (some (.ref x9)))
    (e10 : PySem.W.nsIn K mainGlobals "Wide" = some (some (.ref x10)))
    (e11 : PySem.W.nsIn K mainGlobals "BadView" = some (some (.ref x11)))
    (e12 : PySem.W.nsIn K mainGlobals "BadDrawing" = some (some (.ref x12)))
    (e13 : PySem.W.nsIn K mainGlobals "NoPatch" = some (some (.ref x13)))
    (e14 : PySem.W.nsIn K mainGlobals "TooMany" = some (some (.ref x14)))
    (e15 : PySem.W.nsIn K mainGlobals "BadName" = some (some (.ref x15)))
    (e16 : PySem.W.nsIn K mainGlobals "BadText" = some (some (.ref x16)))
    (e17 : PySem.W.nsIn K mainGlobals "NoCard" = some (some (.ref x17)))
    (e18 : PySem.W.nsIn K mainGlobals "NoPlan" = some (some (.ref x18)))
    (e19 : PySem.W.nsIn K mainGlobals "Taken" = some (some (.ref x19)))
    (e20 : PySem.W.nsIn K mainGlobals "SameCard" = some (some (.ref x20)))
    (e21 : PySem.W.nsIn K mainGlobals "Full" = some (some (.ref x21)))
    (e22 : PySem.W.nsIn K mainGlobals "NothingLeft" = some (some (.ref x22)))
    (eC : PySem.W.nsIn K mainGlobals "CardError" = some (some (.ref xC)))
    (eR : PySem.W.nsIn K mainGlobals "RoomError" = some (some (.ref xR)))
    (qC : clsIn K xC [.type "ValueError", .type "Exception", .type "BaseException", .type "object"] = true)
    (qR : clsIn K xR [.type "LookupError", .type "Exception", .type "BaseException", .type "object"] = true)
    (iB : PySem.W.findIn K (.ref x16) "__init__" = some (some (.ref fB)))
    (lB : K.lookup fB = some ⟨ocB, odB, .func (PySem.W.fnOf "__init__" "BadText.__init__" (defArgs s_BadText_init) (defBody s_BadText_init) (defScope s_BadText_init) (.ref TB) kVB dcB pmB anB cdB ctB), slB⟩)
    (cBc : PySem.W.codeIn K cdB "BadText.__init__" = true)
    (kBf : PySem.W.keepIn K (.ref fB) = true)
    (dB : K.lookup TB = some ⟨c2B, d2B, .seq ([Value.int 0 t0] : List Value).toArray nB, s2B⟩)
    (spB : PySem.W.specialIn K (.ref xC) "__getattribute__" = some (some (.builtin "type.__getattribute__")))
    (rd1 : PySem.W.readsIn K xC (.type "type") = true)
    (rd2 : PySem.W.findCls K (.ref xC) (.type "type") "__init__" = some (.val (.builtin "ValueError.__init__")))
    (inB : excInI K x16 [.type "ValueError", .type "Exception", .type "BaseException", .type "object"] "ValueError.__new__" = true)
    (stB : PySem.W.findIn K (.ref x16) "__setattr__" = some (some (.builtin "object.__setattr__")))
    (clB : (PySem.W.clsIn K x16).any (fun cd => cd.hasDict && cd.mro == .ref x16 :: .ref xC :: [.type "ValueError", .type "Exception", .type "BaseException", .type "object"]) = true)
    (tkB : PySem.W.takerIn K x16 "row" = some none)
    (kpB : PySem.W.keepIn K (.ref x16) = true)
    (tyB : PySem.W.typeIn K (.ref fB) = some (.type "function"))
    (cB : clsIn K x16 (.ref xC :: [.type "ValueError", .type "Exception", .type "BaseException", .type "object"]) = true)
    (kt_16 : ([x0, x1, x2, x3, x4, x5, x6, x7, x8, x9, x10, x11, x12, x13, x14, x15, x16, x17, x18, x19, x20, x21, x22] : List Addr).map (fun c => PySem.W.kitOne K (.ref x16) (.ref c)) = (List.range 23).map (fun i => some (decide (i = 16))))
    (ktC_16 : PySem.W.kitOne K (.ref x16) (.ref xC) = some true)
    (ktV_16 : PySem.W.kitOne K (.ref x16) (.type "ValueError") = some true)
    (ktR_16 : PySem.W.kitOne K (.ref x16) (.ref xR) = some false)
    (ktL_16 : PySem.W.kitOne K (.ref x16) (.type "LookupError") = some false)
    (h1_16 : PySem.W.findIn K (.ref x16) "__getattribute__" = some (some (.builtin "BaseException.__getattribute__")))
    (h2_16 : PySem.W.findIn K (.ref x16) "__getattr__" = some none)
    (h3_16 : PySem.W.findIn K (.ref x16) "__class__" = some (some (.builtin "object.__class__")))
    (h4_16 : PySem.W.specialIn K (.builtin "object.__class__") "__get__" = some (some (.builtin "getset_descriptor.__get__")))
    (h5_16 : PySem.W.takesIn K (.builtin "object.__class__") = some true)
    (h6_16 : PySem.W.mroIn K x16 (.type "BaseException") = some true)
    (h7_16 : PySem.W.mroIn K x16 (.type "object") = some true)
    (h8_16 : (PySem.W.clsIn K x16).isSome = true)
    (hdi16 : PySem.W.hasDictIn K x16 = true)
    (noi16 : PySem.W.findIn K (.ref x16) "row" = some none)
    (aSH : PySem.W.nsIn K mainGlobals "SHAPES" = some (some (.ref xSH)))
    (lSH : K.lookup xSH = some ⟨.type "dict", none, .dict #[⟨PySem.PyData.keyHash w.params "cut", .str "cut" tSH_0a, .str "a111" tSH_0b⟩, ⟨PySem.PyData.keyHash w.params "push", .str "push" tSH_1a, .str "a11" tSH_1b⟩, ⟨PySem.PyData.keyHash w.params "slit", .str "slit" tSH_2a, .str "a11" tSH_2b⟩, ⟨PySem.PyData.keyHash w.params "glue", .str "glue" tSH_3a, .str "a1-" tSH_3b⟩, ⟨PySem.PyData.keyHash w.params "mirror", .str "mirror" tSH_4a, .str "a" tSH_4b⟩, ⟨PySem.PyData.keyHash w.params "turn", .str "turn" tSH_5a, .str "a" tSH_5b⟩, ⟨PySem.PyData.keyHash w.params "beside", .str "beside" tSH_6a, .str "aa" tSH_6b⟩, ⟨PySem.PyData.keyHash w.params "part", .str "part" tSH_7a, .str "a1a" tSH_7b⟩, ⟨PySem.PyData.keyHash w.params "burn", .str "burn" tSH_8a, .str "a" tSH_8b⟩, ⟨PySem.PyData.keyHash w.params "keep", .str "keep" tSH_9a, .str "aa" tSH_9b⟩, ⟨PySem.PyData.keyHash w.params "drop", .str "drop" tSH_10a, .str "a" tSH_10b⟩] nSH, #[]⟩)
    (sSH : (xSH == sysModules) = false) :
    ∃ fd : FuncData, (∀ (s : Shared) (v : Value), BindsTo s fd ⟨[v], []⟩ [("_law_script", v)]) ∧ ∀ base : Heap, K.In base → base.Ns mainGlobals mg → FnOk l.prog w K mg base CX0 7 fa fd ["_law_script"] (spLaw K) := by
  have e := hfa.symm.trans (PySem.W.mg_of X G aL)
  cases e
  have Fbegin := fun_mk (st := s__law_begin) lbegin cbegin kbegin
  have bbegin := Fbegin.binds (ps := ["_law_script"]) fun _ _ _ _ _ _ us hl => match us, hl with | [_], _ => rfl
  have mbegin := PySem.W.mg_of X G abegin
  have Ftake := fun_mk (st := s__law_take) ltake ctake ktake
  have btake := Ftake.binds (ps := ["_law_draw", "_law_many"]) fun _ _ _ _ _ _ us hl => match us, hl with | [_, _], _ => rfl
  have mtake := PySem.W.mg_of X G atake
  have Fof := fun_mk (st := s__law_of) lof cof kof
  have bof := Fof.binds (ps := ["_law_draw", "_law_some"]) fun _ _ _ _ _ _ us hl => match us, hl with | [_, _], _ => rfl
  have mof := PySem.W.mg_of X G aof
  have Fsame := fun_mk (st := s__law_same) lsame csame ksame
  have bsame := Fsame.binds (ps := ["_law_told", "_law_due"]) fun _ _ _ _ _ _ us hl => match us, hl with | [_, _], _ => rfl
  have msame := PySem.W.mg_of X G asame
  have Fkind := fun_mk (st := s__law_kind) lkind ckind kkind
  have bkind := Fkind.binds (ps := ["_law_e"]) fun _ _ _ _ _ _ us hl => match us, hl with | [_], _ => rfl
  have mkind := PySem.W.mg_of X G akind
  have Fno := fun_mk (st := s__law_name_ok) lno cno kno
  have bno := Fno.binds (ps := ["_law_name"]) fun _ _ _ _ _ _ us hl => match us, hl with | [_], _ => rfl
  have mno := PySem.W.mg_of X G ano
  have Fsn := fun_mk (st := s__law_some_name) lsn csn ksn
  have bsn := Fsn.binds (ps := ["_law_draw", "_law_kept", "_law_fresh"]) fun _ _ _ _ _ _ us hl => match us, hl with | [_, _, _], _ => rfl
  have msn := PySem.W.mg_of X G asn
  have Ffo := fun_mk (st := s__law_forms) lfo cfo kfo
  have bfo := Ffo.binds (ps := []) fun _ _ _ _ _ _ us hl => match us, hl with | [], _ => rfl
  have mfo := PySem.W.mg_of X G afo
  have Fth := fun_mk (st := s__law_thing) lth cth kth
  have bth := Fth.binds (ps := ["_law_sign", "_law_word"]) fun _ _ _ _ _ _ us hl => match us, hl with | [_, _], _ => rfl
  have mth := PySem.W.mg_of X G ath
  have Fre := fun_mk (st := s__law_read) lre cre kre
  have bre := Fre.binds (ps := ["_law_line"]) fun _ _ _ _ _ _ us hl => match us, hl with | [_], _ => rfl
  have mre := PySem.W.mg_of X G are
  have Fdr := fun_mk (st := s__law_drawn_line) ldr cdr kdr
  have bdr := Fdr.binds (ps := ["_law_draw"]) fun _ _ _ _ _ _ us hl => match us, hl with | [_], _ => rfl
  have mdr := PySem.W.mg_of X G adr
  have Fbl := fun_mk (st := s__law_bent_line) lbl cbl kbl
  have bbl := Fbl.binds (ps := ["_law_draw", "_law_line"]) fun _ _ _ _ _ _ us hl => match us, hl with | [_, _], _ => rfl
  have mbl := PySem.W.mg_of X G abl
  have Fasked := fun_mk (st := s__law_asked) lasked casked kasked
  have basked := Fasked.binds (ps := ["_law_line"]) fun _ _ _ _ _ _ us hl => match us, hl with | [_], _ => rfl
  have masked := PySem.W.mg_of X G aasked
  have FL := fun_mk (st := s_law) lL cL kL
  have Fisn := fun_mk (st := s_is_number) lisn cisn kisn
  have bisn := Fisn.binds (ps := ["word"]) fun _ _ _ _ _ _ us hl => match us, hl with | [_], _ => rfl
  have misn := PySem.W.mg_of X G aisn
  have Frn := fun_mk (st := s_read_number) lrn crn krn
  have brn := Frn.binds (ps := ["word"]) fun _ _ _ _ _ _ us hl => match us, hl with | [_], _ => rfl
  have mrn := PySem.W.mg_of X G arn
  have Fdl := fun_mk (st := s_deed_line) ldl cdl kdl
  have bdl := Fdl.binds (ps := ["deed"]) fun _ _ _ _ _ _ us hl => match us, hl with | [_], _ => rfl
  have mdl := PySem.W.mg_of X G adl
  have Flw := fun_mk (st := s_line_words) llw clw klw
  have blw := Flw.binds (ps := ["line"]) fun _ _ _ _ _ _ us hl => match us, hl with | [_], _ => rfl
  have mlw := PySem.W.mg_of X G alw
  have Frh := fun_mk (st := s_read_handed) lrh crh krh
  have brh := Frh.binds (ps := ["word", "shape"]) fun _ _ _ _ _ _ us hl => match us, hl with | [_, _], _ => rfl
  have mrh := PySem.W.mg_of X G arh
  have Frd := fun_mk (st := s_read_deed) lrd crd krd
  have brd := Frd.binds (ps := ["line"]) fun _ _ _ _ _ _ us hl => match us, hl with | [_], _ => rfl
  have mrd := PySem.W.mg_of X G ard
  have T : Blt mg := ⟨PySem.W.mg_none_of X G z_len, PySem.W.mg_none_of X G z_list, PySem.W.mg_none_of X G z_range, PySem.W.mg_none_of X G z_isinstance, PySem.W.mg_none_of X G z_int, PySem.W.mg_none_of X G z_str, PySem.W.mg_none_of X G z_bool, PySem.W.mg_none_of X G z_tuple, PySem.W.mg_none_of X G z_all, PySem.W.mg_none_of X G z_zip, PySem.W.mg_none_of X G z_min⟩
  have Tsorted := PySem.W.mg_none_of X G z_sorted
  have R : Errs K mg (fun i => ([x0, x1, x2, x3, x4, x5, x6, x7, x8, x9, x10, x11, x12, x13, x14, x15, x16, x17, x18, x19, x20, x21, x22] : List Addr).getD i 0) xC xR := ⟨PySem.W.mg_of X G e0, PySem.W.mg_of X G e1, PySem.W.mg_of X G e2, PySem.W.mg_of X G e3, PySem.W.mg_of X G e4, PySem.W.mg_of X G e5, PySem.W.mg_of X G e6, PySem.W.mg_of X G e7, PySem.W.mg_of X G e8, PySem.W.mg_of X G e9, PySem.W.mg_of X G e10, PySem.W.mg_of X G e11, PySem.W.mg_of X G e12, PySem.W.mg_of X G e13, PySem.W.mg_of X G e14, PySem.W.mg_of X G e15, PySem.W.mg_of X G e16, PySem.W.mg_of X G e17, PySem.W.mg_of X G e18, PySem.W.mg_of X G e19, PySem.W.mg_of X G e20, PySem.W.mg_of X G e21, PySem.W.mg_of X G e22, PySem.W.mg_of X G eC, PySem.W.mg_of X G eR, PySem.W.mg_none_of X G z_v, PySem.W.mg_none_of X G z_l, qC, qR⟩
  have J16 : ErrAt K (fun i => ([x0, x1, x2, x3, x4, x5, x6, x7, x8, x9, x10, x11, x12, x13, x14, x15, x16, x17, x18, x19, x20, x21, x22] : List Addr).getD i 0) xC xR 16 := ⟨by decide, ⟨h1_16, h2_16, h3_16, h4_16, h5_16, h6_16, h7_16, Option.isSome_iff_exists.mp h8_16⟩, fun i hi => kit_at kt_16 i hi, ktC_16, ktV_16, ktR_16, ktL_16⟩
  have Z16 : BtAt K mg x16 xC fB _ t0 := ⟨funD_mk (st := s_BadText_init) lB cBc kBf dB, PySem.W.mg_of X G eC, PySem.W.mg_of X G e16, spB, ⟨_, rd1, rd2⟩, ⟨inB, stB, cls_any clB⟩, tkB, kpB, iB, tyB, cB⟩
  have XG16 : XGet K x16 "row" := ⟨h1_16, h2_16, hdi16, noi16, h6_16⟩
  have mSH := PySem.W.mg_of X G aSH
  have dSH : GDict l.prog w K xSH shG := gdict_mk (n := nSH) [(("cut", tSH_0a), ("a111", tSH_0b)), (("push", tSH_1a), ("a11", tSH_1b)), (("slit", tSH_2a), ("a11", tSH_2b)), (("glue", tSH_3a), ("a1-", tSH_3b)), (("mirror", tSH_4a), ("a", tSH_4b)), (("turn", tSH_5a), ("a", tSH_5b)), (("beside", tSH_6a), ("aa", tSH_6b)), (("part", tSH_7a), ("a1a", tSH_7b)), (("burn", tSH_8a), ("a", tSH_8b)), (("keep", tSH_9a), ("aa", tSH_9b)), (("drop", tSH_10a), ("a", tSH_10b))] lSH (by show (["cut", "push", "slit", "glue", "mirror", "turn", "beside", "part", "burn", "keep", "drop"] : List Str).Nodup; decide +kernel) sSH
  refine ⟨PySem.W.fnOf "law" "law" (defArgs s_law) (defBody s_law) (defScope s_law) .none kVL dcL pmL anL cdL ctL, fun s v => .of_eq rfl, fun base _ _ => ?_⟩
  have gBe : Ok l.prog w K mg base 1 "_law_begin" ["_law_script"] (spBegin K) := ok_mk (ok_begin Fbegin T) kbegin bbegin mbegin
  have gTk : Ok l.prog w K mg base 1 "_law_take" ["_law_draw", "_law_many"] spTakeL := ok_mk (ok_takeL Ftake T) ktake btake mtake
  have gOf : Ok l.prog w K mg base 2 "_law_of" ["_law_draw", "_law_some"] (spOf2 K) := ok_mk (FnOk.or (ok_ofL Fof Ftake btake mtake T) (ok_ofS Fof Ftake btake mtake T)) kof bof mof
  have gIn : Ok l.prog w K mg base 1 "is_number" ["word"] spIn := ok_mk (ok_in Fisn T) kisn bisn misn
  have gRn : OkC (CX1 l.prog w) l.prog w K mg base 3 "read_number" ["word"] [] (spRn ((fun i => ([x0, x1, x2, x3, x4, x5, x6, x7, x8, x9, x10, x11, x12, x13, x14, x15, x16, x17, x18, x19, x20, x21, x22] : List Addr).getD i 0) 16)) := ok_mk (ok_rn (C := (fun i => ([x0, x1, x2, x3, x4, x5, x6, x7, x8, x9, x10, x11, x12, x13, x14, x15, x16, x17, x18, x19, x20, x21, x22] : List Addr).getD i 0) 16) Frn gIn Z16 T) krn brn mrn
  have gLw : Ok l.prog w K mg base 1 "line_words" ["line"] spLw := ok_mk (ok_lw Flw T) klw blw mlw
  have gRh : OkC (CX1 l.prog w) l.prog w K mg base 4 "read_handed" ["word", "shape"] [] (spRh ((fun i => ([x0, x1, x2, x3, x4, x5, x6, x7, x8, x9, x10, x11, x12, x13, x14, x15, x16, x17, x18, x19, x20, x21, x22] : List Addr).getD i 0) 16)) := ok_mk (ok_rh (C := (fun i => ([x0, x1, x2, x3, x4, x5, x6, x7, x8, x9, x10, x11, x12, x13, x14, x15, x16, x17, x18, x19, x20, x21, x22] : List Addr).getD i 0) 16) Frh gRn T) krh brh mrh
  have gRd : OkC (CX1 l.prog w) l.prog w K mg base 5 "read_deed" ["line"] [] (spRd ((fun i => ([x0, x1, x2, x3, x4, x5, x6, x7, x8, x9, x10, x11, x12, x13, x14, x15, x16, x17, x18, x19, x20, x21, x22] : List Addr).getD i 0) 16)) := ok_mk (ok_rd (C := (fun i => ([x0, x1, x2, x3, x4, x5, x6, x7, x8, x9, x10, x11, x12, x13, x14, x15, x16, x17, x18, x19, x20, x21, x22] : List Addr).getD i 0) 16) Frd gLw gRh dSH mSH Z16 T) krd brd mrd
  have gFo : Ok l.prog w K mg base 1 "_law_forms" [] spFo := ok_mk (ok_fo Ffo T) kfo bfo mfo
  have gTh : Ok l.prog w K mg base 1 "_law_thing" ["_law_sign", "_law_word"] spTh := ok_mk (ok_th Fth T) kth bth mth
  have gRe : Ok l.prog w K mg base 2 "_law_read" ["_law_line"] spRe := ok_mk (ok_re Fre gFo gTh T) kre bre mre
  have gDl : Ok l.prog w K mg base 1 "deed_line" ["deed"] (spDl K) := ok_mk (ok_dl Fdl T) kdl bdl mdl
  have gNo : Ok l.prog w K mg base 1 "_law_name_ok" ["_law_name"] spNo := ok_mk (ok_no Fno T) kno bno mno
  have gSn : Ok l.prog w K mg base 3 "_law_some_name" ["_law_draw", "_law_kept", "_law_fresh"] spSn := ok_mk (ok_sn Fsn gTk gOf T Tsorted) ksn bsn msn
  have gDr : Ok l.prog w K mg base 4 "_law_drawn_line" ["_law_draw"] spDr := ok_mk (ok_dr Fdr gFo gTk gOf gSn T Tsorted) kdr bdr mdr
  have gBl : Ok l.prog w K mg base 3 "_law_bent_line" ["_law_draw", "_law_line"] spBl := ok_mk (ok_bl Fbl gTk gOf T) kbl bbl mbl
  have gAs : Ok l.prog w K mg base 6 "_law_asked" ["_law_line"] spAs := ok_mk (ok_as (e := (fun i => ([x0, x1, x2, x3, x4, x5, x6, x7, x8, x9, x10, x11, x12, x13, x14, x15, x16, x17, x18, x19, x20, x21, x22] : List Addr).getD i 0)) Fasked gRd Z16 XG16 J16 Fkind bkind mkind R T) kasked basked masked
  have gSa : Ok l.prog w K mg base 3 "_law_same" ["_law_told", "_law_due"] (spR (Alike 3)) := ok_mk (ok_same Fsame bsame msame T 3) ksame bsame msame
  exact ok_law FL gBe gTk gDr gBl gRe gAs gSa gNo gDl T
theorem walk {l : PySem.W.OpenLaw} {q : Program} {loose : List Str} {XP : (Str → Option Value) → Heap → Prop} {YP : World → Heap → Prop} {d : DefRec} {K : Params → PySem.W.Frag} (hn : l.most = some 63) (hdf : d.params.defaults = [])
    (hY : ∀ (w : World) (h : Heap), YP w h → (K w.params).In h)
    (F : ∀ (w : World) (mg : Str → Option Value) (fa : Addr) (h : Heap), (K w.params).In h → h.Ns mainGlobals mg → mg d.name = some (.ref fa) →
      ∃ fd : FuncData, (∀ (s : Shared) (u : Value), BindsTo s fd ⟨[u], []⟩ [("_law_script", u)]) ∧ ∀ base : Heap, (K w.params).In base → base.Ns mainGlobals mg → FnOk l.prog w (K w.params) mg base CX0 7 fa fd ["_law_script"] (spLaw (K w.params))) :
    PySem.W.WalkO q loose XP YP l.row.toRowW d [] (fun f vs => PySem.call f vs) :=
  L2.walk_of (n := 63) (k := 7) (x := "_law_script") (CX := fun _ => CX0) (sp := fun w => spLaw (K w.params)) hn (by decide) hdf ⟨rfl, by decide, by decide, rfl⟩ hY F (fun _ _ a ns hl _ hS => ⟨a, ns, rfl, hS, hl, fun _ => rfl⟩) fun _ _ _ _ _ z => z
end Toy
namespace HdT
open PySem PySem.W
noncomputable def cxE (w : World) (os : OsState) : Cx := ⟨PySem.Challenge.pw_upleaf_k51_deeds_written_and_read, w, bootLife w.params, os, 11, some (.ref 6)⟩
noncomputable def runE (w : World) (os : OsState) : Option SharedT := runF (cxE w os) 12712 (bootTree w.params) 11 boot_drawn boot_toks (topStub PySem.Challenge.pw_upleaf_k51_deeds_written_and_read).cur (topStub PySem.Challenge.pw_upleaf_k51_deeds_written_and_read).code (topStub PySem.Challenge.pw_upleaf_k51_deeds_written_and_read).pos (topStub PySem.Challenge.pw_upleaf_k51_deeds_written_and_read).stack
theorem runE_of (w : World) (os : OsState) (s : SharedT) (h : runE w os = some s) : topRunT treeTable PySem.Challenge.pw_upleaf_k51_deeds_written_and_read w 11 (some (.ref 6)) 12712 ⟨bootTree w.params, 11, bootLife w.params, Array.mk [], boot_drawn, boot_toks, os⟩ (topStub PySem.Challenge.pw_upleaf_k51_deeds_written_and_read) = some s := run_of (C := cxE w os) 12712 _ _ _ _ _ _ _ _ _ h
def viewE : Program := view PySem.Challenge.pw_upleaf_k51_deeds_written_and_read [1, 2, 3, 4, 5, 6, 7, 8, 9, 10, 11, 12, 13, 14, 15, 16, 17, 18, 19, 20, 21, 22, 23, 24, 25, 27, 28, 29, 30, 31, 32, 33, 35, 36, 37, 38, 39, 40, 41, 42, 43, 44, 45, 46, 47, 48]
def looseE : List Str := ["BadStair", "BadText", "SHAPES"]
def xtE (s : Shared) : Bool := xlAt viewE [] s && recOk (RowW.records (OpenRow.toRowW (PySem.Challenge.rw_upleaf_k51_deeds_written_and_read).row)) s
noncomputable def look1 (P : Params) (s : Shared) := (chkE PySem.Challenge.pw_upleaf_k51_deeds_written_and_read (boot_heap P) s, (openSeen viewE looseE (importedModules PySem.Challenge.pw_upleaf_k51_deeds_written_and_read.main.body) xtE true s).1)
noncomputable def look2 (_ : Params) (s : Shared) := ((openSeen viewE looseE (importedModules PySem.Challenge.pw_upleaf_k51_deeds_written_and_read.main.body) xtE true s).2.1, (openSeen viewE looseE (importedModules PySem.Challenge.pw_upleaf_k51_deeds_written_and_read.main.body) xtE true s).2.2.1, (openSeen viewE looseE (importedModules PySem.Challenge.pw_upleaf_k51_deeds_written_and_read.main.body) xtE true s).2.2.2.1)
noncomputable def look3 (_ : Params) (s : Shared) := (openSeen viewE looseE (importedModules PySem.Challenge.pw_upleaf_k51_deeds_written_and_read.main.body) xtE true s).2.2.2.2
def good1 := (true, (openGood viewE looseE).1)
def good2 := ((openGood viewE looseE).2.1, (openGood viewE looseE).2.2.1, (openGood viewE looseE).2.2.2.1)
def good3 := (openGood viewE looseE).2.2.2.2
theorem look_all {P : Params} {s : Shared} (a : look1 P s = good1) (b : look2 P s = good2) (c : look3 P s = good3) : chkE PySem.Challenge.pw_upleaf_k51_deeds_written_and_read (boot_heap P) s = true ∧ openSeen viewE looseE (importedModules PySem.Challenge.pw_upleaf_k51_deeds_written_and_read.main.body) xtE true s = openGood viewE looseE := by
  obtain ⟨a1, a2⟩ := Prod.mk.inj a
  obtain ⟨b1, b⟩ := Prod.mk.inj b
  obtain ⟨b2, b3⟩ := Prod.mk.inj b
  exact ⟨a1, Prod.ext a2 (Prod.ext b1 (Prod.ext b2 (Prod.ext b3 c)))⟩
end HdT
lay_quick HdT.runE
lay_quick HdT.look1
lay_quick HdT.good1
lay_quick HdT.look2
lay_quick HdT.good2
lay_quick HdT.look3
lay_quick HdT.good3
open PySem PySem.W PyProof.Rows
theorem HdT.split_row {P : World → Prop} (row : String) (h0 : ∀ w : World, P (w.withFollow row false)) (h1 : ∀ w : World, P (w.withFollow row true)) (w : World) : P w := by
  have e := World.withFollow_self w row
  cases hb : w.params.followText row <;> rw [hb] at e
  · exact e ▸ h0 w
  · exact e ▸ h1 w
set_option maxHeartbeats 0 in
theorem HdT.lookT1f (w : World) (os : OsState) : (HdT.runE (w.withFollow "special-get-raises" false) os).map (fun s => HdT.look1 (w.withFollow "special-get-raises" false).params s.abs) = some HdT.good1 := by
  rw [PySem.W.Fast.te5421823670675017845, PySem.W.Fast.te18071537574420894354, PySem.W.Fast.te17032452633530061716]
  kernel_rfl
set_option maxHeartbeats 0 in
theorem HdT.lookT1t (w : World) (os : OsState) : (HdT.runE (w.withFollow "special-get-raises" true) os).map (fun s => HdT.look1 (w.withFollow "special-get-raises" true).params s.abs) = some HdT.good1 := by
  rw [PySem.W.Fast.te5421823670675017845, PySem.W.Fast.te18071537574420894354, PySem.W.Fast.te17032452633530061716]
  kernel_rfl
theorem HdT.lookT1 : ∀ (w : World) (os : OsState), (HdT.runE w os).map (fun s => HdT.look1 w.params s.abs) = some HdT.good1 := HdT.split_row "special-get-raises" HdT.lookT1f HdT.lookT1t
set_option maxHeartbeats 0 in
theorem HdT.lookT2f (w : World) (os : OsState) : (HdT.runE (w.withFollow "special-get-raises" false) os).map (fun s => HdT.look2 (w.withFollow "special-get-raises" false).params s.abs) = some HdT.good2 := by
  rw [PySem.W.Fast.te5421823670675017845, PySem.W.Fast.te5281015012739412625, PySem.W.Fast.te3834711048819025098]
  kernel_rfl
set_option maxHeartbeats 0 in
theorem HdT.lookT2t (w : World) (os : OsState) : (HdT.runE (w.withFollow "special-get-raises" true) os).map (fun s => HdT.look2 (w.withFollow "special-get-raises" true).params s.abs) = some HdT.good2 := by
  rw [PySem.W.Fast.te5421823670675017845, PySem.W.Fast.te5281015012739412625, PySem.W.Fast.te3834711048819025098]
  kernel_rfl
theorem HdT.lookT2 : ∀ (w : World) (os : OsState), (HdT.runE w os).map (fun s => HdT.look2 w.params s.abs) = some HdT.good2 := HdT.split_row "special-get-raises" HdT.lookT2f HdT.lookT2t
set_option maxHeartbeats 0 in
theorem HdT.lookT3f (w : World) (os : OsState) : (HdT.runE (w.withFollow "special-get-raises" false) os).map (fun s => HdT.look3 (w.withFollow "special-get-raises" false).params s.abs) = some HdT.good3 := by
  rw [PySem.W.Fast.te5421823670675017845, PySem.W.Fast.te4623834026910897634, PySem.W.Fast.te11472083991430461561]
  kernel_rfl
set_option maxHeartbeats 0 in
theorem HdT.lookT3t (w : World) (os : OsState) : (HdT.runE (w.withFollow "special-get-raises" true) os).map (fun s => HdT.look3 (w.withFollow "special-get-raises" true).params s.abs) = some HdT.good3 := by
  rw [PySem.W.Fast.te5421823670675017845, PySem.W.Fast.te4623834026910897634, PySem.W.Fast.te11472083991430461561]
  kernel_rfl
theorem HdT.lookT3 : ∀ (w : World) (os : OsState), (HdT.runE w os).map (fun s => HdT.look3 w.params s.abs) = some HdT.good3 := HdT.split_row "special-get-raises" HdT.lookT3f HdT.lookT3t
local macro_rules | `(tactic| o_head $H) => `(tactic| (
  refine holds_open (q := HdT.viewE) (loose := HdT.looseE) (Xt := HdT.xtE) (XP := XL HdT.viewE []) (Yf := Hook.obs $H) (Ya := Hook.val $H) (YP := Hook.says $H) (N := 12712) ?_ (Hook.of $H) (Hook.keeps $H) (fun s e => xl_of s (Bool.and_eq_true_iff.mp e).1) XL.keeps (by rfl) (by rfl) (by rfl) (fun s e => recFacts_of (Bool.and_eq_true_iff.mp e).2) (by rfl) (by first | assumption | decide +kernel) (by decide +kernel) ⟨rfl, rfl, rfl, rfl, rfl, by decide +kernel⟩ ?hw ?_
  · refine HdT.left_one (E := HdT.runE) (L1 := HdT.look1) (L2 := HdT.look2) (L3 := HdT.look3) (G1 := HdT.good1) (G2 := HdT.good2) (G3 := HdT.good3) (by kernel_rfl) (by decide +kernel) (fun s => by kernel_rfl) HdT.boot_size HdT.runE_of (fun _ _ a b c => HdT.look_all a b c) HdT.lookT1 HdT.lookT2 HdT.lookT3 ?_
    rw [PySem.W.Fast.te5421823670675017845]
    refine HdT.split_row "special-get-raises" ?_ ?_
    · intro w os
      kernel_rfl
    · intro w os
      kernel_rfl))
set_option maxHeartbeats 0 in
open_top HdT.head for PySem.Challenge.rw_upleaf_k51_deeds_written_and_read
set_option maxRecDepth 100000 in
set_option maxHeartbeats 0 in
theorem PySem.Challenge.cw_upleaf_k51_deeds_written_and_read_holds : PySem.Challenge.rw_upleaf_k51_deeds_written_and_read.Holds := by
  refine HdT.head ?_
  k_fill
  refine Toy.walk (l := PySem.Challenge.rw_upleaf_k51_deeds_written_and_read) rfl rfl (fun w h Y => PySem.W.kIn_of Y) ?F
  case F =>
    intro w mg fa h KX G hmg
    refine' Toy.all_mk KX G hmg ?abegin ?lbegin ?cbegin ?kbegin ?atake ?ltake ?ctake ?ktake ?aof ?lof ?cof ?kof ?asame ?lsame ?csame ?ksame ?akind ?lkind ?ckind ?kkind ?ano ?lno ?cno ?kno ?asn ?lsn ?csn ?ksn ?afo ?lfo ?cfo ?kfo ?ath ?lth ?cth ?kth ?are ?lre ?cre ?kre ?adr ?ldr ?cdr ?kdr ?abl ?lbl ?cbl ?kbl ?aasked ?lasked ?casked ?kasked ?aL ?lL ?cL ?kL ?aisn ?lisn ?cisn ?kisn ?arn ?lrn ?crn ?krn ?adl ?ldl ?cdl ?kdl ?alw ?llw ?clw ?klw ?arh ?lrh ?crh ?krh ?ard ?lrd ?crd ?krd ?z_len ?z_list ?z_range ?z_isinstance ?z_int ?z_str ?z_bool ?z_tuple ?z_all ?z_zip ?z_min ?z_sorted ?z_v ?z_l ?e0 ?e1 ?e2 ?e3 ?e4 ?e5 ?e6 ?e7 ?e8 ?e9 ?e10 ?e11 ?e12 ?e13 ?e14 ?e15 ?e16 ?e17 ?e18 ?e19 ?e20 ?e21 ?e22 ?eC ?eR ?qC ?qR ?iB ?lB ?cBc ?kBf ?dB ?spB ?rd1 ?rd2 ?inB ?stB ?clB ?tkB ?kpB ?tyB ?cB ?kt_16 ?ktC_16 ?ktV_16 ?ktR_16 ?ktL_16 ?h1_16 ?h2_16 ?h3_16 ?h4_16 ?h5_16 ?h6_16 ?h7_16 ?h8_16 ?hdi16 ?noi16 ?aSH ?lSH ?sSH
    (case abegin => k_is)
    (case lbegin => k_is)
    (case cbegin => k_is)
    (case kbegin => k_is)
    (case atake => k_is)
    (case ltake => k_is)
    (case ctake => k_is)
    (case ktake => k_is)
    (case aof => k_is)
    (case lof => k_is)
    (case cof => k_is)
    (case kof => k_is)
    (case asame => k_is)
    (case lsame => k_is)
    (case csame => k_is)
    (case ksame => k_is)
    (case akind => k_is)
    (case lkind => k_is)
    (case ckind => k_is)
    (case kkind => k_is)
    (case ano => k_is)
    (case lno => k_is)
    (case cno => k_is)
    (case kno => k_is)
    (case asn => k_is)
    (case lsn => k_is)
    (case csn => k_is)
    (case ksn => k_is)
    (case afo => k_is)
    (case lfo => k_is)
    (case cfo => k_is)
    (case kfo => k_is)
    (case ath => k_is)
    (case lth => k_is)
    (case cth => k_is)
    (case kth => k_is)
    (case are => k_is)
    (case lre => k_is)
    (case cre => k_is)
    (case kre => k_is)
    (case adr => k_is)
    (case ldr => k_is)
    (case cdr => k_is)
    (case kdr => k_is)
    (case abl => k_is)
    (case lbl => k_is)
    (case cbl => k_is)
    (case kbl => k_is)
    (case aasked => k_is)
    (case lasked => k_is)
    (case casked => k_is)
    (case kasked => k_is)
    (case aL => k_is)
    (case lL => k_is)
    (case cL => k_is)
    (case kL => k_is)
    (case aisn => k_is)
    (case lisn => k_is)
    (case cisn => k_is)
    (case kisn => k_is)
    (case arn => k_is)
    (case lrn => k_is)
    (case crn => k_is)
    (case krn => k_is)
    (case adl => k_is)
    (case ldl => k_is)
    (case cdl => k_is)
    (case kdl => k_is)
    (case alw => k_is)
    (case llw => k_is)
    (case clw => k_is)
    (case klw => k_is)
    (case arh => k_is)
    (case lrh => k_is)
    (case crh => k_is)
    (case krh => k_is)
    (case ard => k_is)
    (case lrd => k_is)
    (case crd => k_is)
    (case krd => k_is)
    (case z_len => k_is)
    (case z_list => k_is)
    (case z_range => k_is)
    (case z_isinstance => k_is)
    (case z_int => k_is)
    (case z_str => k_is)
    (case z_bool => k_is)
    (case z_tuple => k_is)
    (case z_all => k_is)
    (case z_zip => k_is)
    (case z_min => k_is)
    (case z_sorted => k_is)
    (case z_v => k_is)
    (case z_l => k_is)
    (case e0 => k_is)
    (case e1 => k_is)
    (case e2 => k_is)
    (case e3 => k_is)
    (case e4 => k_is)
    (case e5 => k_is)
    (case e6 => k_is)
    (case e7 => k_is)
    (case e8 => k_is)
    (case e9 => k_is)
    (case e10 => k_is)
    (case e11 => k_is)
    (case e12 => k_is)
    (case e13 => k_is)
    (case e14 => k_is)
    (case e15 => k_is)
    (case e16 => k_is)
    (case e17 => k_is)
    (case e18 => k_is)
    (case e19 => k_is)
    (case e20 => k_is)
    (case e21 => k_is)
    (case e22 => k_is)
    (case eC => k_is)
    (case eR => k_is)
    (case qC => kernel_rfl)
    (case qR => kernel_rfl)
    (case iB => k_is)
    (case lB => k_is)
    (case cBc => k_is)
    (case kBf => k_is)
    (case dB => k_is)
    (case spB => k_is)
    (case rd1 => kernel_rfl)
    (case rd2 => kernel_rfl)
    (case inB => kernel_rfl)
    (case stB => k_is)
    (case clB => kernel_rfl)
    (case tkB => k_is)
    (case kpB => k_is)
    (case tyB => k_is)
    (case cB => kernel_rfl)
    (case kt_16 => kernel_rfl)
    (case ktC_16 => kernel_rfl)
    (case ktV_16 => kernel_rfl)
    (case ktR_16 => kernel_rfl)
    (case ktL_16 => kernel_rfl)
    (case h1_16 => k_is)
    (case h2_16 => k_is)
    (case h3_16 => k_is)
    (case h4_16 => k_is)
    (case h5_16 => k_is)
    (case h6_16 => k_is)
    (case h7_16 => k_is)
    (case h8_16 => kernel_rfl)
    (case hdi16 => kernel_rfl)
    (case noi16 => k_is)
    (case aSH => k_is)
    (case lSH => k_is)
    (case sSH => kernel_rfl)

end
end
