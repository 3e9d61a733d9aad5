import PyProof.Rows.All
import Wide.All
import OpenK.AllK
import Wide.FinOn
import PyProof.EqAt
import PyProof.EqKinds
import PyProof.TupleCall
import KE.BitLaws
import KE.KSortTupG
import KE.KStar
import KE.KRevSl
import PySem.Challenge.RW_upleaf_k10_cards_as_they_are_shown
set_option Elab.async false
set_option linter.all false
set_option maxRecDepth 100000
section
section
/-! THE HAND LAYER, for ints, bools, texts, own classes, lists, tuples, dicts, comprehensions, walks over dicts, enumerate, zip, reversed, texts, calls, loops. Paste it whole ahead of your own text; what your proof does not reach may be deleted. -/
namespace L2
open PySem PySem.Spec PyProof.Rows

/-- a key: an int or a str -/
abbrev Key := Sum Int Str
def keyIs : Key → Value → Bool
  | .inl k, v => Value.isInt k v
  | .inr x, v => Value.isStrOf x v
def keyH (w : World) : Key → Int
  | .inl k => hashInt k
  | .inr x => hashStr w x
theorem keyIs_shape : ∀ {k : Key} {v : Value}, keyIs k v = true → (∃ i t, k = Sum.inl i ∧ v = Value.int i t) ∨ (∃ x t, k = Sum.inr x ∧ v = Value.str x t)
  | .inl i, v, h => by
    obtain ⟨t, e⟩ := Value.isInt_shape (k := i) (v := v) h
    exact .inl ⟨i, t, rfl, e⟩
  | .inr x, v, h => by
    obtain ⟨t, e⟩ := Value.isStrOf_shape (x := x) (v := v) h
    exact .inr ⟨x, t, rfl, e⟩
theorem key_ll (a b : Int) : decide ((Sum.inl a : Key) = Sum.inl b) = (a == b) := by
  by_cases e : a = b
  · subst e; simp
  · have h : ¬ (Sum.inl a : Key) = Sum.inl b := fun q => e (Sum.inl.inj q)
    rw [decide_eq_false h]
    exact (beq_eq_false_iff_ne.mpr e).symm
theorem key_rr (a b : Str) : decide ((Sum.inr a : Key) = Sum.inr b) = decide (a = b) := by
  by_cases e : a = b
  · subst e; simp
  · have h : ¬ (Sum.inr a : Key) = Sum.inr b := fun q => e (Sum.inr.inj q)
    rw [decide_eq_false h, decide_eq_false e]
theorem key_lr (a : Int) (b : Str) : decide ((Sum.inl a : Key) = Sum.inr b) = false := decide_eq_false (fun q => nomatch q)
theorem key_rl (a : Str) (b : Int) : decide ((Sum.inr a : Key) = Sum.inl b) = false := decide_eq_false (fun q => nomatch q)

def mixKind (prog : Program) (w : World) : PySem.KeyKind prog w Key where
  is := keyIs
  hash := keyH w
  inj := fun v a b ha hb => by
    rcases keyIs_shape ha with ⟨i, t, rfl, rfl⟩ | ⟨x, t, rfl, rfl⟩
    · rcases keyIs_shape hb with ⟨j, u, rfl, e⟩ | ⟨y, u, rfl, e⟩
      · injection e with e1 _; rw [e1]
      · exact nomatch e
    · rcases keyIs_shape hb with ⟨j, u, rfl, e⟩ | ⟨y, u, rfl, e⟩
      · exact nomatch e
      · injection e with e1 _; rw [e1]
  byValue := fun k v h => by
    rcases keyIs_shape h with ⟨i, t, rfl, rfl⟩ | ⟨x, t, rfl, rfl⟩ <;> rfl
  pyHash := fun hv h => by
    rcases keyIs_shape hv with ⟨i, t, rfl, rfl⟩ | ⟨x, t, rfl, rfl⟩
    · exact wpAny_pyHash_int h
    · exact wpAny_pyHash_str h
  eqBool := fun hu hv h => by
    rcases keyIs_shape hu with ⟨i, t, rfl, rfl⟩ | ⟨x, t, rfl, rfl⟩
    · rcases keyIs_shape hv with ⟨j, u, rfl, rfl⟩ | ⟨y, u, rfl, rfl⟩
      · rw [key_ll] at h; exact wpAny_eqBool_int h
      · rw [key_lr] at h; exact SeqAt.EqAt.int_str i t y u _ _ _ _ h
    · rcases keyIs_shape hv with ⟨j, u, rfl, rfl⟩ | ⟨y, u, rfl, rfl⟩
      · rw [key_rl] at h; exact SeqAt.EqAt.str_int x t j u _ _ _ _ h
      · rw [key_rr] at h; exact wpAny_eqBool_str h
  «strs» := fun k x t v h => by
    rcases keyIs_shape h with ⟨i, u, rfl, e⟩ | ⟨y, u, rfl, e⟩
    · exact nomatch e
    · injection e with e1 _
      subst e1
      cases v <;> rfl

end L2

namespace L2
open PySem PySem.Spec PyProof.Rows

/-- a value, without the heap -/
inductive V where
  | non | bl (b : Bool) | int (i : Int) | str (x : Str) | byt (b : Array UInt8) | flt (b : UInt64) | ref (a : Addr) | ty (n : String)
  deriving DecidableEq

def RelV : V → Value → Prop
  | .non, u => u = Value.none
  | .bl b, u => u = Value.bool b
  | .int i, u => ∃ t, u = Value.int i t
  | .str x, u => ∃ t, u = Value.str x t
  | .byt b, u => ∃ t, u = Value.bytes b t
  | .flt b, u => ∃ t, u = Value.float b t
  | .ref a, u => u = Value.ref a
  | .ty n, u => u = Value.type n

abbrev Vals : List V → List Value → Prop := Paired RelV
theorem Vals.length {xs : List V} {us : List Value} (r : Vals xs us) : xs.length = us.length := Paired.length r
theorem Vals.get : ∀ {xs : List V} {us : List Value} {i : Nat} {x : V}, Vals xs us → xs[i]? = some x → ∃ u, us[i]? = some u ∧ RelV x u
  | _, _, _, _, .nil, e => by simp at e
  | _, _, 0, _, .cons r _, e => by simp at e; subst e; exact ⟨_, rfl, r⟩
  | _, _, i + 1, x, .cons _ t, e => by
    obtain ⟨u, h1, h2⟩ := Vals.get (i := i) (x := x) t (by simpa using e)
    exact ⟨u, by simpa using h1, h2⟩
theorem Vals.set {x : V} {u : Value} (r : RelV x u) : ∀ {xs : List V} {us : List Value} (i : Nat), Vals xs us → Vals (xs.set i x) (us.set i u)
  | _, _, _, .nil => .nil
  | _, _, 0, .cons _ t => .cons r t
  | _, _, i + 1, .cons q t => .cons q (Vals.set r i t)
theorem Vals.append : ∀ {xs ys : List V} {us ws : List Value}, Vals xs us → Vals ys ws → Vals (xs ++ ys) (us ++ ws)
  | _, _, _, _, .nil, s => s
  | _, _, _, _, .cons r t, s => .cons r (Vals.append t s)
theorem Vals.take : ∀ {xs : List V} {us : List Value} (n : Nat), Vals xs us → Vals (xs.take n) (us.take n)
  | _, _, 0, _ => .nil
  | _, _, _ + 1, .nil => .nil
  | _, _, n + 1, .cons r t => .cons r (Vals.take n t)
theorem Vals.drop : ∀ {xs : List V} {us : List Value} (n : Nat), Vals xs us → Vals (xs.drop n) (us.drop n)
  | _, _, 0, r => r
  | _, _, _ + 1, .nil => .nil
  | _, _, n + 1, .cons _ t => Vals.drop n t

def RelO : Option V → Option Value → Prop
  | some v, some u => RelV v u
  | none, none => True
  | _, _ => False
def KV {κ : Type} : List (κ × V) → List (κ × Value) → Prop := Paired fun (p : κ × V) (q : κ × Value) => p.1 = q.1 ∧ RelV p.2 q.2

/-- a key of a dict (00_mix): an int or a text -/
def kV : Key → V
  | .inl i => .int i
  | .inr x => .str x

/-- what stands at a tracked address -/
inductive HO where
  /-- a list -/
  | lst (xs : List V)
  /-- a tuple (never changes) -/
  | tup (xs : List V)
  /-- a dict whose keys are ints and texts; one whose keys are tuples of ints and texts (the empty one is both) -/
  | dK (kvs : List (Key × V)) | dT (kvs : List (List Key × V))
  /-- a set of ints: its members, its size -/
  | set (S : Int → Bool) (n : Nat)
  /-- an instance of the class at C, its dict at dx, its attributes -/
  | ins (C dx : Addr) (fs : List (Str × V))
  /-- the dict of the instance at x -/
  | own (x : Addr)
  /-- the dict of an exception -/
  | xd (fs : List (Str × V))
  /-- a bound method, f of x -/
  | met (f x : Addr)
  /-- a range object lo, lo + 1, .. below hi -/
  | rng (lo hi : Int)
  /-- a thing that is known to the object (the script; a dict while a loop walks it): read, never written while it is so -/
  | frz (o : Obj) (u : HO)
  /-- a code object's table -/
  | tbl (ps : Array Value)
  /-- any other thing, by what is true of its one object (a def of one's own: SetO a S n := HO.ext fun h => ..) -/
  | ext (φ : Heap → Prop)

abbrev Hp := Addr → Option HO
def upd (H : Hp) (a : Addr) (o : HO) : Hp := fun b => if b = a then some o else H b
theorem upd_same {H : Hp} {a : Addr} {o : HO} : upd H a o a = some o := by unfold upd; rw [if_pos rfl]
theorem upd_ne {H : Hp} {a b : Addr} {o : HO} (h : b ≠ a) : upd H a o b = H b := by unfold upd; rw [if_neg h]
/-- two objects of different content stand apart -/
theorem ne_of {H : Hp} {a b : Addr} {o u : HO} (h : H a = some o) (h' : H b = some u) (d : o ≠ u) : a ≠ b := by
  intro e; subst e; rw [h] at h'; exact d (Option.some.inj h')
theorem ne_of_none {H : Hp} {a b : Addr} {o : HO} (h : H a = some o) (h' : H b = none) : a ≠ b := by
  intro e; subst e; rw [h] at h'; cases h'

section
variable (P : Program) (w : World)
def ObjOk (H : Hp) (h : Heap) (a : Addr) : HO → Prop
  | .lst xs => xs.length ≤ sizeLine ∧ ∃ (its : List Value) (n : Nat), Vals xs its ∧ h.get? a = some { cls := .type "list", data := .seq its.toArray n }
  | .tup xs => xs.length ≤ sizeLine ∧ ∃ its : List Value, Vals xs its ∧ IsTup h a its.toArray
  | .dK kvs => kvs.length ≤ sizeLine ∧ (a == sysModules) = false ∧ ∃ vs, KV kvs vs ∧ h.DictOf (mixKind P w) a vs
  | .dT kvs => kvs.length ≤ sizeLine ∧ (a == sysModules) = false ∧ ∃ xs : List (List Key × Addr × Value),
      Paired (fun (p : List Key × V) (q : List Key × Addr × Value) => p.1 = q.1 ∧ H q.2.1 = some (.tup (p.1.map kV)) ∧ RelV p.2 q.2.2) kvs xs ∧
      ∃ o es ep, h.get? a = some o ∧ o.ExactDict ∧ o.data = .dict es ep ∧ es.toList = xs.map (entryOfKey (tupleKind (mixKind P w))) ∧ (xs.map (·.1)).Nodup
  | .set S n => h.SetOf (intKind P w) a S n
  | .ins C dx fs => H dx = some (.own a) ∧ fs.length ≤ 1000 ∧ dx ≠ a ∧ h.get? a = some (PySem.W.instObj C dx) ∧
      ∃ mA, h.Ns1 dx mA ∧ (∀ f, RelO (fs.lookup f) (mA f)) ∧ PySem.Within mA (fs.map (·.1))
  | .own _ => ∃ o, h.get? a = some o
  | .xd fs => ∃ mA, h.Ns1 a mA ∧ ∀ f, RelO (fs.lookup f) (mA f)
  | .rng lo hi => ∃ t u v, h.get? a = some { cls := .type "range", data := .fields #[.int lo t, .int hi u, .int 1 v] }
  | .frz o u => h.get? a = some o ∧ ObjOk H h a u
  | .tbl ps => h.get? a = some { cls := .none, data := .fields ps }
  | .met f x => h.get? a = some (PySem.W.methodObj (.ref f) (.ref x))
  | .ext φ => φ h ∧ (∃ o, h.get? a = some o) ∧ ∀ h1 h2 : Heap, φ h1 → (∀ o, h1.get? a = some o → h2.get? a = some o) → φ h2
/-- the abstract heap is held -/
def HOk (H : Hp) (h : Heap) : Prop := ∀ a o, H a = some o → ObjOk P w H h a o
end

section
variable {P : Program} {w : World} {H H' : Hp} {h h' : Heap} {a : Addr} {o : HO}
theorem ObjOk.lt (x : ObjOk P w H h a o) : a < h.objs.size := by
  cases o with
  | lst xs => obtain ⟨_, _, _, _, e⟩ := x; exact Heap.lt_size e
  | tup xs => obtain ⟨_, _, _, p⟩ := x; exact p.lt
  | dK kvs => obtain ⟨_, _, _, _, o, _, _, e, _⟩ := x; exact Heap.lt_size e
  | dT kvs => obtain ⟨_, _, _, _, o, _, _, e, _⟩ := x; exact Heap.lt_size e
  | set S n => obtain ⟨o, _, _, _, e, _⟩ := x; exact Heap.lt_size e
  | ins C dx fs => obtain ⟨_, _, _, e, _⟩ := x; exact Heap.lt_size e
  | own y => obtain ⟨_, e⟩ := x; exact Heap.lt_size e
  | xd fs => obtain ⟨_, ⟨_, _, _, e, _⟩, _⟩ := x; exact Heap.lt_size e
  | rng lo hi => obtain ⟨_, _, _, e⟩ := x; exact Heap.lt_size e
  | frz ob u => obtain ⟨e, _⟩ := x; exact Heap.lt_size e
  | tbl ps => exact Heap.lt_size (show h.get? a = some _ from x)
  | met f y => exact Heap.lt_size (show h.get? a = some _ from x)
  | ext φ => obtain ⟨_, ⟨_, e⟩, _⟩ := x; exact Heap.lt_size e
theorem Paired.mapP {α β : Type} {F G : α → β → Prop} : ∀ {l₁ : List α} {l₂ : List β}, Paired F l₁ l₂ → (∀ a b, F a b → G a b) → Paired G l₁ l₂
  | _, _, .nil, _ => .nil
  | _, _, .cons r t, f => .cons (f _ _ r) (Paired.mapP t f)
theorem Paired.imp' {α β : Type} {F G : α → β → Prop} (f : ∀ a b, F a b → G a b) {l₁ : List α} {l₂ : List β} (r : Paired F l₁ l₂) : Paired G l₁ l₂ := Paired.mapP r f
/-- what an object's description leans on: its own object, its own dict, the tuples -/
theorem ObjOk.stay (x : ObjOk P w H h a o) (k : ∀ b u, (b = a ∨ H b = some (.own a)) → h.get? b = some u → h'.get? b = some u)
    (ho : ∀ b, H b = some (.own a) → H' b = some (.own a)) (ht : ∀ b xs, H b = some (.tup xs) → H' b = some (.tup xs)) : ObjOk P w H' h' a o := by
  induction o with
  | lst xs => obtain ⟨z, its, n, r, e⟩ := x; exact ⟨z, its, n, r, k _ _ (.inl rfl) e⟩
  | tup xs => obtain ⟨z, its, r, ob, e, c⟩ := x; exact ⟨z, its, r, ob, k _ _ (.inl rfl) e, c⟩
  | dK kvs => obtain ⟨z, y, vs, r, ob, es, ep, e, c⟩ := x; exact ⟨z, y, vs, r, ob, es, ep, k _ _ (.inl rfl) e, c⟩
  | dT kvs =>
    obtain ⟨z, y, xs, r, ob, es, ep, e, c⟩ := x
    exact ⟨z, y, xs, Paired.mapP r fun p q z => ⟨z.1, ht _ _ z.2.1, z.2.2⟩, ob, es, ep, k _ _ (.inl rfl) e, c⟩
  | set S n => obtain ⟨ob, es, ep, t, e, c⟩ := x; exact ⟨ob, es, ep, t, k _ _ (.inl rfl) e, c⟩
  | ins C dx fs =>
    obtain ⟨d, z, ne, e, mA, ⟨od, es, ep, e2, c⟩, r⟩ := x
    exact ⟨ho _ d, z, ne, k _ _ (.inl rfl) e, mA, ⟨od, es, ep, k _ _ (.inr d) e2, c⟩, r⟩
  | own y => obtain ⟨ob, e⟩ := x; exact ⟨ob, k _ _ (.inl rfl) e⟩
  | xd fs => obtain ⟨mA, ⟨od, es, ep, e, c⟩, r⟩ := x; exact ⟨mA, ⟨od, es, ep, k _ _ (.inl rfl) e, c⟩, r⟩
  | rng lo hi => obtain ⟨t, u, v, e⟩ := x; exact ⟨t, u, v, k _ _ (.inl rfl) e⟩
  | frz ob u ih => obtain ⟨e, q⟩ := x; exact ⟨k _ _ (.inl rfl) e, ih q⟩
  | tbl ps =>
    have e : h.get? a = some { cls := .none, data := .fields ps } := x
    show h'.get? a = some { cls := .none, data := .fields ps }
    exact k a _ (.inl rfl) e
  | met f y =>
    have e : h.get? a = some (PySem.W.methodObj (.ref f) (.ref y)) := x
    show h'.get? a = some (PySem.W.methodObj (.ref f) (.ref y))
    exact k a _ (.inl rfl) e
  | ext φ => obtain ⟨p, ⟨o, e⟩, st⟩ := x; exact ⟨st _ _ p fun o q => k _ _ (.inl rfl) q, ⟨o, k _ _ (.inl rfl) e⟩, st⟩
theorem HOk.lt (x : HOk P w H h) (e : H a = some o) : a < h.objs.size := (x a o e).lt
theorem HOk.fresh (x : HOk P w H h) (e : h.objs.size ≤ a) : H a = none := by
  cases q : H a with
  | none => rfl
  | some u => exact absurd (Nat.lt_of_lt_of_le (x.lt q) e) (Nat.lt_irrefl _)
/-- every object of the heap is kept -/
theorem HOk.kept (x : HOk P w H h) (k : ∀ b u, h.get? b = some u → h'.get? b = some u) : HOk P w H h' := fun a o e =>
  (x a o e).stay (fun b u _ q => k b u q) (fun _ q => q) fun _ _ q => q
/-- a new object is laid and tracked -/
theorem HOk.laid (x : HOk P w H h) (k : ∀ b u, h.get? b = some u → h'.get? b = some u) (hp : h.objs.size ≤ a) (new : ObjOk P w (upd H a o) h' a o) : HOk P w (upd H a o) h' := fun b u e => by
  have hn := x.fresh hp
  by_cases hb : b = a
  · subst hb; rw [upd_same] at e; cases e; exact new
  · rw [upd_ne hb] at e
    exact (x b u e).stay (fun c v _ q => k c v q) (fun c q => by rw [upd_ne (ne_of_none q hn)]; exact q) fun c xs q => by rw [upd_ne (ne_of_none q hn)]; exact q
end

/-- what may be read as u: it is u, or a known u -/
def Rd (H : Hp) (a : Addr) (u : HO) : Prop := H a = some u ∨ ∃ o, H a = some (.frz o u)
theorem Rd.ok {P : Program} {w : World} {H : Hp} {h : Heap} {a : Addr} {u : HO} (r : Rd H a u) (x : HOk P w H h) : ObjOk P w H h a u := by
  rcases r with r | ⟨o, r⟩
  · exact x a u r
  · obtain ⟨_, q⟩ := x a _ r
    exact q
/-- what may be written -/
def Mut : Option HO → Prop
  | some (.lst _) => True
  | some (.dK _) => True
  | some (.dT _) => True
  | some (.set _ _) => True
  | some (.ins _ _ _) => True
  | some (.ext _) => True
  | _ => False
section
variable {P : Program} {w : World} {H : Hp} {h h' : Heap} {x e : Addr} {o' : HO}
/-- the object at e is changed: x itself, or the dict of the instance x -/
theorem HOk.write (ok : HOk P w H h) (mu : Mut (H x)) (he : e = x ∨ H e = some (.own x)) (k : ∀ b u, b ≠ e → h.get? b = some u → h'.get? b = some u) (heo : ∃ u, h'.get? e = some u)
    (new : ObjOk P w (upd H x o') h' x o') : HOk P w (upd H x o') h' := fun b u q => by
  have nown : ∀ c y, H c = some (.own y) → c ≠ x := fun c y r z => by subst z; rw [r] at mu; exact mu
  have ntup : ∀ c xs, H c = some (.tup xs) → c ≠ x := fun c xs r z => by subst z; rw [r] at mu; exact mu
  by_cases hb : b = x
  · subst hb; rw [upd_same] at q; cases q; exact new
  · rw [upd_ne hb] at q
    by_cases hbe : b = e
    · have q' : H b = some (.own x) := by
        rcases he with z | z
        · exact absurd (hbe.trans z) hb
        · rw [hbe]; exact z
      rw [q] at q'; cases q'
      obtain ⟨v, hv⟩ := heo
      exact ⟨v, by rw [hbe]; exact hv⟩
    · refine (ok b u q).stay (fun c v hc r => k c v ?_ r) (fun c r => by rw [upd_ne (nown c b r)]; exact r) fun c xs r => by rw [upd_ne (ntup c xs r)]; exact r
      rcases hc with rfl | hc
      · exact hbe
      · rintro rfl
        rcases he with z | z
        · exact nown c b hc z
        · rw [hc] at z; cases z; exact hb rfl
end

/-! ### kept unless tracked; of the frames at fs (the callers') the slots may change (an exception that passes writes there); of the records at ex (iterators) nothing is said -/
structure Un (fs ex : List Addr) (H H' : Hp) (h h' : Heap) : Prop where
  keep : ∀ b o, h.get? b = some o → H b = none → b ∉ fs → b ∉ ex → h'.get? b = some o
  slot : ∀ b o, h.get? b = some o → H b = none → b ∈ fs → b ∉ ex → ∃ sl, h'.get? b = some { o with slots := sl }
  free : ∀ b o, h.get? b = some o → H b = none → b ∉ ex → H' b = none
  there : ∀ b o, h.get? b = some o → b ∉ ex → ∃ o', h'.get? b = some o'
  tups : ∀ b xs, H b = some (.tup xs) → H' b = some (.tup xs)
  frzs : ∀ b o u, H b = some (.frz o u) → H' b = some (.frz o u)
  tbls : ∀ b ps, H b = some (.tbl ps) → ∃ more, H' b = some (.tbl (ps ++ more))
section
variable {fs fs' ex ex' : List Addr} {H H1 H2 : Hp} {h h1 h2 h' : Heap} {a x e : Addr} {o : HO}
theorem Un.any (u : Un fs ex H H1 h h1) {b : Addr} {ob : Obj} (q : h.get? b = some ob) (n : H b = none) (hx : b ∉ ex) : ∃ sl, h1.get? b = some { ob with slots := sl } := by
  by_cases hb : b ∈ fs
  · exact u.slot b ob q n hb hx
  · exact ⟨ob.slots, u.keep b ob q n hb hx⟩
theorem Un.kept (k : ∀ b u, h.get? b = some u → h'.get? b = some u) : Un fs ex H H h h' :=
  ⟨fun b ob q _ _ _ => k b ob q, fun b ob q _ _ _ => ⟨ob.slots, k b ob q⟩, fun _ _ _ n _ => n, fun b ob q _ => ⟨ob, k b ob q⟩, fun _ _ q => q, fun _ _ _ q => q, fun _ ps q => ⟨#[], by rw [q]; simp⟩⟩
theorem Un.refl : Un fs ex H H h h := Un.kept fun _ _ q => q
theorem Un.laid (k : ∀ b u, h.get? b = some u → h'.get? b = some u) (hp : h.objs.size ≤ a) (hn : H a = none) : Un fs ex H (upd H a o) h h' where
  keep := fun b u q _ _ _ => k b u q
  slot := fun b u q _ _ _ => ⟨u.slots, k b u q⟩
  free := fun b u q n _ => by rw [upd_ne (Nat.ne_of_lt (Nat.lt_of_lt_of_le (Heap.lt_size q) hp))]; exact n
  there := fun b u q _ => ⟨u, k b u q⟩
  tups := fun b xs q => by rw [upd_ne (ne_of_none q hn)]; exact q
  frzs := fun b u xs q => by rw [upd_ne (ne_of_none q hn)]; exact q
  tbls := fun b ps q => ⟨#[], by rw [upd_ne (ne_of_none q hn), q]; simp⟩
theorem Un.write (mu : Mut (H x)) (he : e = x ∨ H e = some (.own x)) (k : ∀ b u, b ≠ e → h.get? b = some u → h'.get? b = some u) (heo : ∃ u, h'.get? e = some u) : Un fs ex H (upd H x o) h h' := by
  have hx : ∀ b, H b = none → b ≠ x := fun b n z => by subst z; rw [n] at mu; exact mu
  have hb : ∀ b, H b = none → b ≠ e := fun b n z => by
    subst z
    rcases he with r | r
    · exact hx b n r
    · rw [n] at r; cases r
  have hm : ∀ b u, H b = some u → ¬ Mut (some u) → b ≠ x := fun b u q nm z => by subst z; rw [q] at mu; exact nm mu
  refine ⟨fun b u q n _ _ => k b u (hb b n) q, fun b u q n _ _ => ⟨u.slots, k b u (hb b n) q⟩, fun b u q n _ => by rw [upd_ne (hx b n)]; exact n, fun b u q _ => ?_,
    fun b xs q => by rw [upd_ne (hm b _ q fun z => z)]; exact q, fun b u xs q => by rw [upd_ne (hm b _ q fun z => z)]; exact q, fun b ps q => ⟨#[], by rw [upd_ne (hm b _ q fun z => z), q]; simp⟩⟩
  by_cases hbe : b = e
  · subst hbe; exact heo
  · exact ⟨u, k b u hbe q⟩
end

/-! ### the heap without what is tracked -/
def trk (h : Heap) (H : Hp) : List Addr := (List.range h.objs.size).filter fun a => (H a).isSome
def hidT (h : Heap) (H : Hp) : Heap := PySem.W.hideAll h (trk h H)
theorem hidT_size (h : Heap) (H : Hp) : (hidT h H).objs.size = h.objs.size := PySem.W.hideAll_size _ _
theorem hidT_get {h : Heap} {H : Hp} {b : Addr} {o : Obj} (e : h.get? b = some o) (n : H b = none) : (hidT h H).get? b = some o :=
  PySem.W.hideAll_get _ e fun hm => by
    have q : (H b).isSome = true := (List.mem_filter.mp hm).2
    rw [n] at q; simp at q
theorem of_hidT {h : Heap} {H : Hp} {b : Addr} {o : Obj} (e : (hidT h H).get? b = some o) : h.get? b = some o ∧ H b = none := by
  have e' : h.get? b = some o := PySem.W.of_hideAll (trk h H) e
  refine ⟨e', ?_⟩
  cases q : H b with
  | none => rfl
  | some x =>
    have hm : b ∈ trk h H := List.mem_filter.mpr ⟨List.mem_range.mpr (Heap.lt_size e'), by simp [q]⟩
    have z : (hidT h H).get? b = none := PySem.W.hideAll_none (trk h H) hm
    rw [z] at e; cases e

/-! ### OpenK's ledger, filled with every new object but one -/
def allNews (g h : Heap) (L : Addr) : List (Addr × Obj) := (List.range h.objs.size).filterMap fun a => if a = L ∨ (g.get? a).isSome = true then none else (h.get? a).map fun o => (a, o)
def rest (g h : Heap) (L d : Addr) : List (Addr × Obj) := (allNews g h L).filter fun p => decide (p.1 ≠ d)
end L2

namespace L2
open PySem PySem.Spec PyProof.Rows

/-- the module's facts, over the base: the heap at the law's entry without what is tracked there -/
structure Mod (K : PySem.W.Frag) (mg : Str → Option Value) (base : Heap) : Prop where
  kin : K.In base
  glob : base.Ns mainGlobals mg
  blt : ∃ mb, base.Ns builtinsNs mb ∧ ∀ x : Str, x ≠ "__name__" → mb x = bootBuiltins x
  nolimit : base.NoLimit

/-- the context: a def's body (or a comprehension's block) running. base: fixed through the whole law; s₀, H₀: the entry; outer: the frames whose slots others may change (a def's callers); stack: all frames that run;
   ex: iterators that were made ahead of the entry and are walked here (a comprehension's); fn: the names whose cells were made at the entry (a def: all; a comprehension's block: its own); calm: not within an except suite; pn: pins that every state bears; xe: what is wanted of an exception that leaves the code -/
structure Cx where
  prog : Program
  w : World
  K : PySem.W.Frag
  mg : Str → Option Value
  base : Heap
  A : Around
  N : List Str
  s_0 : Shared
  H_0 : Hp
  env : Env
  outer : List Env
  stack : List Env
  ex : List Addr
  fn : Str → Bool
  calm : Bool
  pn : List (Addr × Obj)
  xe : Value → Shared → Prop
/-- the callers' frames -/
def frs (l : List Env) : List Addr := l.filterMap (·.frame)
abbrev Cx.fs (X : Cx) : List Addr := frs X.outer

def Vis (sc : Scope) (x : Str) : Prop := sc.names.lookup x = some .local ∨ sc.names.lookup x = some .cell ∨ sc.names.lookup x = some .free
def Loc (sc : Scope) (x : Str) : Prop := sc.names.lookup x = some .local ∨ sc.names.lookup x = some .cell
def Look (env : Env) (h : Heap) (m : Str → Option Value) (x : Str) (u : Value) : Prop :=
  (env.kindOf x = some .local ∧ m x = some u) ∨ ((env.kindOf x = some .cell ∨ env.kindOf x = some .free) ∧ ∃ c, env.cells.lookup x = some c ∧ h.IsCell c (some u))

structure Cx.Ok (X : Cx) : Prop where
  mod : Mod X.K X.mg X.base
  kind : X.env.scope.kind = .function
  glob : X.env.globals = mainGlobals
  blt : X.env.builtins = builtinsNs
  above : X.s_0.heap.objs.size ≤ X.env.locals
  inj : ∀ x y c, X.env.cells.lookup x = some c → X.env.cells.lookup y = some c → x = y
  has : ∀ x, (X.env.kindOf x = some .cell ∨ X.env.kindOf x = some .free) → ∃ c, X.env.cells.lookup x = some c
  cab : ∀ x c, X.fn x = true → X.env.cells.lookup x = some c → X.s_0.heap.objs.size ≤ c
  hd : X.calm = true → X.A.handled = none
  frames : X.A.frames = some X.stack
  stk : X.stack = X.outer ∨ (X.stack = X.env :: X.outer ∧ X.env.frame = some X.env.locals)
  exf : ∀ b ∈ X.ex, b ≠ X.env.locals ∧ ∀ x c, X.env.cells.lookup x = some c → c ≠ b
  bs : ∀ b o, X.base.get? b = some o → X.s_0.heap.get? b = some o ∧ X.H_0 b = none
  bsz : X.base.objs.size ≤ X.s_0.heap.objs.size
  noex : ∀ b o, X.base.get? b = some o → b ∉ X.ex
  exfs : ∀ b ∈ X.ex, b ∉ X.fs
  funs : X.s_0.heap.FunFrames X.base X.outer
  frf : ∀ b ∈ X.fs, X.H_0 b = none

structure Inv (X : Cx) (pins : List (Addr × Obj)) (σ : List (Option V)) (H : Hp) (s : Shared) : Prop where
  ok : X.Ok
  os : s.os = X.s_0.os
  bare : AllBare s.gens
  base : Un X.fs X.ex X.H_0 H X.s_0.heap s.heap
  loc : ∃ m, s.heap.Ns X.env.locals m ∧ ∀ (i : Nat) (x : Str) (v : V), X.N[i]? = some x → σ[i]? = some (some v) → Vis X.env.scope x → ∃ u, RelV v u ∧ Look X.env s.heap m x u
  cell : ∀ x c, X.env.cells.lookup x = some c → ∃ v, s.heap.IsCell c v
  free : H X.env.locals = none
  freeC : ∀ x c, X.env.cells.lookup x = some c → H c = none
  pin : ∀ p ∈ X.pn ++ pins, s.heap.get? p.1 = some p.2 ∧ H p.1 = none ∧ p.1 ≠ X.env.locals ∧ p.1 ∉ X.fs ∧ ∀ v, p.2.data ≠ .cell v
  hok : HOk X.prog X.w H s.heap
  len : σ.length = X.N.length

section
variable {X : Cx} {pins : List (Addr × Obj)} {σ : List (Option V)} {H H' : Hp} {s : Shared} {h' : Heap}

theorem Cx.Ok.nofr (ok : X.Ok) {b : Addr} {o : Obj} (e : X.base.get? b = some o) : b ∉ X.fs := fun hb => by
  have := (ok.funs.mem hb).1
  rw [e] at this; cases this
theorem Inv.bs (I : Inv X pins σ H s) : ∀ b o, X.base.get? b = some o → s.heap.get? b = some o ∧ H b = none := fun b o e =>
  ⟨I.base.keep b o (I.ok.bs b o e).1 (I.ok.bs b o e).2 (I.ok.nofr e) (I.ok.noex b o e), I.base.free b o (I.ok.bs b o e).1 (I.ok.bs b o e).2 (I.ok.noex b o e)⟩
theorem Inv.bk (I : Inv X pins σ H s) : ∀ b o, X.base.get? b = some o → s.heap.get? b = some o := fun b o e => (I.bs b o e).1
theorem Inv.mod (I : Inv X pins σ H s) : Mod X.K X.mg X.base := I.ok.mod
theorem Inv.kIn (I : Inv X pins σ H s) : X.K.In s.heap := I.ok.mod.kin.keeps I.bk
/-- the frame over the base: for OpenK's rules (K.In X.base is I.mod.kin) -/
theorem Inv.fr (I : Inv X pins σ H s) : ∃ m, Fr X.base X.env.locals s.heap m :=
  let ⟨m, hn, _⟩ := I.loc
  ⟨m, hn, I.bk, Nat.le_trans I.ok.bsz I.ok.above⟩
theorem Inv.lt (I : Inv X pins σ H s) : X.env.locals < s.heap.objs.size := let ⟨_, hn, _⟩ := I.loc; hn.lt
theorem Inv.sz (I : Inv X pins σ H s) : X.s_0.heap.objs.size ≤ s.heap.objs.size := Nat.le_trans I.ok.above (Nat.le_of_lt I.lt)
theorem Inv.nofs (I : Inv X pins σ H s) {a : Addr} (h : s.heap.objs.size ≤ a) : a ∉ X.fs := fun hb => by
  obtain ⟨_, o, ho, _⟩ := I.ok.funs.mem hb
  exact absurd (Nat.lt_of_lt_of_le (Heap.lt_size ho) (Nat.le_trans I.sz h)) (Nat.lt_irrefl _)
theorem Inv.cne (I : Inv X pins σ H s) : ∀ x c, X.env.cells.lookup x = some c → c ≠ X.env.locals := fun x c e z => by
  obtain ⟨v, o, ho, hd⟩ := I.cell x c e
  obtain ⟨m, ⟨o', es, ep, ho', hd', _⟩, _⟩ := I.loc
  rw [z, ho'] at ho; cases ho; rw [hd'] at hd; cases hd
theorem Inv.funs (I : Inv X pins σ H s) : s.heap.FunFrames X.base X.outer := by
  have all : ∀ (l : List Env), (∀ b ∈ frs l, b ∈ X.fs) → X.s_0.heap.FunFrames X.base l → s.heap.FunFrames X.base l := by
    intro l
    induction l with
    | nil => intro _ _; trivial
    | cons env r ih =>
      intro hs hl
      obtain ⟨hk, ⟨L, o, hf, hn, ho, hd⟩, hr⟩ := hl
      have hL : L ∈ X.fs := hs L (by unfold frs; rw [List.filterMap_cons, hf]; exact List.mem_cons_self)
      obtain ⟨sl, e⟩ := I.base.slot L o ho (I.ok.frf L hL) hL fun z => I.ok.exfs L z hL
      exact ⟨hk, ⟨L, _, hf, hn, e, hd⟩, ih (fun b hb => hs b (by unfold frs; rw [List.filterMap_cons, hf]; exact List.mem_cons_of_mem _ hb)) hr⟩
  exact all X.outer (fun _ hb => hb) I.ok.funs

/-- the frames that run, for a call -/
theorem Inv.stack (I : Inv X pins σ H s) : s.heap.FunFrames X.base X.stack := by
  rcases I.ok.stk with e | ⟨e, hf⟩
  · rw [e]; exact I.funs
  · rw [e]
    obtain ⟨m, hn, _⟩ := I.loc
    refine .cons (by rw [I.ok.kind]; decide) hf hn ?_ I.funs
    exact Heap.get?_none_of_le (Nat.le_trans I.ok.bsz I.ok.above)
theorem Inv.stkSub (I : Inv X pins σ H s) : ∀ b ∈ frs X.stack, b ∈ X.env.locals :: X.fs := fun b hb => by
  rcases I.ok.stk with e | ⟨e, hf⟩
  · rw [e] at hb; exact List.mem_cons_of_mem _ hb
  · rw [e] at hb
    unfold frs at hb
    rw [List.filterMap_cons, hf] at hb
    exact hb
theorem Inv.stkFree (I : Inv X pins σ H s) : ∀ b ∈ frs X.stack, H b = none := fun b hb => by
  rcases List.mem_cons.mp (I.stkSub b hb) with e | hb
  · rw [e]; exact I.free
  · obtain ⟨_, o, ho, _⟩ := I.ok.funs.mem hb
    exact I.base.free b o ho (I.ok.frf b hb) fun z => I.ok.exfs b z hb

/-- THE STEP: the untracked objects but the frame and the records at ch are kept (the callers' frames up to slots), the frame's map is kept, the new abstract heap is held -/
theorem Inv.step {g' : Array GenState} {t' : Nat} {d' : Drawn} {ch : List Addr} (I : Inv X pins σ H s)
    (hch : ∀ b ∈ ch, (b ∈ X.ex ∨ X.s_0.heap.objs.size ≤ b) ∧ b ≠ X.env.locals ∧ (∀ x c, X.env.cells.lookup x = some c → c ≠ b) ∧ ∀ p ∈ X.pn ++ pins, p.1 ≠ b)
    (keep : ∀ b o, b ≠ X.env.locals → b ∉ X.fs → b ∉ ch → s.heap.get? b = some o → H b = none → h'.get? b = some o)
    (slot : ∀ b o, b ≠ X.env.locals → b ∈ X.fs → b ∉ ch → s.heap.get? b = some o → H b = none → ∃ sl, h'.get? b = some { o with slots := sl }) (free : ∀ b o, b ∉ ch → s.heap.get? b = some o → H b = none → H' b = none)
    (there : ∀ b o, b ∉ ch → s.heap.get? b = some o → ∃ o', h'.get? b = some o')
    (tups : ∀ b xs, H b = some (.tup xs) → H' b = some (.tup xs)) (frzs : ∀ b o u, H b = some (.frz o u) → H' b = some (.frz o u)) (tbls : ∀ b ps, H b = some (.tbl ps) → ∃ more, H' b = some (.tbl (ps ++ more)))
    (ns : ∀ m, s.heap.Ns X.env.locals m → h'.Ns X.env.locals m) (hok : HOk X.prog X.w H' h') (hg : AllBare g') :
    Inv X pins σ H' { s with heap := h', gens := g', drawn := d', toks := t' } := by
  have neL : ∀ b o, X.s_0.heap.get? b = some o → b ≠ X.env.locals := fun b o e => Nat.ne_of_lt (Nat.lt_of_lt_of_le (Heap.lt_size e) I.ok.above)
  have neC : ∀ b o, X.s_0.heap.get? b = some o → b ∉ X.ex → b ∉ ch := fun b o e hx hb => by
    rcases (hch b hb).1 with z | z
    · exact hx z
    · exact absurd (Nat.lt_of_lt_of_le (Heap.lt_size e) z) (Nat.lt_irrefl _)
  have cellK : ∀ x c, X.env.cells.lookup x = some c → ∀ v, s.heap.IsCell c v → h'.IsCell c v := fun x c e v ⟨o, ho, hd⟩ => by
    have nch : c ∉ ch := fun z => (hch c z).2.2.1 x c e rfl
    by_cases hc : c ∈ X.fs
    · obtain ⟨sl, q⟩ := slot c o (I.cne x c e) hc nch ho (I.freeC x c e)
      exact ⟨_, q, hd⟩
    · exact ⟨o, keep c o (I.cne x c e) hc nch ho (I.freeC x c e), hd⟩
  refine ⟨I.ok, I.os, hg, ⟨fun b o e n hb hx => ?_, fun b o e n hb hx => ?_, fun b o e n hx => ?_, fun b o e hx => ?_, fun b xs e => tups b xs (I.base.tups b xs e), fun b o xs e => frzs b o xs (I.base.frzs b o xs e), fun b ps e => ?_⟩, ?_, fun x c e => ?_, ?_, fun x c e => ?_, fun p hp => ?_, hok, I.len⟩
  · exact keep b o (neL b o e) hb (neC b o e hx) (I.base.keep b o e n hb hx) (I.base.free b o e n hx)
  · obtain ⟨sl, e1⟩ := I.base.slot b o e n hb hx
    obtain ⟨sl', e2⟩ := slot b _ (neL b o e) hb (neC b o e hx) e1 (I.base.free b o e n hx)
    exact ⟨sl', e2⟩
  · obtain ⟨o', e1⟩ := I.base.there b o e hx
    exact free b o' (neC b o e hx) e1 (I.base.free b o e n hx)
  · obtain ⟨o', e1⟩ := I.base.there b o e hx
    exact there b o' (neC b o e hx) e1
  · obtain ⟨m1, e1⟩ := I.base.tbls b ps e
    obtain ⟨m2, e2⟩ := tbls b _ e1
    exact ⟨m1 ++ m2, by rw [e2, Array.append_assoc]⟩
  · obtain ⟨m, hn, hl⟩ := I.loc
    refine ⟨m, ns m hn, fun i x v e1 e2 e3 => ?_⟩
    obtain ⟨u, r, l⟩ := hl i x v e1 e2 e3
    refine ⟨u, r, ?_⟩
    rcases l with l | ⟨k, c, e, z⟩
    · exact .inl l
    · exact .inr ⟨k, c, e, cellK x c e _ z⟩
  · obtain ⟨v, z⟩ := I.cell x c e
    exact ⟨v, cellK x c e v z⟩
  · obtain ⟨m, ⟨o, _, _, ho, _⟩, _⟩ := I.loc
    exact free _ o (fun z => (hch _ z).2.1 rfl) ho I.free
  · obtain ⟨v, o, ho, hd⟩ := I.cell x c e
    exact free c o (fun z => (hch c z).2.2.1 x c e rfl) ho (I.freeC x c e)
  · obtain ⟨e, n, ne, nf, d⟩ := I.pin p hp
    have nch : p.1 ∉ ch := fun z => (hch p.1 z).2.2.2 p hp rfl
    exact ⟨keep p.1 p.2 ne nf nch e n, free p.1 p.2 nch e n, ne, nf, d⟩
/-- .. where the frame's own object is kept too -/
theorem Inv.un {t' : Nat} (I : Inv X pins σ H s) (u : Un X.fs [] H H' s.heap h') (hok : HOk X.prog X.w H' h') : Inv X pins σ H' { s with heap := h', toks := t' } := by
  obtain ⟨m, ⟨o, es, ep, ho, r⟩, _⟩ := id I.loc
  obtain ⟨sl, hL⟩ := u.any ho I.free (by simp)
  exact I.step (g' := s.gens) (d' := s.drawn) (ch := []) (fun _ z => nomatch z) (fun b o _ hb _ e n => u.keep b o e n hb (by simp)) (fun b o _ hb _ e n => u.slot b o e n hb (by simp)) (fun b o _ e n => u.free b o e n (by simp)) (fun b o _ e => u.there b o e (by simp)) u.tups u.frzs u.tbls (fun m' hm => by
    obtain ⟨o', es', ep', ho', r'⟩ := hm
    rw [ho] at ho'; cases ho'
    exact ⟨_, es', ep', hL, r'⟩) hok I.bare
/-- behind a call (or a comprehension's block): the slots of this frame may have changed too, the records at ch may have turned -/
theorem Inv.call {g' : Array GenState} {t' : Nat} {d' : Drawn} {ch : List Addr} (I : Inv X pins σ H s) (u : Un (frs X.stack) ch H H' s.heap h') (hok : HOk X.prog X.w H' h') (hg : AllBare g')
    (hch : ∀ b ∈ ch, (b ∈ X.ex ∨ X.s_0.heap.objs.size ≤ b) ∧ b ≠ X.env.locals ∧ (∀ x c, X.env.cells.lookup x = some c → c ≠ b) ∧ ∀ p ∈ X.pn ++ pins, p.1 ≠ b) :
    Inv X pins σ H' { s with heap := h', gens := g', drawn := d', toks := t' } := by
  obtain ⟨m, ⟨o, es, ep, ho, r⟩, _⟩ := id I.loc
  obtain ⟨sl, hL⟩ := u.any ho I.free fun z => (hch _ z).2.1 rfl
  exact I.step (ch := ch) hch (fun b o hL hb hc e n => u.keep b o e n (fun z => (List.mem_cons.mp (I.stkSub b z)).elim hL hb) hc) (fun b o _ _ hc e n => u.any e n hc) (fun b o hc e n => u.free b o e n hc) (fun b o hc e => u.there b o e hc) u.tups u.frzs u.tbls (fun m' hm => by
    obtain ⟨o', es', ep', ho', r'⟩ := hm
    rw [ho] at ho'; cases ho'
    exact ⟨_, es', ep', hL, r'⟩) hok hg
/-- an untracked record of ours (an iterator) has turned -/
theorem Inv.turned {t' : Nat} {it : Addr} (I : Inv X pins σ H s) (k : ∀ b o, b ≠ it → s.heap.get? b = some o → h'.get? b = some o) (hn : H it = none) (hL : it ≠ X.env.locals)
    (h1 : it ∈ X.ex ∨ X.s_0.heap.objs.size ≤ it) (h2 : ∀ x c, X.env.cells.lookup x = some c → c ≠ it) (h3 : ∀ p ∈ X.pn ++ pins, p.1 ≠ it) : Inv X pins σ H { s with heap := h', toks := t' } := by
  have nit : ∀ b u, H b = some u → b ≠ it := fun b u e z => by rw [z, hn] at e; cases e
  refine I.step (g' := s.gens) (d' := s.drawn) (ch := [it]) (fun b hb => ?_) (fun b o _ _ hc e _ => k b o (fun z => hc (by simp [z])) e) (fun b o _ _ hc e _ => ⟨o.slots, k b o (fun z => hc (by simp [z])) e⟩) (fun _ _ _ _ n => n)
    (fun b o hc e => ⟨o, k b o (fun z => hc (by simp [z])) e⟩) (fun _ _ e => e) (fun _ _ _ e => e) (fun b ps e => ⟨#[], by rw [e]; simp⟩) (fun m hm => ?_) (fun b u e => ?_) I.bare
  · have e : b = it := by simpa using hb
    subst e
    exact ⟨h1, hL, h2, h3⟩
  · obtain ⟨o, es, ep, ho, r⟩ := hm
    exact ⟨o, es, ep, k _ o (Ne.symm hL) ho, r⟩
  · refine (I.hok b u e).stay (fun c v hc q => k c v ?_ q) (fun _ q => q) fun _ _ q => q
    rcases hc with z | z
    · rw [z]; exact nit b u e
    · exact nit c _ z
theorem Inv.tok (I : Inv X pins σ H s) (t : Nat) : Inv X pins σ H { s with toks := t } := I.un (h' := s.heap) (t' := t) Un.refl I.hok
/-- all objects kept -/
theorem Inv.kept {t' : Nat} (I : Inv X pins σ H s) (k : ∀ b u, s.heap.get? b = some u → h'.get? b = some u) : Inv X pins σ H { s with heap := h', toks := t' } := I.un (Un.kept k) (I.hok.kept k)
/-- a new object laid and tracked -/
theorem Inv.laid {a : Addr} {o : HO} {t' : Nat} (I : Inv X pins σ H s) (k : ∀ b u, s.heap.get? b = some u → h'.get? b = some u) (hp : s.heap.objs.size ≤ a) (new : ObjOk X.prog X.w (upd H a o) h' a o) :
    Inv X pins σ (upd H a o) { s with heap := h', toks := t' } := I.un (Un.laid k hp (I.hok.fresh hp)) (I.hok.laid k hp new)
/-- an object written -/
theorem Inv.write {x e : Addr} {o : HO} {t' : Nat} (I : Inv X pins σ H s) (mu : Mut (H x)) (he : e = x ∨ H e = some (.own x)) (k : ∀ b u, b ≠ e → s.heap.get? b = some u → h'.get? b = some u) (heo : ∃ u, h'.get? e = some u)
    (new : ObjOk X.prog X.w (upd H x o) h' x o) : Inv X pins σ (upd H x o) { s with heap := h', toks := t' } := I.un (Un.write mu he k heo) (I.hok.write mu he k heo new)
/-- forgetting slots, pins -/
theorem Inv.weak {σ' : List (Option V)} (I : Inv X pins σ H s) (hl : σ'.length = σ.length) (w : ∀ (i : Nat) v, σ'[i]? = some (some v) → σ[i]? = some (some v)) : Inv X pins σ' H s :=
  ⟨I.ok, I.os, I.bare, I.base, let ⟨m, hn, hl'⟩ := I.loc; ⟨m, hn, fun i x v e1 e2 e3 => hl' i x v e1 (w i v e2) e3⟩, I.cell, I.free, I.freeC, I.pin, I.hok, hl.trans I.len⟩
theorem Inv.pins_of {pins' : List (Addr × Obj)} (I : Inv X pins σ H s) (h : ∀ p ∈ pins', s.heap.get? p.1 = some p.2 ∧ H p.1 = none ∧ p.1 ≠ X.env.locals ∧ p.1 ∉ X.fs ∧ ∀ v, p.2.data ≠ .cell v) : Inv X pins' σ H s :=
  ⟨I.ok, I.os, I.bare, I.base, I.loc, I.cell, I.free, I.freeC, fun p hp => (List.mem_append.mp hp).elim (fun z => I.pin p (List.mem_append_left _ z)) (h p), I.hok, I.len⟩

theorem nodup_ix {N : List Str} (hN : N.Nodup) {i j : Nat} {x : Str} (a : N[i]? = some x) (b : N[j]? = some x) : i = j := by
  obtain ⟨h1, e1⟩ := List.getElem?_eq_some_iff.mp a
  obtain ⟨h2, e2⟩ := List.getElem?_eq_some_iff.mp b
  exact (List.getElem_inj hN).mp (e1.trans e2.symm)

/-- a name is stored; what changed -/
theorem store_ok2 {M : Model} {A : Around} {E : Value → Shared → Prop} {i : Nat} {x : Str} {v : V} {u : Value} {Q : Unit → Shared → Prop} (I : Inv X pins σ H s) (hN : X.N.Nodup) (hi : X.N[i]? = some x) (hx : Loc X.env.scope x) (r : RelV v u)
    (h : ∀ s', Inv X pins (σ.set i (some v)) H s' → (∃ a, Heap.SameBut a s.heap s'.heap ∧ (a = X.env.locals ∨ X.env.cells.lookup x = some a)) → Q () s') (hf : X.fn x = true ∨ X.env.scope.names.lookup x = some .local := by first | exact .inl rfl | exact .inr rfl | assumption) : wpAny M A (storeName X.env x u) Q E s := by
  obtain ⟨m, hn, hl⟩ := id I.loc
  have hcls : (X.env.scope.kind == .class || (X.env.scope.kind == .module && X.env.locals != X.env.globals)) = false := by rw [I.ok.kind]; rfl
  have hiσ : i < σ.length := by rw [I.len]; exact (List.getElem?_eq_some_iff.mp hi).1
  have cne := I.cne
  have tracked : ∀ {a : Addr} {h' : Heap}, (∃ o, s.heap.get? a = some o ∧ H a = none) → Heap.SameBut a s.heap h' → HOk X.prog X.w H h' := fun {a h'} ha hs b ob e => by
    obtain ⟨_, _, hfree⟩ := ha
    refine (I.hok b ob e).stay (fun c w' hc q => (hs.2 c ?_).trans q) (fun _ q => q) fun _ _ q => q
    rintro rfl
    rcases hc with rfl | hc
    · rw [hfree] at e; cases e
    · rw [hfree] at hc; cases hc
  rcases hx with hk | hk
  · refine wpAny_storeName_local hk hn (fun h' hn' hs => ?_) hcls
    obtain ⟨oL, _, _, hoL, _⟩ := id hn
    refine h _ ⟨I.ok, I.os, I.bare, ⟨fun b o e n hb hx => ?_, fun b o e n hb hx => ?_, I.base.free, fun b o e hx => ?_, I.base.tups, I.base.frzs, I.base.tbls⟩, ⟨_, hn', fun j y v' e1 e2 e3 => ?_⟩, fun y c e => ?_, I.free, I.freeC, fun p hp => ?_, tracked ⟨oL, hoL, I.free⟩ hs, by simpa using I.len⟩ ⟨_, hs, .inl rfl⟩
    · exact (hs.2 b (Nat.ne_of_lt (Nat.lt_of_lt_of_le (Heap.lt_size e) I.ok.above))).trans (I.base.keep b o e n hb hx)
    · obtain ⟨sl, e1⟩ := I.base.slot b o e n hb hx
      exact ⟨sl, (hs.2 b (Nat.ne_of_lt (Nat.lt_of_lt_of_le (Heap.lt_size e) I.ok.above))).trans e1⟩
    · obtain ⟨o', e1⟩ := I.base.there b o e hx
      exact ⟨o', (hs.2 b (Nat.ne_of_lt (Nat.lt_of_lt_of_le (Heap.lt_size e) I.ok.above))).trans e1⟩
    · by_cases hj : j = i
      · subst hj
        rw [hi] at e1; cases e1
        rw [List.getElem?_set_self hiσ] at e2
        cases e2
        exact ⟨u, r, .inl ⟨hk, by simp⟩⟩
      · rw [List.getElem?_set_ne (Ne.symm hj)] at e2
        obtain ⟨u', r', q⟩ := hl j y v' e1 e2 e3
        refine ⟨u', r', ?_⟩
        rcases q with ⟨k, e⟩ | ⟨k, c, e, z⟩
        · refine .inl ⟨k, ?_⟩
          have : y ≠ x := fun e => hj (nodup_ix hN e1 (e ▸ hi))
          simp [this, e]
        · exact .inr ⟨k, c, e, z.sameBut hs (cne y c e)⟩
    · obtain ⟨w', z⟩ := I.cell y c e
      exact ⟨w', z.sameBut hs (cne y c e)⟩
    · obtain ⟨e, n, ne, nf, d⟩ := I.pin p hp
      exact ⟨(hs.2 p.1 ne).trans e, n, ne, nf, d⟩
  · have hfn : X.fn x = true := by
      rcases hf with z | z
      · exact z
      · rw [z] at hk; cases hk
    obtain ⟨c, hc⟩ := I.ok.has x (.inl hk)
    obtain ⟨w', z⟩ := I.cell x c hc
    refine wpAny_storeName_cell I.ok.kind hk hc z (fun h' hc' hs => ?_)
    obtain ⟨oc, hoc, hocd⟩ := id z
    refine h { s with heap := h' } ⟨I.ok, I.os, I.bare, ⟨fun b o e n hb hx => ?_, fun b o e n hb hx => ?_, I.base.free, fun b o e hx => ?_, I.base.tups, I.base.frzs, I.base.tbls⟩, ⟨m, hn.sameBut hs (Ne.symm (cne x c hc)), fun j y v' e1 e2 e3 => ?_⟩, fun y c' e => ?_, I.free, I.freeC, fun p hp => ?_, tracked ⟨oc, hoc, I.freeC x c hc⟩ hs, by simpa using I.len⟩ ⟨c, hs, .inr hc⟩
    · exact (hs.2 b (Nat.ne_of_lt (Nat.lt_of_lt_of_le (Heap.lt_size e) (I.ok.cab x c hfn hc)))).trans (I.base.keep b o e n hb hx)
    · obtain ⟨sl, e1⟩ := I.base.slot b o e n hb hx
      exact ⟨sl, (hs.2 b (Nat.ne_of_lt (Nat.lt_of_lt_of_le (Heap.lt_size e) (I.ok.cab x c hfn hc)))).trans e1⟩
    · obtain ⟨o', e1⟩ := I.base.there b o e hx
      exact ⟨o', (hs.2 b (Nat.ne_of_lt (Nat.lt_of_lt_of_le (Heap.lt_size e) (I.ok.cab x c hfn hc)))).trans e1⟩
    · by_cases hj : j = i
      · subst hj
        rw [hi] at e1; cases e1
        rw [List.getElem?_set_self hiσ] at e2
        cases e2
        exact ⟨u, r, .inr ⟨.inl hk, c, hc, hc'⟩⟩
      · rw [List.getElem?_set_ne (Ne.symm hj)] at e2
        obtain ⟨u', r', q⟩ := hl j y v' e1 e2 e3
        refine ⟨u', r', ?_⟩
        rcases q with q | ⟨k, c', e, z'⟩
        · exact .inl q
        · refine .inr ⟨k, c', e, z'.sameBut hs ?_⟩
          rintro rfl
          exact hj (nodup_ix hN e1 (I.ok.inj _ _ _ e hc ▸ hi))
    · by_cases hcc : c' = c
      · subst hcc; exact ⟨_, hc'⟩
      · obtain ⟨w2, z2⟩ := I.cell y c' e
        exact ⟨w2, z2.sameBut hs hcc⟩
    · obtain ⟨e, n, ne, nf, d⟩ := I.pin p hp
      refine ⟨(hs.2 p.1 ?_).trans e, n, ne, nf, d⟩
      intro q
      rw [q, hoc] at e
      have q' : oc = p.2 := Option.some.inj e
      exact d w' (by rw [← q']; exact hocd)
theorem store_ok {M : Model} {A : Around} {E : Value → Shared → Prop} {i : Nat} {x : Str} {v : V} {u : Value} {Q : Unit → Shared → Prop} (I : Inv X pins σ H s) (hN : X.N.Nodup) (hi : X.N[i]? = some x) (hx : Loc X.env.scope x) (r : RelV v u)
    (h : ∀ s', Inv X pins (σ.set i (some v)) H s' → Q () s') (hf : X.fn x = true ∨ X.env.scope.names.lookup x = some .local := by first | exact .inl rfl | exact .inr rfl | assumption) : wpAny M A (storeName X.env x u) Q E s :=
  store_ok2 I hN hi hx r (fun s' I' _ => h s' I') hf
/-- behind a call or a block, the state as it is -/
theorem Inv.call' {s' : Shared} {ch : List Addr} (I : Inv X pins σ H s) (ho : s'.os = s.os) (u : Un (frs X.stack) ch H H' s.heap s'.heap) (hok : HOk X.prog X.w H' s'.heap) (hg : AllBare s'.gens)
    (hch : ∀ b ∈ ch, (b ∈ X.ex ∨ X.s_0.heap.objs.size ≤ b) ∧ b ≠ X.env.locals ∧ (∀ x c, X.env.cells.lookup x = some c → c ≠ b) ∧ ∀ p ∈ X.pn ++ pins, p.1 ≠ b) : Inv X pins σ H' s' := by
  obtain ⟨h', g', d', t', o'⟩ := s'
  have e : o' = s.os := ho
  subst e
  exact I.call (g' := g') (t' := t') (d' := d') u hok hg hch
end

/-! ### the judgements -/
/-- an exception: its class, its own dict's address (where it has one), the abstract heap behind it -/
abbrev XK := Value → Option Addr → Hp → Prop
abbrev St := List (Option V)
abbrev VK := V → Hp → Prop
/-- an expression's reading; a test's; an argument list's -/
abbrev TE := St → Hp → VK → Prop
abbrev TT := St → Hp → (Bool → Hp → Prop) → Prop
abbrev TA := St → Hp → (List V → Hp → Prop) → Prop
/-- what is wanted behind a statement -/
structure Ends where
  nx : St → Hp → Prop
  rt : VK
  bk : St → Hp → Prop := fun _ _ => False
  ct : St → Hp → Prop := fun _ _ => False
abbrev TS := Ends → St → Hp → Prop

def EP (X : Cx) (pins : List (Addr × Obj)) (σ : St) (Q : VK) (u : Value) (s' : Shared) : Prop := ∃ v H', Inv X pins σ H' s' ∧ RelV v u ∧ Q v H'
def TP (X : Cx) (pins : List (Addr × Obj)) (σ : St) (Q : Bool → Hp → Prop) (b : Bool) (s' : Shared) : Prop := ∃ H', Inv X pins σ H' s' ∧ Q b H'
def AP (X : Cx) (pins : List (Addr × Obj)) (σ : St) (Q : List V → Hp → Prop) (us : List Value) (s' : Shared) : Prop := ∃ vs H', Inv X pins σ H' s' ∧ Vals vs us ∧ Q vs H'
def SP (X : Cx) (pins : List (Addr × Obj)) (D : Ends) (f : Flow) (s' : Shared) : Prop :=
  match f with
  | .next => ∃ σ' H', Inv X pins σ' H' s' ∧ D.nx σ' H'
  | .brk => ∃ σ' H', Inv X pins σ' H' s' ∧ D.bk σ' H'
  | .cont => ∃ σ' H', Inv X pins σ' H' s' ∧ D.ct σ' H'
  | .ret u => ∃ v σ' H', Inv X pins σ' H' s' ∧ RelV v u ∧ D.rt v H'

def PE (X : Cx) (e : Expr) (t : TE) : Prop :=
  ∀ (pins : List (Addr × Obj)) (s : Shared) (σ : St) (H : Hp) (Q : VK), Inv X pins σ H s → t σ H Q → wpAny (model X.prog X.w) X.A (eval e X.env) (EP X pins σ Q) X.xe s
def PT (X : Cx) (e : Expr) (t : TT) : Prop :=
  ∀ (pins : List (Addr × Obj)) (s : Shared) (σ : St) (H : Hp) (Q : Bool → Hp → Prop), Inv X pins σ H s → t σ H Q → wpAny (model X.prog X.w) X.A (isTrue e X.env (eval e X.env)) (TP X pins σ Q) X.xe s
/-- a test whatever its 'whole' is (and, or) -/
def PW (X : Cx) (e : Expr) (t : TT) : Prop :=
  ∀ (whole : Sem Value) (pins : List (Addr × Obj)) (s : Shared) (σ : St) (H : Hp) (Q : Bool → Hp → Prop), Inv X pins σ H s → t σ H Q → wpAny (model X.prog X.w) X.A (isTrue e X.env whole) (TP X pins σ Q) X.xe s
theorem PW.pt {X : Cx} {e : Expr} {t : TT} (h : PW X e t) : PT X e t := h _
/-- an argument list (no star), from the left -/
def PA (X : Cx) (es : List Expr) (t : TA) : Prop :=
  ∀ (pos : Pos) (pins : List (Addr × Obj)) (s : Shared) (σ : St) (H : Hp) (Q : List V → Hp → Prop), Inv X pins σ H s → t σ H Q → wpAny (model X.prog X.w) X.A (spliced (backTo pos (starEach es X.env))) (AP X pins σ Q) X.xe s
def PS (X : Cx) (st : Stmt) (t : TS) : Prop :=
  ∀ (pins : List (Addr × Obj)) (s : Shared) (σ : St) (H : Hp) (D : Ends), Inv X pins σ H s → t D σ H → wpAny (model X.prog X.w) X.A (exec st X.env) (SP X pins D) X.xe s
def PSs (X : Cx) (st : List Stmt) (t : TS) : Prop :=
  ∀ (pins : List (Addr × Obj)) (s : Shared) (σ : St) (H : Hp) (D : Ends), Inv X pins σ H s → t D σ H → wpAny (model X.prog X.w) X.A (execs st X.env) (SP X pins D) X.xe s
/-- weaken the end -/
theorem thn {α : Type} {t : Sem α} {Q Q' : α → Shared → Prop} {M : Model} {A : Around} {E : Value → Shared → Prop} {s : Shared} (h : wpAny M A t Q E s) (hQ : ∀ a s, Q a s → Q' a s) : wpAny M A t Q' E s := wpAny_mono h hQ fun _ _ x => x
end L2

namespace L2
open PySem PySem.Spec PyProof.Rows
section
variable {X : Cx}


/-! ### names and constants -/
def tVar (i : Nat) : TE := fun σ H Q => ∃ v, σ[i]? = some (some v) ∧ Q v H
def tC (v : V) : TE := fun _ H Q => Q v H
theorem pe_var {i : Nat} {x : Str} {pos : Pos} (hN : X.N[i]? = some x) (hv : Vis X.env.scope x) (hd : (x == ("__debug__" : Str)) = false := by decide) (hcd : (x == ("__classdict__" : Str)) = false := by decide) : PE X (.Name x pos) (tVar i) := by
  intro pins s σ H Q I h
  obtain ⟨v, e, h⟩ := h
  obtain ⟨m, hn, hl⟩ := I.loc
  obtain ⟨u, r, l⟩ := hl i x v hN e hv
  have fin : EP X pins σ Q u s := ⟨v, H, I, r, h⟩
  rcases l with ⟨hk, hm⟩ | ⟨hk, c, hc, hcell⟩
  · exact wpAny_Name (wpAny_loadName_local I.ok.kind hk hn hm fin) hd
  · rcases hk with hk | hk
    · exact wpAny_Name (wpAny_loadName_cell I.ok.kind hk hc hcell fin) hd
    · exact wpAny_Name (wpAny_loadName_free I.ok.kind hk hc hcell fin hcd) hd
theorem pe_int {i j pos} : PE X (.Constant (.int i) j pos) (tC (.int i)) := fun _ _ _ H _ I h => wpAny_Constant_int ⟨.int i, H, I.tok _, ⟨_, rfl⟩, h⟩
theorem pe_bl {b j pos} : PE X (.Constant (.bool b) j pos) (tC (.bl b)) := fun _ _ _ H _ I h => Constant_bool ⟨.bl b, H, I, rfl, h⟩
theorem pe_non {j pos} : PE X (.Constant .none j pos) (tC .non) := fun _ _ _ H _ I h => Constant_none ⟨.non, H, I, rfl, h⟩
theorem pe_str {x j pos} : PE X (.Constant (.str x) j pos) (tC (.str x)) := fun _ _ _ H _ I h => Calls.Constant_str ⟨.str x, H, I.tok _, ⟨_, rfl⟩, h⟩

/-- a global name of the def -/
def Gl (X : Cx) (x : Str) : Prop := X.env.kindOf x = some .globalImplicit
theorem ld_glob {E : Value → Shared → Prop} {pins : List (Addr × Obj)} {s : Shared} {σ : St} {H : Hp} {x : Str} {u : Value} {pos : Pos} {Q : Value → Shared → Prop} (I : Inv X pins σ H s) (hg : Gl X x) (hm : X.mg x = some u) (h : Q u s)
    (hd : (x == ("__debug__" : Str)) = false := by decide) : wpAny (model X.prog X.w) X.A (eval (.Name x pos) X.env) Q E s :=
  Calls.Name_function_global I.ok.kind hg (Calls.loadGlobal_global (by rw [I.ok.glob]; exact I.mod.glob.keeps I.bk) hm h) hd
theorem ld_blt {E : Value → Shared → Prop} {pins : List (Addr × Obj)} {s : Shared} {σ : St} {H : Hp} {x : Str} {u : Value} {pos : Pos} {Q : Value → Shared → Prop} (I : Inv X pins σ H s) (hg : Gl X x) (hm : X.mg x = none) (hv : bootBuiltins x = some u) (h : Q u s)
    (hn : x ≠ "__name__" := by decide) (hd : (x == ("__debug__" : Str)) = false := by decide) : wpAny (model X.prog X.w) X.A (eval (.Name x pos) X.env) Q E s := by
  obtain ⟨mb, h1, h2⟩ := I.mod.blt
  exact Calls.Name_function_global I.ok.kind hg (Calls.loadGlobal_builtin (by rw [I.ok.glob]; exact I.mod.glob.keeps I.bk) hm (by rw [I.ok.blt]; exact h1.keeps I.bk) ((h2 x hn).trans hv) h) hd
/-- a module's constant, a class, a function, as a value -/
theorem pe_glob {x : Str} {v : V} {u : Value} {pos : Pos} (hg : Gl X x) (hm : X.mg x = some u) (r : RelV v u) (hd : (x == ("__debug__" : Str)) = false := by decide) : PE X (.Name x pos) (tC v) :=
  fun _ _ _ H _ I h => ld_glob I hg hm ⟨v, H, I, r, h⟩ hd
theorem pe_bltn {x : Str} {v : V} {u : Value} {pos : Pos} (hg : Gl X x) (hm : X.mg x = none) (hv : bootBuiltins x = some u) (r : RelV v u) (hn : x ≠ "__name__" := by decide) (hd : (x == ("__debug__" : Str)) = false := by decide) : PE X (.Name x pos) (tC v) :=
  fun _ _ _ H _ I h => ld_blt I hg hm hv ⟨v, H, I, r, h⟩ hn hd

/-! ### arithmetic -/
/-- two ints -/
def t2I (ta tb : TE) (k : Int → Int → Hp → Prop) : St → Hp → Prop := fun σ H => ta σ H fun x H1 => tb σ H1 fun y H2 => ∃ i j, x = .int i ∧ y = .int j ∧ k i j H2
def tAdd (ta tb : TE) : TE := fun σ H Q => t2I ta tb (fun i j H2 => Q (.int (i + j)) H2) σ H
def tSub (ta tb : TE) : TE := fun σ H Q => t2I ta tb (fun i j H2 => Q (.int (i - j)) H2) σ H
/-- the left factor below 2^64 -/
def tMul (ta tb : TE) : TE := fun σ H Q => t2I ta tb (fun i j H2 => (-(2 ^ 64) < i ∧ i < 2 ^ 64) ∧ Q (.int (i * j)) H2) σ H
variable {a b : Expr} {ta tb : TE} {pos : Pos}

/-! ### comparisons -/
def PC (X : Cx) (op : CmpOp) (a b : Expr) (t : TE) : Prop :=
  ∀ (pins : List (Addr × Obj)) (s : Shared) (σ : St) (H : Hp) (Q : VK), Inv X pins σ H s → t σ H Q →
    wpAny (model X.prog X.w) X.A (eval a X.env) (fun v s₁ => wpAny (model X.prog X.w) X.A (eval b X.env) (fun u s₂ => wpAny (model X.prog X.w) X.A (compareOp op v u) (EP X pins σ Q) X.xe s₂) X.xe s₁) X.xe s
def tCmp (p : Int → Int → Bool) (ta tb : TE) : TE := fun σ H Q => t2I ta tb (fun i j H2 => Q (.bl (p i j)) H2) σ H
abbrev tLt : TE → TE → TE := tCmp fun i j => decide (i < j)
abbrev tLe : TE → TE → TE := tCmp fun i j => decide (i ≤ j)
abbrev tGt : TE → TE → TE := tCmp fun i j => decide (j < i)
abbrev tGe : TE → TE → TE := tCmp fun i j => decide (j ≤ i)
abbrev tEqI : TE → TE → TE := tCmp fun i j => decide (i = j)
abbrev tNeI : TE → TE → TE := tCmp fun i j => !decide (i = j)
/-- is None -/
def tIsN (ta : TE) : TE := fun σ H Q => ta σ H fun x H1 => Q (.bl (decide (x = .non))) H1
def tNotN (ta : TE) : TE := fun σ H Q => ta σ H fun x H1 => Q (.bl (!decide (x = .non))) H1
/-- a comparison as a value, as a test -/
def tB (t : TE) : TT := fun σ H Q => t σ H fun x H1 => ∃ c, x = .bl c ∧ Q c H1
/-- an expression whose value is a bool, as a test -/
theorem pt_val {e : Expr} {t : TE} (h : PE X e t) (he : ∀ whole, isTrue e X.env whole = (do let v ← whole; standAt e.pos; holding [v] (truthy v)) := by intro _; rfl) : PT X e (tB t) := by
  intro pins s σ H Q I hw
  refine isTrue_plain (thn (h pins s σ H _ I hw) fun v s1 ⟨x, H1, I1, r1, q1⟩ => ?_) (he _)
  obtain ⟨d, rfl, q⟩ := q1
  cases r1
  exact wpAny_truthy_bool ⟨H1, I1, q⟩

/-! ### and, or, not -/
variable {tA tB' : TT} {rest : List Expr}
def tAnd (t u : TT) : TT := fun σ H Q => t σ H fun c H1 => if c = true then u σ H1 Q else Q false H1
def tOr (t u : TT) : TT := fun σ H Q => t σ H fun c H1 => if c = true then Q true H1 else u σ H1 Q
def tNot (t : TT) : TT := fun σ H Q => t σ H fun c H1 => Q (!c) H1
theorem pw_and1 (ha : PT X a tA) : PW X (.BoolOp .And [a] pos) tA := by
  intro wh pins s σ H Q I h
  refine isTrue_and (thn (ha pins s σ H Q I h) fun c s1 e => ?_)
  cases c with
  | true => exact isTrue_and_nil e
  | false => exact e
theorem pw_or1 (ha : PT X a tA) : PW X (.BoolOp .Or [a] pos) tA := by
  intro wh pins s σ H Q I h
  refine isTrue_or (thn (ha pins s σ H Q I h) fun c s1 e => ?_)
  cases c with
  | false => exact isTrue_or_nil e
  | true => exact e
theorem pw_and (ha : PT X a tA) (hb : PW X (.BoolOp .And (b :: rest) pos) tB') : PW X (.BoolOp .And (a :: b :: rest) pos) (tAnd tA tB') := by
  intro wh pins s σ H Q I h
  refine isTrue_and (thn (ha pins s σ H _ I h) fun c s1 ⟨H1, I1, q1⟩ => ?_)
  cases c with
  | true => exact hb wh pins s1 σ H1 Q I1 q1
  | false => exact ⟨H1, I1, q1⟩
theorem pw_or (ha : PT X a tA) (hb : PW X (.BoolOp .Or (b :: rest) pos) tB') : PW X (.BoolOp .Or (a :: b :: rest) pos) (tOr tA tB') := by
  intro wh pins s σ H Q I h
  refine isTrue_or (thn (ha pins s σ H _ I h) fun c s1 ⟨H1, I1, q1⟩ => ?_)
  cases c with
  | true => exact ⟨H1, I1, q1⟩
  | false => exact hb wh pins s1 σ H1 Q I1 q1
theorem pt_not (ha : PT X a tA) : PT X (.UnaryOp .Not a pos) (tNot tA) := by
  intro pins s σ H Q I h
  exact isTrue_not (ha pins s σ H (fun c H1 => Q (!c) H1) I h)
/-- .. as values (bools) -/
def tAndV (ta tb : TE) : TE := fun σ H Q => ta σ H fun x H1 => ∃ c, x = .bl c ∧ if c = true then tb σ H1 Q else Q (.bl false) H1
def tOrV (ta tb : TE) : TE := fun σ H Q => ta σ H fun x H1 => ∃ c, x = .bl c ∧ if c = true then Q (.bl true) H1 else tb σ H1 Q
def tNotV (ta : TE) : TE := fun σ H Q => ta σ H fun x H1 => ∃ c, x = .bl c ∧ Q (.bl (!c)) H1
theorem pe_one {op} {t : TE} (h : PE X a t) : PE X (.BoolOp op [a] pos) t := fun pins s σ H Q I hw => BoolOp_one (h pins s σ H Q I hw)
theorem pe_and (ha : PE X a ta) (hb : PE X (.BoolOp .And (b :: rest) pos) tb) : PE X (.BoolOp .And (a :: b :: rest) pos) (tAndV ta tb) := by
  intro pins s σ H Q I h
  refine BoolOp_and (thn (ha pins s σ H _ I h) fun v s1 ⟨x, H1, I1, r1, q1⟩ => ?_)
  obtain ⟨c, rfl, q1⟩ := q1
  cases r1
  refine wpAny_truthy_bool ?_
  cases c with
  | true => exact hb pins s1 σ H1 Q I1 q1
  | false => exact ⟨.bl false, H1, I1, rfl, q1⟩
theorem pe_not (ha : PE X a ta) : PE X (.UnaryOp .Not a pos) (tNotV ta) := by
  intro pins s σ H Q I h
  refine UnaryOp_ (thn (ha pins s σ H _ I h) fun v s1 ⟨x, H1, I1, r1, q1⟩ => ?_)
  obtain ⟨c, rfl, q1⟩ := q1
  cases r1
  exact not_of (wpAny_truthy_bool ⟨.bl (!c), H1, I1, rfl, q1⟩)
/-- a if t else b -/
def tIf (t : TT) (ta tb : TE) : TE := fun σ H Q => t σ H fun c H1 => if c = true then ta σ H1 Q else tb σ H1 Q
theorem pe_ifExp {c : Expr} (hc : PT X c tA) (ha : PE X a ta) (hb : PE X b tb) : PE X (.IfExp c a b pos) (tIf tA ta tb) := by
  intro pins s σ H Q I h
  refine wpAny_IfExp (thn (hc pins s σ H _ I h) fun d s1 ⟨H1, I1, q1⟩ => ?_)
  cases d with
  | true => exact ha pins s1 σ H1 Q I1 q1
  | false => exact hb pins s1 σ H1 Q I1 q1
end
end L2

namespace L2
open PySem PySem.Spec PyProof.Rows

/-! ### a list, a tuple that is read: tracked, frozen, or an object of the module -/
def SqL (K : PySem.W.Frag) (H : Hp) (a : Addr) (xs : List V) : Prop :=
  Rd H a (.lst xs) ∨
    ∃ (o : Obj) (its : Array Value) (n : Nat), K.lookup a = some o ∧ o.cls = .type "list" ∧ o.dict = none ∧ o.data = .seq its n ∧ its.size ≤ sizeLine ∧ Vals xs its.toList
def SqT (K : PySem.W.Frag) (H : Hp) (a : Addr) (xs : List V) : Prop :=
  Rd H a (.tup xs) ∨
    ∃ (o : Obj) (its : Array Value) (n : Nat), K.lookup a = some o ∧ o.cls = .type "tuple" ∧ o.data = .seq its n ∧ its.size ≤ sizeLine ∧ Vals xs its.toList
def absV : Value → Option V
  | .none => some .non
  | .bool b => some (.bl b)
  | .int i _ => some (.int i)
  | .str x _ => some (.str x)
  | .bytes b _ => some (.byt b)
  | .float b _ => some (.flt b)
  | .ref a => some (.ref a)
  | .type n => some (.ty n)
  | _ => none
theorem RelV.abs {x : V} {u : Value} (r : RelV x u) : absV u = some x := by
  cases x with
  | non => cases r; rfl
  | bl _ => cases r; rfl
  | int _ => obtain ⟨t, rfl⟩ := r; rfl
  | str _ => obtain ⟨t, rfl⟩ := r; rfl
  | byt _ => obtain ⟨t, rfl⟩ := r; rfl
  | flt _ => obtain ⟨t, rfl⟩ := r; rfl
  | ref _ => cases r; rfl
  | ty _ => cases r; rfl
theorem RelV.inj {x y : V} {u : Value} (r : RelV x u) (q : RelV y u) : x = y := Option.some.inj (r.abs.symm.trans q.abs)
theorem Vals.inj : ∀ {xs ys : List V} {us : List Value}, Vals xs us → Vals ys us → xs = ys
  | _, _, _, .nil, .nil => rfl
  | _, _, _, .cons r t, .cons r' t' => by rw [r.inj r', Vals.inj t t']
section
variable {X : Cx} {pins : List (Addr × Obj)} {σ : St} {H : Hp} {s : Shared} {a : Addr} {xs ys : List V}
theorem SqL.of {K : PySem.W.Frag} (h : H a = some (.lst xs)) : SqL K H a xs := .inl (.inl h)
theorem SqT.of {K : PySem.W.Frag} (h : H a = some (.tup xs)) : SqT K H a xs := .inl (.inl h)
theorem Inv.list (I : Inv X pins σ H s) (h : SqL X.K H a xs) : ∃ its : List Value, Vals xs its ∧ PlainL s.heap a its.toArray ∧ xs.length ≤ sizeLine := by
  rcases h with h | ⟨o, its, n, hk, hc, hd, hs, hz, r⟩
  · obtain ⟨z, its, n, r, e⟩ := h.ok I.hok
    exact ⟨its, r, ⟨_, n, e, rfl, rfl, rfl⟩, z⟩
  · refine ⟨its.toList, r, ⟨o, n, I.kIn a o hk, hc, hd, by simpa using hs⟩, ?_⟩
    have e := r.length
    simp only [Array.length_toList] at e
    omega
theorem Inv.tuple (I : Inv X pins σ H s) (h : SqT X.K H a xs) : ∃ its : List Value, Vals xs its ∧ IsTup s.heap a its.toArray ∧ xs.length ≤ sizeLine := by
  rcases h with h | ⟨o, its, n, hk, hc, hs, hz, r⟩
  · obtain ⟨z, its, r, p⟩ := h.ok I.hok
    exact ⟨its, r, p, z⟩
  · refine ⟨its.toList, r, ⟨o, I.kIn a o hk, hc, n, by simpa using hs⟩, ?_⟩
    have e := r.length
    simp only [Array.length_toList] at e
    omega
theorem Inv.list_inj (I : Inv X pins σ H s) (h : SqL X.K H a xs) (h' : SqL X.K H a ys) : xs = ys := by
  obtain ⟨its, r, ⟨o, n, e, _, _, d⟩, _⟩ := I.list h
  obtain ⟨its', r', ⟨o', n', e', _, _, d'⟩, _⟩ := I.list h'
  rw [e] at e'; cases e'
  rw [d] at d'
  injection d' with d1 _
  have : its = its' := by simpa using congrArg Array.toList d1
  subst this
  exact r.inj r'
theorem Inv.tuple_inj (I : Inv X pins σ H s) (h : SqT X.K H a xs) (h' : SqT X.K H a ys) : xs = ys := by
  obtain ⟨its, r, ⟨o, e, _, n, d⟩, _⟩ := I.tuple h
  obtain ⟨its', r', ⟨o', e', _, n', d'⟩, _⟩ := I.tuple h'
  rw [e] at e'; cases e'
  rw [d] at d'
  injection d' with d1 _
  have : its = its' := by simpa using congrArg Array.toList d1
  subst this
  exact r.inj r'
end

/-! ### another wish about exceptions -/
abbrev Cx.wish (X : Cx) (E : Value → Shared → Prop) : Cx := { X with xe := E }
/-- no exception leaves -/
abbrev Cx.nox (X : Cx) : Cx := X.wish fun _ _ => False
theorem Cx.Ok.wish {X : Cx} (ok : X.Ok) (E : Value → Shared → Prop) : (X.wish E).Ok :=
  ⟨ok.mod, ok.kind, ok.glob, ok.blt, ok.above, ok.inj, ok.has, ok.cab, ok.hd, ok.frames, ok.stk, ok.exf, ok.bs, ok.bsz, ok.noex, ok.exfs, ok.funs, ok.frf⟩
theorem Cx.Ok.unwish {X : Cx} {E : Value → Shared → Prop} (ok : (X.wish E).Ok) : X.Ok :=
  ⟨ok.mod, ok.kind, ok.glob, ok.blt, ok.above, ok.inj, ok.has, ok.cab, ok.hd, ok.frames, ok.stk, ok.exf, ok.bs, ok.bsz, ok.noex, ok.exfs, ok.funs, ok.frf⟩
section
variable {X : Cx} {pins : List (Addr × Obj)} {σ : St} {H : Hp} {s : Shared} {E : Value → Shared → Prop}
theorem Inv.wish (I : Inv X pins σ H s) (E : Value → Shared → Prop) : Inv (X.wish E) pins σ H s := ⟨I.ok.wish E, I.os, I.bare, I.base, I.loc, I.cell, I.free, I.freeC, I.pin, I.hok, I.len⟩
theorem Inv.unwish (I : Inv (X.wish E) pins σ H s) : Inv X pins σ H s := ⟨I.ok.unwish, I.os, I.bare, I.base, I.loc, I.cell, I.free, I.freeC, I.pin, I.hok, I.len⟩
theorem SP.unwish {D : Ends} {f : Flow} {s' : Shared} (h : SP (X.wish E) pins D f s') : SP X pins D f s' := by
  cases f with
  | next => obtain ⟨σ', H', I, q⟩ := h; exact ⟨σ', H', I.unwish, q⟩
  | brk => obtain ⟨σ', H', I, q⟩ := h; exact ⟨σ', H', I.unwish, q⟩
  | cont => obtain ⟨σ', H', I, q⟩ := h; exact ⟨σ', H', I.unwish, q⟩
  | ret u => obtain ⟨v, σ', H', I, r, q⟩ := h; exact ⟨v, σ', H', I.unwish, r, q⟩
theorem PSs.nox {st : List Stmt} {t : TS} (h : PSs X.nox st t) : PSs X st t := fun pins s σ H D I hw =>
  wpAny_mono (h pins s σ H D (I.wish _) hw) (fun _ _ q => q.unwish) fun _ _ z => False.elim z
end

/-! ### blocks and small statements -/
section
variable {X : Cx} {st : Stmt} {rest : List Stmt} {t u : TS} {e : Expr} {te : TE} {pos : Pos}
def tNext : TS := fun D σ H => D.nx σ H
def tSeq (t u : TS) : TS := fun D σ H => t { D with nx := u D } σ H
theorem pss_nil : PSs X [] tNext := fun _ _ σ H _ I h => wpAny_execs_nil ⟨σ, H, I, h⟩
theorem pss_cons (h1 : PS X st t) (h2 : PSs X rest u) : PSs X (st :: rest) (tSeq t u) := by
  intro pins s σ H D I h
  refine wpAny_execs_cons (thn (h1 pins s σ H { D with nx := u D } I h) fun f s1 q => ?_)
  cases f with
  | next =>
    obtain ⟨σ', H', I', q⟩ := q
    exact h2 pins s1 σ' H' D I' q
  | ret v => exact q
  | brk => exact q
  | cont => exact q
theorem pss_one (h1 : PS X st t) : PSs X [st] t := by
  intro pins s σ H D I h
  refine wpAny_execs_cons (thn (h1 pins s σ H D I h) fun f s1 q => ?_)
  cases f with
  | next => exact wpAny_execs_nil q
  | ret v => exact q
  | brk => exact q
  | cont => exact q
def tBreak : TS := fun D σ H => D.bk σ H
def tCont : TS := fun D σ H => D.ct σ H
/-- in a def's body nothing is shown -/
theorem Inv.quiet {pins : List (Addr × Obj)} {σ : St} {H : Hp} {s : Shared} (I : Inv X pins σ H s) : interactive X.env = false := by simp [interactive, I.ok.kind]
/-- an expression whose value is dropped -/
def tDrop (te : TE) : TS := fun D σ H => te σ H fun _ H1 => D.nx σ H1
theorem ps_expr (he : PE X e te) (hs : swapsWith e none pos.line X.env = pure false := by rfl) : PS X (.Expr e pos) (tDrop te) := by
  intro pins s σ H D I h
  exact wpAny_Expr_any (thn (he pins s σ H _ I h) fun v s1 ⟨x, H1, I1, r1, q1⟩ => ⟨σ, H1, I1, q1⟩) I.quiet hs
def tRet (te : TE) : TS := fun D σ H => te σ H D.rt
theorem ps_ret (he : PE X e te) : PS X (.Return (some e) pos) (tRet te) := by
  intro pins s σ H D I h
  exact wpAny_Return_some (thn (he pins s σ H _ I h) fun v s1 ⟨x, H1, I1, r1, q1⟩ => ⟨x, σ, H1, I1, r1, q1⟩)
def tRetN : TS := fun D _ H => D.rt .non H
def tIfS (c : TT) (t u : TS) : TS := fun D σ H => c σ H fun b H1 => if b = true then t D σ H1 else u D σ H1
theorem ps_if {c : Expr} {a b : List Stmt} {tc : TT} (hc : PT X c tc) (ha : PSs X a t) (hb : PSs X b u) : PS X (.If c a b pos) (tIfS tc t u) := by
  intro pins s σ H D I h
  refine wpAny_If (thn (hc pins s σ H _ I h) fun d s1 ⟨H1, I1, q1⟩ => ?_)
  cases d with
  | true => exact ha pins s1 σ H1 D I1 q1
  | false => exact hb pins s1 σ H1 D I1 q1
/-- code that the proof never comes to -/
def tNever : TS := fun _ _ _ => False
theorem pss_never {sts : List Stmt} : PSs X sts tNever := fun _ _ _ _ _ _ h => h.elim
end

/-! ### targets -/
abbrev TG := V → St → Hp → (St → Hp → Prop) → Prop
abbrev TGs := List V → St → Hp → (St → Hp → Prop) → Prop
def PG (X : Cx) (target : Expr) (t : TG) : Prop :=
  ∀ (pins : List (Addr × Obj)) (s : Shared) (σ : St) (H : Hp) (v : V) (u : Value) (Q : St → Hp → Prop), Inv X pins σ H s → RelV v u → t v σ H Q →
    wpAny (model X.prog X.w) X.A (assign target X.env u) (fun _ s' => ∃ σ' H', Inv X pins σ' H' s' ∧ Q σ' H') X.xe s
/-- several targets, one after another -/
def PGs (X : Cx) (ts : List Expr) (t : TGs) : Prop :=
  ∀ (pins : List (Addr × Obj)) (s : Shared) (σ : St) (H : Hp) (vs : List V) (us : List Value) (Q : St → Hp → Prop), Inv X pins σ H s → Vals vs us → t vs σ H Q →
    wpAny (model X.prog X.w) X.A (assignInOrder ((assignEach ts X.env).map (·.2)) us) (fun _ s' => ∃ σ' H', Inv X pins σ' H' s' ∧ Q σ' H') X.xe s
/-- o[i] = v, by values -/
abbrev TSet := V → V → V → Hp → (Hp → Prop) → Prop
def PSet (X : Cx) (t : TSet) : Prop :=
  ∀ (pins : List (Addr × Obj)) (s : Shared) (σ : St) (H : Hp) (o i v : V) (ov iv u : Value) (Q : Hp → Prop), Inv X pins σ H s → RelV o ov → RelV i iv → RelV v u → t o i v H Q →
    wpAny (model X.prog X.w) X.A (setItem ov iv u) (fun _ s' => ∃ H', Inv X pins σ H' s' ∧ Q H') X.xe s
/-- a op= b, by values -/
abbrev TIp := V → V → Hp → VK → Prop
def PIp (X : Cx) (op : Operator) (t : TIp) : Prop :=
  ∀ (pins : List (Addr × Obj)) (s : Shared) (σ : St) (H : Hp) (x y : V) (v u : Value) (Q : VK), Inv X pins σ H s → RelV x v → RelV y u → t x y H Q →
    wpAny (model X.prog X.w) X.A (inplaceOp op v u) (EP X pins σ Q) X.xe s
section
variable {X : Cx} {pos : Pos}
def gName (i : Nat) : TG := fun v σ H Q => Q (σ.set i (some v)) H
theorem pg_name {i : Nat} {x : Str} (hN : X.N.Nodup) (hi : X.N[i]? = some x) (hx : Loc X.env.scope x) (hf : X.fn x = true ∨ X.env.scope.names.lookup x = some .local := by first | exact .inl rfl | exact .inr rfl | assumption) : PG X (.Name x pos) (gName i) := by
  intro pins s σ H v u Q I r h
  exact wpAny_assign_Name (store_ok I hN hi hx r (fun s' I' => ⟨_, H, I', h⟩) hf)
def gNil : TGs := fun vs σ H Q => vs = [] ∧ Q σ H
def gCons (t : TG) (u : TGs) : TGs := fun vs σ H Q => ∃ v r, vs = v :: r ∧ t v σ H fun σ' H' => u r σ' H' Q
theorem pgs_nil : PGs X [] gNil := by
  intro pins s σ H vs us Q I r h
  obtain ⟨e, h⟩ := h
  subst e
  cases r
  exact assignInOrder_nil ⟨σ, H, I, h⟩
theorem pgs_cons {e : Expr} {es : List Expr} {t : TG} {u : TGs} (h1 : PG X e t) (h2 : PGs X es u)
    (hs : (assignEach (e :: es) X.env).map (·.2) = assign e X.env :: (assignEach es X.env).map (·.2) := by rfl) : PGs X (e :: es) (gCons t u) := by
  intro pins s σ H vs us Q I r h
  obtain ⟨v, vr, e1, h⟩ := h
  subst e1
  cases r with
  | cons r rr =>
    rw [hs]
    refine assignInOrder_cons (thn (h1 pins s σ H _ _ _ I r h) fun _ s1 ⟨σ1, H1, I1, q1⟩ => ?_)
    exact h2 pins s1 σ1 H1 _ _ Q I1 rr q1
/-- (a, b, ..) = a tuple of that length -/
def gTup (K : PySem.W.Frag) (n : Nat) (t : TGs) : TG := fun v σ H Q => ∃ a xs, v = .ref a ∧ SqT K H a xs ∧ xs.length = n ∧ t xs σ H Q
theorem pg_tup {es : List Expr} {k : Nat} {t : TGs} {n : Nat} (hc : X.calm = true) (h : PGs X es t)
    (hn : (assignEach es X.env).length = n := by rfl) (hst : (assignEach es X.env).findIdx? (·.1) = none := by rfl) : PG X (.Tuple es k pos) (gTup X.K n t) := by
  intro pins s σ H v u Q I r hw
  obtain ⟨a, xs, e1, hq, hl, hw⟩ := hw
  subst e1
  cases r
  obtain ⟨its, rv, ht, hz⟩ := I.tuple hq
  refine assign_Tuple_tuple (I.ok.hd hc) ht (by simp [hn, ← hl, rv.length]) hst fun h' hx => ?_
  have I1 : Inv X pins σ H { s with heap := h' } := I.kept (t' := s.toks) fun b o e => hx b o (Nat.ne_of_lt (Heap.lt_size e)) e
  exact h pins _ σ H xs _ Q I1 (by simpa using rv) hw
/-- o[i] = .. -/
def gSub (to ti : TE) (t : TSet) : TG := fun v σ H Q => to σ H fun o H1 => ti σ H1 fun i H2 => t o i v H2 fun H3 => Q σ H3
theorem pg_sub {o i : Expr} {to ti : TE} {t : TSet} (ho : PE X o to) (hi : PE X i ti) (hs : PSet X t)
    (ha : ∀ v, assign (.Subscript o i pos) X.env v = (do
      let ov ← holding [v] (eval o X.env)
      let iv ← holding [v, ov] (eval i X.env)
      standAt pos
      holding [v, ov, iv] (setItem ov iv v)
      release [v, ov, iv] []) := by intro _; rfl) : PG X (.Subscript o i pos) (gSub to ti t) := by
  intro pins s σ H v u Q I r h
  rw [ha]
  refine wpAny_bind (wpAny_holding (thn (ho pins s σ H _ I h) fun ov s1 ⟨x, H1, I1, r1, q1⟩ => ?_))
  refine wpAny_bind (wpAny_holding (thn (hi pins s1 σ H1 _ I1 q1) fun iv s2 ⟨y, H2, I2, r2, q2⟩ => ?_))
  refine wpAny_bind (wpAny_standAt (wpAny_bind (wpAny_holding (thn (hs pins s2 σ H2 x y v ov iv u _ I2 r1 r2 r q2) fun _ s3 ⟨H3, I3, q3⟩ => ?_))))
  exact wpAny_release ⟨σ, H3, I3, q3⟩
/-- target = value -/
def tAsg (te : TE) (g : TG) : TS := fun D σ H => te σ H fun x H1 => g x σ H1 D.nx
theorem ps_asg {tg e : Expr} {te : TE} {g : TG} (he : PE X e te) (hg : PG X tg g) (hs : swapsWithSole [tg] e pos.line X.env = pure false := by rfl) (hw : swappedStores [tg] e X.env = pure none := by rfl)
    (h1 : (assignEach [tg] X.env).map (·.2) = [assign tg X.env] := by rfl) : PS X (.Assign [tg] e pos) (tAsg te g) := by
  intro pins s σ H D I h
  refine wpAny_Assign_stores (thn (he pins s σ H _ I h) fun v s1 ⟨x, H1, I1, r1, q1⟩ => ?_) hs hw
  rw [h1]
  exact thn (hg pins s1 σ H1 x v _ I1 r1 q1) fun _ s2 q => q
/-- name = value -/
theorem ps_set {i : Nat} {x : Str} {e : Expr} {te : TE} {pos' : Pos} (hN : X.N.Nodup) (hi : X.N[i]? = some x) (hx : Loc X.env.scope x) (he : PE X e te) (hs : swapsWith e (some (.Name x pos')) pos.line X.env = pure false := by rfl) (hf : X.fn x = true ∨ X.env.scope.names.lookup x = some .local := by first | exact .inl rfl | exact .inr rfl | assumption) :
    PS X (.Assign [.Name x pos'] e pos) (tAsg te (gName i)) := by
  intro pins s σ H D I h
  refine wpAny_Assign_Name (thn (he pins s σ H _ I h) fun v s1 ⟨y, H1, I1, r1, q1⟩ => ?_) hs
  exact store_ok I1 hN hi hx r1 (fun s2 I2 => ⟨_, H1, I2, q1⟩) hf
/-- a, b = x, y with plain local names: stored from the right; the pair itself is not tracked (the opening rows as in PyProof/Rows/TupAssign.lean:23) -/
def tPar (i j : Nat) (ta : TA) : TS := fun D σ H => ta σ H fun vs H1 => ∃ v w, vs = [v, w] ∧ D.nx ((σ.set i (some v)).set j (some w)) H1
/-- name op= e -/
def tAug (i : Nat) (te : TE) (ti : TIp) : TS := fun D σ H => ∃ x, σ[i]? = some (some x) ∧ te σ H fun y H1 => ti x y H1 fun z H2 => D.nx (σ.set i (some z)) H2
theorem ps_aug {i : Nat} {x : Str} {e : Expr} {te : TE} {op : Operator} {ti : TIp} {pos' : Pos} (hN : X.N.Nodup) (hi : X.N[i]? = some x) (hx : Loc X.env.scope x) (he : PE X e te) (ho : PIp X op ti) (hf : X.fn x = true ∨ X.env.scope.names.lookup x = some .local := by first | exact .inl rfl | exact .inr rfl | assumption) :
    PS X (.AugAssign (.Name x pos') op e pos) (tAug i te ti) := by
  intro pins s σ H D I h
  obtain ⟨v, e1, h⟩ := h
  obtain ⟨m, hn, hl⟩ := I.loc
  have vis : Vis X.env.scope x := by rcases hx with k | k; exact .inl k; exact .inr (.inl k)
  obtain ⟨u, r, l⟩ := hl i x v hi e1 vis
  refine wpAny_AugAssign_Name ?_
  have go : wpAny (model X.prog X.w) X.A (eval e X.env) (fun w s₂ => wpAny (model X.prog X.w) X.A (inplaceOp op u w) (fun r s₃ => wpAny (model X.prog X.w) X.A (storeName X.env x r) (fun _ => SP X pins D .next) X.xe s₃) X.xe s₂) X.xe s := by
    refine thn (he pins s σ H _ I h) fun w s1 ⟨y, H1, I1, r1, q1⟩ => ?_
    refine thn (ho pins s1 σ H1 v y u w _ I1 r r1 q1) fun z s2 ⟨zv, H2, I2, r2, q2⟩ => ?_
    exact store_ok I2 hN hi hx r2 (fun s3 I3 => ⟨_, H2, I3, q2⟩) hf
  rcases l with ⟨hk, hm⟩ | ⟨hk, c, hc, hcell⟩
  · exact wpAny_loadName_local I.ok.kind hk hn hm go
  · rcases hk with hk | hk
    · exact wpAny_loadName_cell I.ok.kind hk hc hcell go
    · rcases hx with k | k
      · have : X.env.scope.names.lookup x = some .free := hk
        rw [k] at this; cases this
      · have : X.env.scope.names.lookup x = some .free := hk
        rw [k] at this; cases this
/-- o[i] op= e -/
def tAugS (to ti te : TE) (tget : V → V → Hp → VK → Prop) (tip : TIp) (tset : TSet) : TS := fun D σ H => to σ H fun o H1 => ti σ H1 fun i H2 => tget o i H2 fun x H3 => te σ H3 fun y H4 => tip x y H4 fun z H5 => tset o i z H5 fun H6 => D.nx σ H6
/-- o[i], by values -/
def PGet (X : Cx) (t : V → V → Hp → VK → Prop) : Prop :=
  ∀ (pins : List (Addr × Obj)) (s : Shared) (σ : St) (H : Hp) (o i : V) (ov iv : Value) (Q : VK), Inv X pins σ H s → RelV o ov → RelV i iv → t o i H Q →
    wpAny (model X.prog X.w) X.A (getItem ov iv) (EP X pins σ Q) X.xe s
/-- ints -/
def ipI (f : Int → Int → Int) : TIp := fun x y H Q => ∃ i j, x = .int i ∧ y = .int j ∧ Q (.int (f i j)) H
end

/-! ### while -/
section
variable {X : Cx} {pos : Pos}
/-- the invariant W with its measure -/
def tWhile (c : TT) (tb : TS) : TS := fun D σ H => ∃ W : Nat → St → Hp → Prop, (∃ m, W m σ H) ∧ ∀ m σ H, W m σ H →
  c σ H fun b H1 => if b = true then ∃ N : St → Hp → Prop, (∀ σ' H', N σ' H' → ∃ m', m' < m ∧ W m' σ' H') ∧ tb { D with nx := N, ct := N, bk := D.nx } σ H1 else D.nx σ H1
end

/-! ### what a loop or a comprehension walks -/
/-- at turn i: it yields x (the heap may grow), or it stops -/
structure It where
  go : Nat → Hp → Prop
  yld : Nat → Hp → V → Hp → Prop
  stop : Nat → Hp → Prop
/-- the iterator's own objects may turn: they are not the frame's, not pinned, younger than the entry (or a comprehension's own) -/
def FpOk (X : Cx) (pins : List (Addr × Obj)) (H : Hp) (b : Addr) : Prop :=
  H b = none ∧ b ≠ X.env.locals ∧ b ∉ X.fs ∧ (b ∈ X.ex ∨ X.s_0.heap.objs.size ≤ b) ∧ (∀ x c, X.env.cells.lookup x = some c → c ≠ b) ∧ ∀ p ∈ X.pn ++ pins, p.1 ≠ b
theorem Inv.fpOk {X : Cx} {pins : List (Addr × Obj)} {σ : St} {H H' : Hp} {s : Shared} {b : Addr} (I : Inv X pins σ H s) (hb : s.heap.objs.size ≤ b) (hn : H' b = none) : FpOk X pins H' b := by
  refine ⟨hn, Nat.ne_of_gt (Nat.lt_of_lt_of_le I.lt hb), I.nofs hb, .inr (Nat.le_trans I.sz hb), fun x c e z => ?_, fun p hp z => ?_⟩
  · obtain ⟨v, q⟩ := I.cell x c e
    exact absurd (Nat.lt_of_lt_of_le q.lt (by rw [z]; exact hb)) (Nat.lt_irrefl _)
  · exact absurd (Nat.lt_of_lt_of_le (Heap.lt_size (I.pin p hp).1) (by rw [z]; exact hb)) (Nat.lt_irrefl _)
structure Turn (P : Program) (w : World) (K : PySem.W.Frag) (tg : Expr) (J : It) (fp : List Addr) (it : Addr) (tn : Nat → Heap → Prop) : Prop where
  mem : it ∈ fp
  obj : ∀ i h, tn i h → ∀ b ∈ fp, ∃ o, h.get? b = some o ∧ ∀ v, o.data ≠ .cell v
  keep : ∀ i h h', tn i h → (∀ b ∈ fp, ∀ o, h.get? b = some o → h'.get? b = some o) → tn i h'
  item : ∀ (X : Cx), X.prog = P → X.w = w → X.K = K → X.calm = true → ∀ (i : Nat) (pins : List (Addr × Obj)) (s : Shared) (σ : St) (H : Hp) (E : Value → Shared → Prop), Inv X pins σ H s → (∀ b ∈ fp, FpOk X pins H b) → tn i s.heap → J.go i H →
    wpAny (model P w) X.A (pyNext (.ref it)) (fun r s1 => ∃ u, r = some u ∧
      wpAny (model P w) X.A (letOwnedTupleGo tg (.ref it) u) (fun _ s2 => ∃ x H', Inv X pins σ H' s2 ∧ RelV x u ∧ J.yld i H x H' ∧ tn (i + 1) s2.heap ∧ ∀ b ∈ fp, H' b = none) E s1) E s
  done : ∀ (X : Cx), X.prog = P → X.w = w → X.K = K → X.calm = true → ∀ (i : Nat) (pins : List (Addr × Obj)) (s : Shared) (σ : St) (H : Hp) (E : Value → Shared → Prop), Inv X pins σ H s → (∀ b ∈ fp, FpOk X pins H b) → tn i s.heap → J.stop i H →
    wpAny (model P w) X.A (pyNext (.ref it)) (fun r s1 => r = none ∧ Inv X pins σ H s1) E s
  self : ∀ (A : Around) (i : Nat) (s : Shared) (Q : Value → Shared → Prop) (E : Value → Shared → Prop), tn i s.heap → Q (.ref it) s → wpAny (model P w) A (pyIter (.ref it)) Q E s
abbrev TI := St → Hp → (It → Hp → Prop) → Prop
/-- an iterator has come -/
def PIE (X : Cx) (pins : List (Addr × Obj)) (σ : St) (tg : Expr) (R : It → Hp → Prop) (itv : Value) (s2 : Shared) : Prop :=
  ∃ (it : Addr) (fp : List Addr) (tn : Nat → Heap → Prop) (J : It) (H' : Hp), itv = .ref it ∧ Inv X pins σ H' s2 ∧ Turn X.prog X.w X.K tg J fp it tn ∧ tn 0 s2.heap ∧ (∀ b ∈ fp, FpOk X pins H' b) ∧ R J H'
def PI (X : Cx) (tg iter : Expr) (wi : TI) : Prop :=
  ∀ (pins : List (Addr × Obj)) (s : Shared) (σ : St) (H : Hp) (R : It → Hp → Prop), Inv X pins σ H s → wi σ H R →
    wpAny (model X.prog X.w) X.A (eval iter X.env) (fun v s1 => wpAny (model X.prog X.w) X.A (pyIter v) (PIE X pins σ tg R) X.xe s1) X.xe s

/-- the step ahead of the store is nothing for an iterator that keeps no tuple -/
theorem go_of {M : Model} {A : Around} {E : Value → Shared → Prop} {s : Shared} {tg : Expr} {it : Addr} {u : Value} {o : Obj} {n : String} {vs : Array Value} {Q : Unit → Shared → Prop} (ho : s.heap.get? it = some o) (hc : o.cls = .type n) (hd : o.data = .fields vs)
    (hn : ["enumerate", "zip", "dict_itemiterator", "dict_reverseitemiterator", "odict_iterator", "itertools.zip_longest", "itertools.pairwise"].contains n = false) (hQ : Q () s) : wpAny M A (letOwnedTupleGo tg (.ref it) u) Q E s := by
  unfold letOwnedTupleGo
  cases tg <;> first
    | exact wpAny_pure hQ
    | (cases u <;> first
        | exact wpAny_pure hQ
        | (refine wpAny_bind (wpAny_load ho ?_)
           rw [hc, hd]
           show wpAny M A (if (["enumerate", "zip", "dict_itemiterator", "dict_reverseitemiterator", "odict_iterator", "itertools.zip_longest", "itertools.pairwise"].contains n && vs[0]? == some (rawInt _)) = true then _ else _) Q E s
           rw [if_neg (by intro h; rw [hn, Bool.false_and] at h; cases h)]
           exact wpAny_pure hQ))

/-- the list at a, as it stands at each turn (a loop may append to it) -/
def Itl (K : PySem.W.Frag) (a : Addr) : It :=
  ⟨fun i H => ∃ xs x, SqL K H a xs ∧ xs[i]? = some x, fun i H x H' => H' = H ∧ ∀ xs, SqL K H a xs → xs[i]? = some x, fun i H => ∃ xs, SqL K H a xs ∧ xs.length ≤ i⟩
def Itt (K : PySem.W.Frag) (a : Addr) : It :=
  ⟨fun i H => ∃ xs x, SqT K H a xs ∧ xs[i]? = some x, fun i H x H' => H' = H ∧ ∀ xs, SqT K H a xs → xs[i]? = some x, fun i H => ∃ xs, SqT K H a xs ∧ xs.length ≤ i⟩
/-- lo, lo + 1, .. (n of them) -/
def Itr (lo : Int) (n : Nat) : It := ⟨fun i _ => i < n, fun i H x H' => H' = H ∧ x = .int (lo + i), fun i _ => n ≤ i⟩
theorem turn_list {P : Program} {w : World} {K : PySem.W.Frag} {tg : Expr} (a it : Addr) : Turn P w K tg (Itl K a) [it] it (fun i h => h.IsListIter it a i) where
  mem := by simp
  obj := fun i h st b hb => by
    have e : b = it := by simpa using hb
    subst e
    obtain ⟨o, e, c, d⟩ := st
    exact ⟨o, e, fun v z => by rw [d] at z; cases z⟩
  keep := fun i h h' st k => st.at fun o e => k it (by simp) o e
  item := by
    intro X hP hw hK hc i pins s σ H E I hf st hg
    subst hP hw hK
    obtain ⟨xs, x, hq, hx⟩ := hg
    obtain ⟨its, rv, p, hz⟩ := I.list hq
    obtain ⟨u, hu, ru⟩ := rv.get hx
    obtain ⟨f0, f1, f2, f3, f4, f5⟩ := hf it (by simp)
    refine wpAny_pyNext_list_item st p.isList (x := u) (by simpa using hu) fun h' st' sb => ?_
    have I1 : Inv X pins σ H { s with heap := h' } := I.turned (t' := s.toks) (fun b o hb e => (sb.2 b hb).trans e) f0 f1 f3 f4 f5
    obtain ⟨o, e, c, d⟩ := id st'
    exact ⟨u, rfl, go_of (s := { s with heap := h' }) e c d (by decide) ⟨x, H, I1, ru, ⟨rfl, fun ys hy => by rw [I.list_inj hy hq]; exact hx⟩, st', fun b hb => (hf b hb).1⟩⟩
  done := by
    intro X hP hw hK hc i pins s σ H E I hf st hg
    subst hP hw hK
    obtain ⟨xs, hq, hx⟩ := hg
    obtain ⟨its, rv, p, hz⟩ := I.list hq
    obtain ⟨f0, f1, f2, f3, f4, f5⟩ := hf it (by simp)
    have hl := rv.length
    exact wpAny_pyNext_list_end (I.ok.hd hc) st p.isList (by simp; omega) fun h' eb => ⟨rfl, I.turned (t' := s.toks) (fun b o hb e => eb b o hb e) f0 f1 f3 f4 f5⟩
  self := fun _ _ _ _ _ st h => wpAny_pyIter_listiter st h
theorem turn_tuple {P : Program} {w : World} {K : PySem.W.Frag} {tg : Expr} (a it : Addr) : Turn P w K tg (Itt K a) [it] it (fun i h => h.IsTupleIter it a i) where
  mem := by simp
  obj := fun i h st b hb => by
    have e : b = it := by simpa using hb
    subst e
    obtain ⟨o, e, c, d⟩ := st
    exact ⟨o, e, fun v z => by rw [d] at z; cases z⟩
  keep := fun i h h' st k => st.at fun o e => k it (by simp) o e
  item := by
    intro X hP hw hK hc i pins s σ H E I hf st hg
    subst hP hw hK
    obtain ⟨xs, x, hq, hx⟩ := hg
    obtain ⟨its, rv, p, hz⟩ := I.tuple hq
    obtain ⟨u, hu, ru⟩ := rv.get hx
    obtain ⟨f0, f1, f2, f3, f4, f5⟩ := hf it (by simp)
    refine wpAny_pyNext_tuple_item st (show s.heap.IsTuple a its.toArray from p) (x := u) (by simpa using hu) fun h' st' sb => ?_
    have I1 : Inv X pins σ H { s with heap := h' } := I.turned (t' := s.toks) (fun b o hb e => (sb.2 b hb).trans e) f0 f1 f3 f4 f5
    obtain ⟨o, e, c, d⟩ := id st'
    exact ⟨u, rfl, go_of (s := { s with heap := h' }) e c d (by decide) ⟨x, H, I1, ru, ⟨rfl, fun ys hy => by rw [I.tuple_inj hy hq]; exact hx⟩, st', fun b hb => (hf b hb).1⟩⟩
  done := by
    intro X hP hw hK hc i pins s σ H E I hf st hg
    subst hP hw hK
    obtain ⟨xs, hq, hx⟩ := hg
    obtain ⟨its, rv, p, hz⟩ := I.tuple hq
    obtain ⟨f0, f1, f2, f3, f4, f5⟩ := hf it (by simp)
    have hl := rv.length
    exact wpAny_pyNext_tuple_end (I.ok.hd hc) st (show s.heap.IsTuple a its.toArray from p) (by simp; omega) fun h' eb => ⟨rfl, I.turned (t' := s.toks) (fun b o hb e => eb b o hb e) f0 f1 f3 f4 f5⟩
  self := fun _ _ _ _ _ st h => wpAny_pyIter_tupleiter st h
theorem turn_range {P : Program} {w : World} {K : PySem.W.Frag} {tg : Expr} (it : Addr) (lo : Int) (n : Nat) : Turn P w K tg (Itr lo n) [it] it (fun i h => IsRangeIter h it (lo + (i : Nat) * 1) ((n : Int) - (i : Nat)) 1) where
  mem := by simp
  obj := fun i h st b hb => by
    have e : b = it := by simpa using hb
    subst e
    exact ⟨_, st, fun v z => by
      have z' : Data.fields _ = Data.cell v := z
      cases z'⟩
  keep := fun i h h' st k => k it (by simp) _ st
  item := by
    intro X hP hw hK hc i pins s σ H E I hf st hg
    subst hP hw hK
    obtain ⟨f0, f1, f2, f3, f4, f5⟩ := hf it (by simp)
    have W := Walks.range (prog := X.prog) (w := X.w) (I.ok.hd hc) it lo 1 n
    refine W.item i s _ _ hg st fun v h' tk hv st' kk => ?_
    obtain ⟨t, rfl⟩ := hv
    have I1 : Inv X pins σ H { s with heap := h', toks := tk } := I.turned (fun b o hb e => kk b o (by simpa using hb) e) f0 f1 f3 f4 f5
    refine ⟨_, rfl, go_of (s := { s with heap := h', toks := tk }) (n := "range_iterator") st' rfl rfl (by decide) ⟨.int (lo + i), H, I1, ⟨t, ?_⟩, ⟨rfl, rfl⟩, st', fun b hb => (hf b hb).1⟩⟩
    rw [Int.mul_one]
  done := by
    intro X hP hw hK hc i pins s σ H E I hf st hg
    subst hP hw hK
    obtain ⟨f0, f1, f2, f3, f4, f5⟩ := hf it (by simp)
    exact wpAny_pyNext_range_end (I.ok.hd hc) st (by have : n ≤ i := hg; omega) fun h' eb => ⟨rfl, I.turned (t' := s.toks) (fun b o hb e => eb b o hb e) f0 f1 f3 f4 f5⟩
  self := fun _ _ _ _ _ st h => wpAny_pyIter_rangeiter st h
end L2

namespace L2
open PySem PySem.Spec PyProof.Rows
section
variable {X : Cx} {tg : Expr}
def iList (K : PySem.W.Frag) (tl : TE) : TI := fun σ H R => tl σ H fun x H1 => ∃ a, x = .ref a ∧ (∃ xs, SqL K H1 a xs) ∧ R (Itl K a) H1
def iTup (K : PySem.W.Frag) (tl : TE) : TI := fun σ H R => tl σ H fun x H1 => ∃ a, x = .ref a ∧ (∃ xs, SqT K H1 a xs) ∧ R (Itt K a) H1
theorem pi_list {l : Expr} {tl : TE} (hl : PE X l tl) : PI X tg l (iList X.K tl) := by
  intro pins s σ H R I h
  refine thn (hl pins s σ H _ I h) fun v s1 ⟨x, H1, I1, r1, q1⟩ => ?_
  obtain ⟨a, e, ⟨xs, hq⟩, q⟩ := q1
  subst e
  cases r1
  obtain ⟨its, rv, p, hz⟩ := I1.list hq
  refine wpAny_pyIter_list p.isList ?_
  refine ⟨s1.heap.objs.size, [s1.heap.objs.size], _, _, H1, rfl, I1.kept (t' := s1.toks) fun b o e => Heap.get?_push_of_some _ e, turn_list a _, ⟨_, Heap.get?_push_size _ rfl, rfl, rfl⟩, fun b hb => ?_, q⟩
  have e : b = s1.heap.objs.size := by simpa using hb
  subst e
  exact I1.fpOk (Nat.le_refl _) (I1.hok.fresh (Nat.le_refl _))
theorem pi_tup {l : Expr} {tl : TE} (hl : PE X l tl) : PI X tg l (iTup X.K tl) := by
  intro pins s σ H R I h
  refine thn (hl pins s σ H _ I h) fun v s1 ⟨x, H1, I1, r1, q1⟩ => ?_
  obtain ⟨a, e, ⟨xs, hq⟩, q⟩ := q1
  subst e
  cases r1
  obtain ⟨its, rv, p, hz⟩ := I1.tuple hq
  refine wpAny_pyIter_tuple (show s1.heap.IsTuple a its.toArray from p) ?_
  refine ⟨s1.heap.objs.size, [s1.heap.objs.size], _, _, H1, rfl, I1.kept (t' := s1.toks) fun b o e => Heap.get?_push_of_some _ e, turn_tuple a _, ⟨_, Heap.get?_push_size _ rfl, rfl, rfl⟩, fun b hb => ?_, q⟩
  have e : b = s1.heap.objs.size := by simpa using hb
  subst e
  exact I1.fpOk (Nat.le_refl _) (I1.hok.fresh (Nat.le_refl _))
/-- a range object just made, walked -/
theorem range_it {pins : List (Addr × Obj)} {σ : St} {H : Hp} {s : Shared} {R : It → Hp → Prop} {E : Value → Shared → Prop} {lo hi : Int} {t u v : Tok} {tk : Nat} (I : Inv X pins σ H s) (h1 : -(2 ^ 62) ≤ lo) (h2 : lo < 2 ^ 62) (h3 : -(2 ^ 62) ≤ hi) (h4 : hi < 2 ^ 62)
    (q : R (Itr lo (hi - lo).toNat) H) : wpAny (model X.prog X.w) X.A (pyIter (.ref s.heap.objs.size)) (PIE X pins σ tg R) E { s with heap := s.heap.push { cls := .type "range", data := .fields #[.int lo t, .int hi u, .int 1 v] }, toks := tk } := by
  refine wpAny_pyIter_range (IsRange.new ..) (small_one h1 h2 h3 h4) ?_
  have I1 : Inv X pins σ H { s with heap := s.heap.push { cls := .type "range", data := .fields #[.int lo t, .int hi u, .int 1 v] }, toks := tk } := I.kept fun b o e => Heap.get?_push_of_some _ e
  refine ⟨(s.heap.push { cls := .type "range", data := .fields #[.int lo t, .int hi u, .int 1 v] }).objs.size, [(s.heap.push { cls := .type "range", data := .fields #[.int lo t, .int hi u, .int 1 v] }).objs.size], _, _, H, rfl,
    I1.kept (t' := tk) fun b o e => Heap.get?_push_of_some _ e, turn_range _ lo (hi - lo).toNat, ?_, fun b hb => ?_, q⟩
  · have e1 : lo + ((0 : Nat) : Int) * 1 = lo := by simp
    have e2 : (((hi - lo).toNat : Nat) : Int) - ((0 : Nat) : Int) = Builtin.Range.rangeSize lo hi 1 := by rw [rangeSize_one]; split <;> omega
    show IsRangeIter _ _ (lo + ((0 : Nat) : Int) * 1) ((((hi - lo).toNat : Nat) : Int) - ((0 : Nat) : Int)) 1
    rw [e1, e2]
    exact Heap.get?_push_size _ rfl
  · have e : b = (s.heap.push { cls := .type "range", data := .fields #[.int lo t, .int hi u, .int 1 v] }).objs.size := by simpa using hb
    subst e
    exact I1.fpOk (Nat.le_refl _) (I1.hok.fresh (Nat.le_refl _))
def iRng1 (ta : TA) : TI := fun σ H R => ta σ H fun vs H1 => ∃ j : Int, vs = [.int j] ∧ -(2 ^ 62) ≤ j ∧ j < 2 ^ 62 ∧ R (Itr 0 j.toNat) H1
def iRng2 (ta : TA) : TI := fun σ H R => ta σ H fun vs H1 => ∃ i j : Int, vs = [.int i, .int j] ∧ (-(2 ^ 62) ≤ i ∧ i < 2 ^ 62 ∧ -(2 ^ 62) ≤ j ∧ j < 2 ^ 62) ∧ R (Itr i (j - i).toNat) H1
theorem pi_range1 {a : Expr} {ta : TA} {p pos : Pos} (hg : Gl X "range") (hm : X.mg "range" = none) (ha : PA X [a] ta) (hs : starEach [a] X.env = [(false, eval a X.env)] := by rfl) : PI X tg (.Call (.Name "range" p) [a] [] pos) (iRng1 ta) := by
  intro pins s σ H R I h
  refine Call_ (ld_blt I hg hm boot_range (PyProof.Rows.callWith_type1 (thn (ha pos pins s σ H _ I h) fun us s1 ⟨vs, H1, I1, r1, q1⟩ => ?_) hs rfl))
  obtain ⟨j, e, q1, q2, q⟩ := q1
  subst e
  cases r1 with
  | cons r rr =>
    cases rr
    obtain ⟨t, rfl⟩ := r
    exact call_range_1 (range_it I1 (by omega) (by omega) q1 q2 (by simpa using q))

/-! ### for -/
/-- W: the invariant by the turn and a measure; N: what the body is to reach -/
def tFor (wi : TI) (g : TG) (tb : TS) : TS := fun D σ H => wi σ H fun J H1 => ∃ W : Nat → Nat → St → Hp → Prop, (∃ m, W 0 m σ H1) ∧ ∀ i m σ H, W i m σ H →
  (J.stop i H ∧ D.nx σ H) ∨ (J.go i H ∧ ∃ N : St → Hp → Prop, (∀ σ' H', N σ' H' → ∃ m', m' < m ∧ W (i + 1) m' σ' H') ∧ ∀ x H', J.yld i H x H' → g x σ H' fun σ2 H2 => tb { D with nx := N, ct := N, bk := D.nx } σ2 H2)
/-- the records at fp as they stand -/
def pinsAt (fp : List Addr) (h : Heap) : List (Addr × Obj) := fp.filterMap fun b => (h.get? b).map fun o => (b, o)
theorem mem_pinsAt {fp : List Addr} {h : Heap} {b : Addr} {o : Obj} (hb : b ∈ fp) (e : h.get? b = some o) : (b, o) ∈ pinsAt fp h := List.mem_filterMap.mpr ⟨b, hb, by rw [e]; rfl⟩
theorem of_pinsAt {fp : List Addr} {h : Heap} {p : Addr × Obj} (hp : p ∈ pinsAt fp h) : p.1 ∈ fp ∧ h.get? p.1 = some p.2 := by
  obtain ⟨b, hb, e⟩ := List.mem_filterMap.mp hp
  cases q : h.get? b with
  | none => rw [q] at e; cases e
  | some o =>
    rw [q] at e
    have e' : (b, o) = p := Option.some.inj e
    subst e'
    exact ⟨hb, q⟩
theorem Inv.pinned {pins : List (Addr × Obj)} {σ : St} {H : Hp} {s : Shared} {fp : List Addr} (I : Inv X pins σ H s) (hf : ∀ b ∈ fp, FpOk X pins H b) (ho : ∀ b ∈ fp, ∃ o, s.heap.get? b = some o ∧ ∀ v, o.data ≠ .cell v) : Inv X (pins ++ pinsAt fp s.heap) σ H s :=
  I.pins_of fun p hp => (List.mem_append.mp hp).elim (fun z => I.pin p (List.mem_append_right _ z)) fun z => by
    obtain ⟨hb, e⟩ := of_pinsAt z
    obtain ⟨f0, f1, f2, _⟩ := hf p.1 hb
    obtain ⟨o, e', d⟩ := ho p.1 hb
    rw [e] at e'; cases e'
    exact ⟨e, f0, f1, f2, d⟩
theorem Inv.unpinned {pins pl : List (Addr × Obj)} {σ : St} {H : Hp} {s : Shared} (I : Inv X (pins ++ pl) σ H s) : Inv X pins σ H s := I.pins_of fun p hp => I.pin p (List.mem_append_right _ (List.mem_append_left _ hp))
theorem ps_for {iter : Expr} {body : List Stmt} {wi : TI} {g : TG} {tb : TS} {pos : Pos} (hp : PassesOwn (model X.prog X.w) X.A X.env X.xe) (hc : X.calm = true) (hi : PI X tg iter wi) (hg : PG X tg g) (hb : PSs X body tb)
    (hs : ∀ x, foldedSetIterable iter X.env x = pure x := by intro _; rfl) : PS X (.For tg iter body [] pos) (tFor wi g tb) := by
  intro pins s σ H D I h
  refine wpAny_For (thn (hi pins s σ H _ I h) fun v s1 h1 => thn h1 fun itv s2 h2 => ?_) hs
  obtain ⟨it, fp, tn, J, H2, e, I2, T, st2, f2, W, ⟨m0, w0⟩, turn⟩ := h2
  subst e
  -- what stays true of the iterator's objects through the loop
  have stat : ∀ {H' : Hp}, (∀ b ∈ fp, H' b = none) → ∀ b ∈ fp, FpOk X pins H' b := fun hn b hb => ⟨hn b hb, (f2 b hb).2⟩
  refine codeAny_forLoop_any (fun n s' => ∃ i σ' H', Inv X pins σ' H' s' ∧ tn i s'.heap ∧ (∀ b ∈ fp, H' b = none) ∧ W i n σ' H') ?_ m0 ⟨0, σ, H2, I2, st2, fun b hb => (f2 b hb).1, w0⟩
  rintro n s3 ⟨i, σ3, H3, I3, st3, fr3, w3⟩
  rcases turn i n σ3 H3 w3 with ⟨stop, qn⟩ | ⟨go, N, hN, step⟩
  · refine wpAny_passesOwn hp (thn (T.done X rfl rfl rfl hc i pins s3 σ3 H3 X.xe I3 (stat fr3) st3 stop) fun r s4 ⟨hr, I4⟩ => ?_)
    subst hr
    exact wpAny_execs_nil ⟨σ3, H3, I4, qn⟩
  · refine wpAny_passesOwn hp (thn (T.item X rfl rfl rfl hc i pins s3 σ3 H3 X.xe I3 (stat fr3) st3 go) fun r s4 ⟨u, hr, h4⟩ => ?_)
    subst hr
    refine wpAny_passesOwn hp (thn h4 fun _ s5 ⟨x, H5, I5, r5, y5, st5, fr5⟩ => ?_)
    have I5' := I5.pinned (stat fr5) (T.obj _ _ st5)
    refine wpAny_passesOwn hp (thn (hg _ s5 σ3 H5 x u _ I5' r5 (step x H5 y5)) fun _ s6 ⟨σ6, H6, I6, q6⟩ => ?_)
    refine wpAny_passesOwn hp (thn (hb _ s6 σ6 H6 _ I6 q6) fun f s7 q7 => ?_)
    have again : ∀ {σ7 : St} {H7 : Hp}, Inv X (pins ++ pinsAt fp s5.heap) σ7 H7 s7 → N σ7 H7 → ∃ m, m < n ∧ ∃ i σ' H', Inv X pins σ' H' s7 ∧ tn i s7.heap ∧ (∀ b ∈ fp, H' b = none) ∧ W i m σ' H' := fun {σ7 H7} I7 n7 => by
      obtain ⟨m', hm, w7⟩ := hN σ7 H7 n7
      refine ⟨m', hm, i + 1, σ7, H7, I7.unpinned, T.keep _ _ _ st5 fun b hb o e => (I7.pin (b, o) (List.mem_append_right _ (List.mem_append_right _ (mem_pinsAt hb e)))).1, fun b hb => ?_, w7⟩
      obtain ⟨o, e, d⟩ := T.obj _ _ st5 b hb
      exact (I7.pin (b, o) (List.mem_append_right _ (List.mem_append_right _ (mem_pinsAt hb e)))).2.1
    cases f with
    | next => obtain ⟨σ7, H7, I7, n7⟩ := q7; exact again I7 n7
    | cont => obtain ⟨σ7, H7, I7, n7⟩ := q7; exact again I7 n7
    | brk => obtain ⟨σ7, H7, I7, q7⟩ := q7; exact ⟨σ7, H7, I7.unpinned, q7⟩
    | ret v => obtain ⟨x7, σ7, H7, I7, r7, q7⟩ := q7; exact ⟨x7, σ7, H7, I7.unpinned, r7, q7⟩
end

/-! ### the forms one uses -/
/-- over a list that the body leaves as it is -/
theorem for_list {K : PySem.W.Frag} {a : Addr} {xs : List V} {g : TG} {tb : TS} {D : Ends} {σ : St} {H : Hp} (Pv : Nat → St → Hp → Prop) (h0 : Pv 0 σ H) (hl : ∀ i σ H, i ≤ xs.length → Pv i σ H → SqL K H a xs)
    (hs : ∀ i x σ H, xs[i]? = some x → Pv i σ H → g x σ H fun σ2 H2 => tb { D with nx := Pv (i + 1), ct := Pv (i + 1), bk := D.nx } σ2 H2) (hd : ∀ σ H, Pv xs.length σ H → D.nx σ H) :
    ∃ W : Nat → Nat → St → Hp → Prop, (∃ m, W 0 m σ H) ∧ ∀ i m σ H, W i m σ H →
      ((Itl K a).stop i H ∧ D.nx σ H) ∨ ((Itl K a).go i H ∧ ∃ N : St → Hp → Prop, (∀ σ' H', N σ' H' → ∃ m', m' < m ∧ W (i + 1) m' σ' H') ∧ ∀ x H', (Itl K a).yld i H x H' → g x σ H' fun σ2 H2 => tb { D with nx := N, ct := N, bk := D.nx } σ2 H2) := by
  refine ⟨fun i m σ H => m = xs.length - i ∧ i ≤ xs.length ∧ Pv i σ H, ⟨xs.length, by simp, Nat.zero_le _, h0⟩, ?_⟩
  rintro i m σ H ⟨rfl, hi, p⟩
  have q := hl i σ H hi p
  by_cases hlt : i < xs.length
  · refine .inr ⟨⟨xs, xs[i], q, by simp [hlt]⟩, Pv (i + 1), fun σ' H' p' => ⟨xs.length - (i + 1), by omega, rfl, hlt, p'⟩, fun x H' y => ?_⟩
    obtain ⟨e, y⟩ := y
    subst e
    exact hs i x σ _ (y xs q) p
  · have e : i = xs.length := by omega
    subst e
    exact .inl ⟨⟨xs, q, Nat.le_refl _⟩, hd σ H p⟩
theorem for_range {lo : Int} {n : Nat} {g : TG} {tb : TS} {D : Ends} {σ : St} {H : Hp} (Pv : Nat → St → Hp → Prop) (h0 : Pv 0 σ H)
    (hs : ∀ i σ H, i < n → Pv i σ H → g (.int (lo + i)) σ H fun σ2 H2 => tb { D with nx := Pv (i + 1), ct := Pv (i + 1), bk := D.nx } σ2 H2) (hd : ∀ σ H, Pv n σ H → D.nx σ H) :
    ∃ W : Nat → Nat → St → Hp → Prop, (∃ m, W 0 m σ H) ∧ ∀ i m σ H, W i m σ H →
      ((Itr lo n).stop i H ∧ D.nx σ H) ∨ ((Itr lo n).go i H ∧ ∃ N : St → Hp → Prop, (∀ σ' H', N σ' H' → ∃ m', m' < m ∧ W (i + 1) m' σ' H') ∧ ∀ x H', (Itr lo n).yld i H x H' → g x σ H' fun σ2 H2 => tb { D with nx := N, ct := N, bk := D.nx } σ2 H2) := by
  refine ⟨fun i m σ H => m = n - i ∧ i ≤ n ∧ Pv i σ H, ⟨n, by simp, Nat.zero_le _, h0⟩, ?_⟩
  rintro i m σ H ⟨rfl, hi, p⟩
  by_cases hlt : i < n
  · refine .inr ⟨hlt, Pv (i + 1), fun σ' H' p' => ⟨n - (i + 1), by omega, rfl, hlt, p'⟩, fun x H' y => ?_⟩
    obtain ⟨e, y⟩ := y
    subst e y
    exact hs i σ _ hlt p
  · have e : i = n := by omega
    subst e
    exact .inl ⟨Nat.le_refl _, hd σ H p⟩
end L2

namespace L2
open PySem PySem.Spec PyProof.Rows

abbrev R2 := V → V → Hp → VK → Prop
/-- a two-place operation on values: f is binaryOp op, inplaceOp op or compareOp op -/
def OpR (X : Cx) (f : Value → Value → Sem Value) (r : R2) : Prop :=
  ∀ (pins : List (Addr × Obj)) (s : Shared) (σ : St) (H : Hp) (x y : V) (v u : Value) (Q : VK), Inv X pins σ H s → RelV x v → RelV y u → r x y H Q →
    wpAny (model X.prog X.w) X.A (f v u) (EP X pins σ Q) X.xe s
/-- a one-place operation -/
def UnR (X : Cx) (f : Value → Sem Value) (r : V → Hp → VK → Prop) : Prop :=
  ∀ (pins : List (Addr × Obj)) (s : Shared) (σ : St) (H : Hp) (x : V) (v : Value) (Q : VK), Inv X pins σ H s → RelV x v → r x H Q →
    wpAny (model X.prog X.w) X.A (f v) (EP X pins σ Q) X.xe s
/-- a call of a value that is known (a builtin, a type) with values -/
def CallR (X : Cx) (f : Value) (r : List V → Hp → VK → Prop) : Prop :=
  ∀ (pins : List (Addr × Obj)) (s : Shared) (σ : St) (H : Hp) (xs : List V) (us : List Value) (Q : VK), Inv X pins σ H s → Vals xs us → r xs H Q →
    wpAny (model X.prog X.w) X.A (call f us) (EP X pins σ Q) X.xe s
/-- a value's truth -/
def TruR (X : Cx) (r : V → Hp → (Bool → Hp → Prop) → Prop) : Prop :=
  ∀ (pins : List (Addr × Obj)) (s : Shared) (σ : St) (H : Hp) (x : V) (v : Value) (Q : Bool → Hp → Prop), Inv X pins σ H s → RelV x v → r x H Q →
    wpAny (model X.prog X.w) X.A (truthy v) (TP X pins σ Q) X.xe s

def tOp (r : R2) (ta tb : TE) : TE := fun σ H Q => ta σ H fun x H1 => tb σ H1 fun y H2 => r x y H2 Q
def tUn (r : V → Hp → VK → Prop) (ta : TE) : TE := fun σ H Q => ta σ H fun x H1 => r x H1 Q
/-- ints in, under C, and a value out -/
def rI (C : Int → Int → Prop) (g : Int → Int → V) : R2 := fun x y H Q => ∃ i j, x = .int i ∧ y = .int j ∧ C i j ∧ Q (g i j) H
def rI0 (g : Int → Int → V) : R2 := fun x y H Q => ∃ i j, x = .int i ∧ y = .int j ∧ Q (g i j) H
def rU (g : Int → V) : V → Hp → VK → Prop := fun x H Q => ∃ i, x = .int i ∧ Q (g i) H

section
variable {X : Cx} {a b c : Expr} {ta tb tc : TE} {pos : Pos}

theorem binT (ha : PE X a ta) (hb : PE X b tb) {pins : List (Addr × Obj)} {s : Shared} {σ : St} {H : Hp} {R : V → V → Hp → Prop} (I : Inv X pins σ H s)
    (h : ta σ H fun x H1 => tb σ H1 fun y H2 => R x y H2) {Q : Value → Shared → Prop} {f : Value → Value → Sem Value}
    (hf : ∀ v u s2 x y H2, Inv X pins σ H2 s2 → RelV x v → RelV y u → R x y H2 → wpAny (model X.prog X.w) X.A (f v u) Q X.xe s2) :
    wpAny (model X.prog X.w) X.A (eval a X.env) (fun v s₁ => wpAny (model X.prog X.w) X.A (eval b X.env) (fun u s₂ => wpAny (model X.prog X.w) X.A (f v u) Q X.xe s₂) X.xe s₁) X.xe s := by
  refine thn (ha pins s σ H _ I h) fun v s1 ⟨x, H1, I1, r1, q1⟩ => ?_
  refine thn (hb pins s1 σ H1 _ I1 q1) fun u s2 ⟨y, H2, I2, r2, q2⟩ => ?_
  exact hf v u s2 x y H2 I2 r1 r2 q2

theorem pe_op {op : Operator} {r : R2} (ho : OpR X (binaryOp op) r) (ha : PE X a ta) (hb : PE X b tb) : PE X (.BinOp a op b pos) (tOp r ta tb) := by
  intro pins s σ H Q I h
  exact wpAny_BinOp (binT ha hb I h fun v u s2 x y H2 I2 rx ry q => ho pins s2 σ H2 x y v u Q I2 rx ry q)
theorem pe_un {op : UnaryOp} {r : V → Hp → VK → Prop} (ho : UnR X (unaryOp op) r) (ha : PE X a ta) : PE X (.UnaryOp op a pos) (tUn r ta) := by
  intro pins s σ H Q I h
  exact UnaryOp_ (thn (ha pins s σ H _ I h) fun v s1 ⟨x, H1, I1, r1, q1⟩ => ho pins s1 σ H1 x v Q I1 r1 q1)

/-! ### ints -/
theorem opI {f : Value → Value → Sem Value} {C : Int → Int → Prop} {g : Int → Int → Int}
    (rule : ∀ (i j : Int) (t u : Tok) (s : Shared) (Q : Value → Shared → Prop) (E : Value → Shared → Prop), C i j → Q (.int (g i j) s.toks) { s with toks := s.toks + 1 } → wpAny (model X.prog X.w) X.A (f (.int i t) (.int j u)) Q E s) :
    OpR X f (rI C fun i j => .int (g i j)) := by
  intro pins s σ H x y v u Q I rx ry h
  obtain ⟨i, j, rfl, rfl, hc, q⟩ := h
  obtain ⟨t, rfl⟩ := rx
  obtain ⟨t', rfl⟩ := ry
  exact rule i j t t' s _ _ hc ⟨.int (g i j), H, I.tok _, ⟨_, rfl⟩, q⟩
theorem opI0 {f : Value → Value → Sem Value} {g : Int → Int → Int}
    (rule : ∀ (i j : Int) (t u : Tok) (s : Shared) (Q : Value → Shared → Prop) (E : Value → Shared → Prop), Q (.int (g i j) s.toks) { s with toks := s.toks + 1 } → wpAny (model X.prog X.w) X.A (f (.int i t) (.int j u)) Q E s) :
    OpR X f (rI0 fun i j => .int (g i j)) := by
  intro pins s σ H x y v u Q I rx ry h
  obtain ⟨i, j, rfl, rfl, q⟩ := h
  obtain ⟨t, rfl⟩ := rx
  obtain ⟨t', rfl⟩ := ry
  exact rule i j t t' s _ _ ⟨.int (g i j), H, I.tok _, ⟨_, rfl⟩, q⟩
theorem opB0 {f : Value → Value → Sem Value} {g : Int → Int → Bool}
    (rule : ∀ (i j : Int) (t u : Tok) (s : Shared) (Q : Value → Shared → Prop) (E : Value → Shared → Prop), Q (.bool (g i j)) s → wpAny (model X.prog X.w) X.A (f (.int i t) (.int j u)) Q E s) :
    OpR X f (rI0 fun i j => .bl (g i j)) := by
  intro pins s σ H x y v u Q I rx ry h
  obtain ⟨i, j, rfl, rfl, q⟩ := h
  obtain ⟨t, rfl⟩ := rx
  obtain ⟨t', rfl⟩ := ry
  exact rule i j t t' s _ _ ⟨.bl (g i j), H, I, rfl, q⟩

def CDiv (i j : Int) : Prop := 0 < j ∧ j < 1073741824
def CDivN (i j : Int) : Prop := j ≠ 0 ∧ j.natAbs < 1073741824
def CPow (i j : Int) : Prop := 0 ≤ j ∧ j ≤ 1000000 ∧ i.natAbs < 2 ^ 64
def CMul (i j : Int) : Prop := (-(2 ^ 64) < i ∧ i < 2 ^ 64) ∨ (-(2 ^ 64) < j ∧ j < 2 ^ 64)
theorem CMul.ok {i j : Int} (h : CMul i j) : IntMulOk i j := by
  rcases h with ⟨h1, h2⟩ | ⟨h1, h2⟩
  · exact .of_left (intBits_le_64 h1 h2)
  · exact .of_right (intBits_le_64 h1 h2)

theorem op_add : OpR X (binaryOp .Add) (rI0 fun i j => .int (i + j)) := opI0 fun _ _ _ _ _ _ _ q => add_int q
theorem op_sub : OpR X (binaryOp .Sub) (rI0 fun i j => .int (i - j)) := opI0 fun _ _ _ _ _ _ _ q => sub_int q
theorem op_mul : OpR X (binaryOp .Mult) (rI CMul fun i j => .int (i * j)) := opI fun _ _ _ _ _ _ _ hc q => mul_int q hc.ok
/-- // by a positive divisor -/
theorem op_fdiv : OpR X (binaryOp .FloorDiv) (rI CDiv fun i j => .int (i / j)) := opI fun i j _ _ _ _ _ hc q => by
  have h1 : (0 : Int) < j := hc.1
  have h2 : j < 1073741824 := hc.2
  exact floordiv_int (by omega) (by rw [Int.fdiv_eq_ediv_of_nonneg i (by omega)]; exact q) (.inl (PyProof.noPylong_small (by omega)))
/-- % by a positive divisor of any size -/
theorem op_mod : OpR X (binaryOp .Mod) (rI (fun _ j => 0 < j) fun i j => .int (i % j)) := opI fun i j _ _ _ _ _ hc q => by
  have h1 : (0 : Int) < j := hc
  exact mod_int' (by omega) (by rw [Int.fmod_eq_emod_of_nonneg i (by omega)]; exact q)
theorem op_pow : OpR X (binaryOp .Pow) (rI CPow fun i j => .int (i ^ j.toNat)) := opI fun _ _ _ _ _ _ _ hc q => pow_int_small hc.1 hc.2.1 hc.2.2 q


theorem unI {f : Value → Sem Value} {g : Int → Int}
    (rule : ∀ (i : Int) (t : Tok) (s : Shared) (Q : Value → Shared → Prop) (E : Value → Shared → Prop), Q (.int (g i) s.toks) { s with toks := s.toks + 1 } → wpAny (model X.prog X.w) X.A (f (.int i t)) Q E s) :
    UnR X f (rU fun i => .int (g i)) := by
  intro pins s σ H x v Q I rx h
  obtain ⟨i, rfl, q⟩ := h
  obtain ⟨t, rfl⟩ := rx
  exact rule i t s _ _ ⟨.int (g i), H, I.tok _, ⟨_, rfl⟩, q⟩
theorem un_neg : UnR X (unaryOp .USub) (rU fun i => .int (-i)) := unI fun _ _ _ _ _ q => neg_int q

/-! ### bools among ints: n += (a < b) -/
end

/-! ### comparisons -/
/-- the scalars that == tells apart as data does -/
def scal : V → V → Bool
  | .non, .non => true | .non, .int _ => true | .int _, .non => true | .non, .bl _ => true | .bl _, .non => true | .non, .str _ => true | .str _, .non => true
  | .int _, .int _ => true | .bl _, .bl _ => true | .str _, .str _ => true | .byt _, .byt _ => true
  | .int _, .str _ => true | .str _, .int _ => true | .bl _, .str _ => true | .str _, .bl _ => true
  | _, _ => false
def rEq : R2 := fun x y H Q => scal x y = true ∧ Q (.bl (decide (x = y))) H
def rNe : R2 := fun x y H Q => scal x y = true ∧ Q (.bl (!decide (x = y))) H

theorem dec_int {i j : Int} : decide (V.int i = V.int j) = (i == j) := by
  rw [Bool.eq_iff_iff]
  simp
theorem dec_bl {i j : Bool} : decide (V.bl i = V.bl j) = (i == j) := by
  rw [Bool.eq_iff_iff]
  simp
theorem dec_str {i j : Str} : decide (V.str i = V.str j) = (i == j) := by
  rw [Bool.eq_iff_iff]
  simp
theorem dec_byt {i j : Array UInt8} : decide (V.byt i = V.byt j) = (i.toList == j.toList) := by
  rw [Bool.eq_iff_iff]
  cases i
  cases j
  simp

section
variable {X : Cx} {a b c : Expr} {ta tb tc : TE} {pos : Pos}
theorem fin_bl {pins : List (Addr × Obj)} {σ : St} {H : Hp} {s : Shared} {Q : VK} {k k' : Bool} (I : Inv X pins σ H s) (q : Q (.bl k) H) (e : k = k') : EP X pins σ Q (.bool k') s := by
  subst e
  exact ⟨.bl k, H, I, rfl, q⟩
theorem op_eq : OpR X (compareOp .Eq) rEq := by
  intro pins s σ H x y v u Q I rx ry h
  obtain ⟨hs, q⟩ := h
  cases x with
  | non =>
    cases rx
    cases y with
    | non => cases ry; exact PySem.EqNone.eq_none_none (fin_bl I q (by simp))
    | bl j => cases ry; exact PySem.EqNone.eq_none_bool (fin_bl I q (by simp))
    | int j => obtain ⟨t', rfl⟩ := ry; exact PySem.EqNone.eq_none_int (fin_bl I q (by simp))
    | str j => obtain ⟨t', rfl⟩ := ry; exact PySem.EqNone.eq_none_str (fin_bl I q (by simp))
    | _ => exact absurd (show false = true from hs) Bool.false_ne_true
  | bl i =>
    cases rx
    cases y with
    | non => cases ry; exact PySem.EqNone.eq_bool_none (fin_bl I q (by simp))
    | bl j => cases ry; exact eq_bool (fin_bl I q dec_bl)
    | str j => obtain ⟨t', rfl⟩ := ry; exact PySem.EqMixed.eq_bool_str (fin_bl I q (by simp))
    | _ => exact absurd (show false = true from hs) Bool.false_ne_true
  | int i =>
    obtain ⟨t, rfl⟩ := rx
    cases y with
    | non => cases ry; exact PySem.EqNone.eq_int_none (fin_bl I q (by simp))
    | int j => obtain ⟨t', rfl⟩ := ry; exact eq_int (fin_bl I q dec_int)
    | str j => obtain ⟨t', rfl⟩ := ry; exact PySem.EqMixed.eq_int_str (fin_bl I q (by simp))
    | _ => exact absurd (show false = true from hs) Bool.false_ne_true
  | str i =>
    obtain ⟨t, rfl⟩ := rx
    cases y with
    | non => cases ry; exact PySem.EqNone.eq_str_none (fin_bl I q (by simp))
    | bl j => cases ry; exact PySem.EqMixed.eq_str_bool (fin_bl I q (by simp))
    | int j => obtain ⟨t', rfl⟩ := ry; exact PySem.EqMixed.eq_str_int (fin_bl I q (by simp))
    | str j => obtain ⟨t', rfl⟩ := ry; exact eq_str (fin_bl I q dec_str)
    | _ => exact absurd (show false = true from hs) Bool.false_ne_true
  | byt i =>
    obtain ⟨t, rfl⟩ := rx
    cases y with
    | byt j => obtain ⟨t', rfl⟩ := ry; exact PySem.W.eq_bytes (fin_bl I q dec_byt)
    | _ => exact absurd (show false = true from hs) Bool.false_ne_true
  | _ => cases y <;> exact absurd (show false = true from hs) Bool.false_ne_true
theorem op_ne : OpR X (compareOp .NotEq) rNe := by
  intro pins s σ H x y v u Q I rx ry h
  obtain ⟨hs, q⟩ := h
  cases x with
  | non =>
    cases rx
    cases y with
    | non => cases ry; exact PySem.EqNone.ne_none_none (fin_bl I q (by simp))
    | bl j => cases ry; exact PySem.EqNone.ne_none_bool (fin_bl I q (by simp))
    | int j => obtain ⟨t', rfl⟩ := ry; exact PySem.EqNone.ne_none_int (fin_bl I q (by simp))
    | str j => obtain ⟨t', rfl⟩ := ry; exact PySem.EqNone.ne_none_str (fin_bl I q (by simp))
    | _ => exact absurd (show false = true from hs) Bool.false_ne_true
  | bl i =>
    cases rx
    cases y with
    | non => cases ry; exact PySem.EqNone.ne_bool_none (fin_bl I q (by simp))
    | bl j => cases ry; exact ne_bool (fin_bl I q (congrArg not dec_bl))
    | str j => obtain ⟨t', rfl⟩ := ry; exact PySem.EqMixed.ne_bool_str (fin_bl I q (by simp))
    | _ => exact absurd (show false = true from hs) Bool.false_ne_true
  | int i =>
    obtain ⟨t, rfl⟩ := rx
    cases y with
    | non => cases ry; exact PySem.EqNone.ne_int_none (fin_bl I q (by simp))
    | int j => obtain ⟨t', rfl⟩ := ry; exact ne_int (fin_bl I q (congrArg not dec_int))
    | str j => obtain ⟨t', rfl⟩ := ry; exact PySem.EqMixed.ne_int_str (fin_bl I q (by simp))
    | _ => exact absurd (show false = true from hs) Bool.false_ne_true
  | str i =>
    obtain ⟨t, rfl⟩ := rx
    cases y with
    | non => cases ry; exact PySem.EqNone.ne_str_none (fin_bl I q (by simp))
    | bl j => cases ry; exact PySem.EqMixed.ne_str_bool (fin_bl I q (by simp))
    | int j => obtain ⟨t', rfl⟩ := ry; exact PySem.EqMixed.ne_str_int (fin_bl I q (by simp))
    | str j => obtain ⟨t', rfl⟩ := ry; exact ne_str (fin_bl I q (congrArg not dec_str))
    | _ => exact absurd (show false = true from hs) Bool.false_ne_true
  | byt i =>
    obtain ⟨t, rfl⟩ := rx
    cases y with
    | byt j => obtain ⟨t', rfl⟩ := ry; exact PySem.W.ne_bytes (fin_bl I q (congrArg not dec_byt))
    | _ => exact absurd (show false = true from hs) Bool.false_ne_true
  | _ => cases y <;> exact absurd (show false = true from hs) Bool.false_ne_true

theorem op_lt : OpR X (compareOp .Lt) (rI0 fun i j => .bl (decide (i < j))) := opB0 fun _ _ _ _ _ _ _ q => lt_int q
theorem op_le : OpR X (compareOp .LtE) (rI0 fun i j => .bl (decide (i ≤ j))) := opB0 fun _ _ _ _ _ _ _ q => le_int q
theorem op_gt : OpR X (compareOp .Gt) (rI0 fun i j => .bl (decide (j < i))) := opB0 fun _ _ _ _ _ _ _ q => gt_int q
theorem op_ge : OpR X (compareOp .GtE) (rI0 fun i j => .bl (decide (j ≤ i))) := opB0 fun _ _ _ _ _ _ _ q => ge_int q

/-- is None, is not None: the right side a value none -/
theorem op_isN : OpR X (compareOp .Is) (fun x y H Q => y = .non ∧ Q (.bl (decide (x = .non))) H) := by
  intro pins s σ H x y v u Q I rx ry h
  obtain ⟨rfl, q⟩ := h
  cases ry
  refine is_none_gen (fin_bl I q ?_)
  cases x <;> first
    | (cases rx; rfl)
    | (obtain ⟨t, rfl⟩ := rx; rfl)

/-- is, is not of two objects that are tracked lists or instances -/
def isObj : HO → Bool
  | .lst _ => true
  | .ins _ _ _ => true
  | _ => false


theorem nomark (b : Expr) {op : CmpOp} (h : op ≠ .In := by decide) (h2 : op ≠ .NotIn := by decide) : behindInMarks op b = false := by
  have e1 : (op == CmpOp.In) = false := by cases op <;> first | rfl | exact absurd rfl h
  have e2 : (op == CmpOp.NotIn) = false := by cases op <;> first | rfl | exact absurd rfl h2
  cases b <;> simp [behindInMarks, e1, e2]
/-- a comparison as a value; hm: nomark b, or (for in, not in) by with_unfolding_all rfl -/
theorem pe_cmpR {op : CmpOp} {r : R2} (ho : OpR X (compareOp op) r) (ha : PE X a ta) (hb : PE X b tb) (hm : behindInMarks op b = false) : PE X (.Compare a [op] [b] pos) (tOp r ta tb) := by
  intro pins s σ H Q I h
  exact wpAny_Compare1 (binT ha hb I h fun v u s2 x y H2 I2 rx ry q => ho pins s2 σ H2 x y v u Q I2 rx ry q) hm
/-- a reading of a value as a test -/
def tTest (t : TE) : TT := fun σ H Q => t σ H fun x H' => ∃ k, x = .bl k ∧ Q k H'
theorem pt_cmpR {op : CmpOp} {r : R2} (ho : OpR X (compareOp op) r) (ha : PE X a ta) (hb : PE X b tb) (hm : behindInMarks op b = false) : PT X (.Compare a [op] [b] pos) (tTest (tOp r ta tb)) := by
  intro pins s σ H Q I h
  refine wpAny_isTrue_Compare1 (thn (ha pins s σ H _ I h) fun v s1 ⟨x, H1, I1, r1, q1⟩ => thn (hb pins s1 σ H1 _ I1 q1) fun u s2 ⟨y, H2, I2, r2, q2⟩ =>
    thn (ho pins s2 σ H2 x y v u _ I2 r1 r2 q2) fun c s3 ⟨z, H3, I3, r3, k, e, q3⟩ => ?_) hm
  subst e
  cases r3
  exact wpAny_truthy_bool ⟨H3, I3, q3⟩
/-- a op1 b op2 c -/
def tChain (r r' : R2) (ta tb tc : TE) : TE := fun σ H Q => ta σ H fun x H1 => tb σ H1 fun y H2 => r x y H2 fun z H3 => ∃ k, z = .bl k ∧
  (if k = true then tc σ H3 fun w' H4 => r' y w' H4 Q else Q (.bl false) H3)
theorem pe_chain {op op' : CmpOp} {r r' : R2} (ho : OpR X (compareOp op) r) (ho' : OpR X (compareOp op') r') (ha : PE X a ta) (hb : PE X b tb) (hc : PE X c tc)
    (hm : lastMarks [op, op'] [b, c] = false := by with_unfolding_all rfl) : PE X (.Compare a [op, op'] [b, c] pos) (tChain r r' ta tb tc) := by
  intro pins s σ H Q I h
  refine Compare_chain (thn (ha pins s σ H _ I h) fun v s1 ⟨x, H1, I1, r1, q1⟩ => chain_link (thn (hb pins s1 σ H1 _ I1 q1) fun u s2 ⟨y, H2, I2, r2, q2⟩ =>
    thn (ho pins s2 σ H2 x y v u _ I2 r1 r2 q2) fun d s3 ⟨z, H3, I3, r3, k, e, q3⟩ => ?_)) hm
  subst e
  cases r3
  refine wpAny_truthy_bool ?_
  cases k with
  | false => exact ite_ff ⟨.bl false, H3, I3, rfl, q3⟩
  | true => exact ite_tt (chain_last (thn (hc pins s3 σ H3 _ I3 q3) fun w' s4 ⟨z', H4, I4, r4, q4⟩ => ho' pins s4 σ H4 y z' u w' Q I4 r2 r4 q4))
theorem pt_chain {op op' : CmpOp} {r r' : R2} (ho : OpR X (compareOp op) r) (ho' : OpR X (compareOp op') r') (ha : PE X a ta) (hb : PE X b tb) (hc : PE X c tc)
    (hm : lastMarks [op, op'] [b, c] = false := by with_unfolding_all rfl) : PT X (.Compare a [op, op'] [b, c] pos) (tTest (tChain r r' ta tb tc)) := by
  intro pins s σ H Q I h
  refine isTrue_chain (thn (ha pins s σ H _ I h) fun v s1 ⟨x, H1, I1, r1, q1⟩ => test_link (thn (hb pins s1 σ H1 _ I1 q1) fun u s2 ⟨y, H2, I2, r2, q2⟩ =>
    thn (ho pins s2 σ H2 x y v u _ I2 r1 r2 q2) fun d s3 ⟨z, H3, I3, r3, k, e, q3⟩ => ?_)) hm
  subst e
  cases r3
  refine wpAny_truthy_bool ?_
  cases k with
  | false =>
    obtain ⟨k', e', q'⟩ := q3
    cases e'
    exact ite_ff ⟨H3, I3, q'⟩
  | true =>
    refine ite_tt (test_last (thn (hc pins s3 σ H3 _ I3 q3) fun w' s4 ⟨z', H4, I4, r4, q4⟩ => thn (ho' pins s4 σ H4 y z' u w' _ I4 r2 r4 q4) fun d' s5 ⟨z2, H5, I5, r5, k2, e2, q5⟩ => ?_))
    subst e2
    cases r5
    exact wpAny_truthy_bool ⟨H5, I5, q5⟩

/-! ### truth -/
/-- a value's truth by the abstract heap -/
def TruV (K : PySem.W.Frag) (x : V) (H : Hp) (k : Bool) : Prop :=
  match x with
  | .non => k = false
  | .bl b => k = b
  | .int i => k = (i != 0)
  | .str y => y.length ≤ sizeLine ∧ k = ((y.length : Int) != 0)
  | .byt y => y.size ≤ sizeLine ∧ k = ((y.size : Int) != 0)
  | .ref p => (∃ xs, SqL K H p xs ∧ k = !xs.isEmpty) ∨ (∃ xs, SqT K H p xs ∧ k = !xs.isEmpty) ∨ ∃ kvs, H p = some (.dK kvs) ∧ k = !kvs.isEmpty
  | _ => False
theorem line63 : (sizeLine : Nat) < 2 ^ 63 := by rw [sizeLine_eq]; decide

/-! ### strs and bytes -/
theorem op_add_str : OpR X (binaryOp .Add) (fun x y H Q => ∃ i j, x = .str i ∧ y = .str j ∧ i.length + j.length ≤ sizeLine ∧ Q (.str (i ++ j)) H) := by
  intro pins s σ H x y v u Q I rx ry h
  obtain ⟨i, j, rfl, rfl, hz, q⟩ := h
  obtain ⟨t, rfl⟩ := rx
  obtain ⟨t', rfl⟩ := ry
  exact add_str (fun t' tk => ⟨.str (i ++ j), H, I.tok _, ⟨_, rfl⟩, q⟩) hz

def PlainIxT (b : Expr) : Prop := ∀ o i, subscripted b false o i = operate [o, i] (getItem o i)

/-! ### scalar builtins, by CallR -/
theorem vals1 {x : V} {us : List Value} (r : Vals [x] us) : ∃ u, us = [u] ∧ RelV x u := by
  cases r with
  | cons r1 r2 => cases r2; exact ⟨_, rfl, r1⟩
theorem vals2 {x y : V} {us : List Value} (r : Vals [x, y] us) : ∃ u w', us = [u, w'] ∧ RelV x u ∧ RelV y w' := by
  cases r with
  | cons r1 r2 =>
    cases r2 with
    | cons r3 r4 => cases r4; exact ⟨_, _, rfl, r1, r3⟩
theorem call_min2 (hc : X.calm = true) : CallR X (.builtin "min") (fun xs H Q => ∃ i j, xs = [.int i, .int j] ∧ Q (.int (if j < i then j else i)) H) := by
  intro pins s σ H xs us Q I r h
  obtain ⟨i, j, rfl, q⟩ := h
  obtain ⟨u, w', rfl, ⟨t, rfl⟩, ⟨t', rfl⟩⟩ := vals2 r
  refine min_two_ints (I.ok.hd hc) fun h' tk k => ⟨_, H, I.kept k, ?_, q⟩
  by_cases hj : j < i
  · rw [if_pos hj, if_pos hj]; exact ⟨_, rfl⟩
  · rw [if_neg hj, if_neg hj]; exact ⟨_, rfl⟩
theorem call_str_int : CallR X (.type "str") (fun xs H Q => ∃ i, xs = [.int i] ∧ i.natAbs.log2 < 1920 ∧ Q (.str (toString i)) H) := by
  intro pins s σ H xs us Q I r h
  obtain ⟨i, rfl, hz, q⟩ := h
  obtain ⟨u, rfl, t, rfl⟩ := vals1 r
  exact PySem.P.str_of_int hz ⟨.str _, H, I.tok _, ⟨_, rfl⟩, q⟩
/-- len of a str, a bytes, a list, a tuple -/
def LenV (K : PySem.W.Frag) (x : V) (H : Hp) (n : Nat) : Prop :=
  match x with
  | .str y => y.length ≤ sizeLine ∧ n = y.length
  | .byt y => y.size ≤ sizeLine ∧ n = y.size
  | .ref p => (∃ xs, SqL K H p xs ∧ n = xs.length) ∨ ∃ xs, SqT K H p xs ∧ n = xs.length
  | _ => False
end
end L2

namespace L2
open PySem PySem.Spec PyProof.Rows

/-! ### an instance, its attributes a map -/
structure ObjM (h : Heap) (x dx C : Addr) (mA : Str → Option Value) : Prop where
  obj : h.get? x = some (PySem.W.instObj C dx)
  ns : h.Ns1 dx mA
  ne : dx ≠ x

theorem lookIn_ns {h : Heap} {dx : Addr} {mA : Str → Option Value} (n : h.Ns1 dx mA) : ∃ od, h.get? dx = some od ∧ ∀ name, PySem.W.lookIn name od = some (mA name) := by
  obtain ⟨o, es, ep, ho, hd, hk, _, hm⟩ := n
  refine ⟨o, ho, fun name => ?_⟩
  have e := hm name
  unfold nsFind findBy at e
  rw [← Array.find?_toList] at e
  unfold PySem.W.lookIn
  rw [hd]
  dsimp only
  split
  · rename_i y q
    rw [q] at e
    exact congrArg some e
  · rename_i q
    rw [q] at e
    have a : es.toList.any (·.refKey) = false := by
      rw [List.any_eq_false]
      intro y hy
      obtain ⟨z, t, hkey⟩ := hk y (Array.mem_toList_iff.mp hy)
      simp [DictEntry.refKey, hkey]
    have a' : ¬ es.toList.any (·.refKey) = true := by rw [a]; exact Bool.false_ne_true
    rw [if_neg a']
    exact congrArg some e

theorem ObjM.look {h : Heap} {x dx C : Addr} {mA : Str → Option Value} (I : ObjM h x dx C mA) : ∃ od, PySem.W.InstAt h x (PySem.W.instObj C dx) C (some od) ∧ ∀ name, PySem.W.lookIn name od = some (mA name) :=
  let ⟨od, ho, hl⟩ := lookIn_ns I.ns
  ⟨od, ⟨I.obj, rfl, rfl, ho⟩, hl⟩

section
variable {prog : Program} {w : World} {A : Around} {E : Value → Shared → Prop} {s : Shared} {K : PySem.W.Frag} {x dx C f : Addr} {mA : Str → Option Value} {name : Str} {v : Value}

theorem get_map {expr : Bool} {Q : Value → Shared → Prop} (X : K.In s.heap) (I : ObjM s.heap x dx C mA) (hg : PySem.W.plainGet K C name = true) (hh : PySem.W.hasDictIn K C = true)
    (ha : PySem.W.findIn K (.ref C) name = some none) (hv : mA name = some v) (hv' : PySem.W.handedIn v = true) (h : Q v { s with toks := s.toks + 1 }) :
    wpAny (model prog w) A (getAttr (.ref x) name expr) Q E s := by
  obtain ⟨od, J, hl⟩ := I.look
  exact PySem.W.get_value X J (PySem.W.plainGet_of hg).1 (PySem.W.findObj_own hh ha rfl (by rw [hl, hv])) hv' h


theorem get_meth {pl : Sem Bool} {Q : Value × List Value → Shared → Prop} (X : K.In s.heap) (I : ObjM s.heap x dx C mA) (hg : PySem.W.plainGet K C name = true)
    (hf : PySem.W.findIn K (.ref C) name = some (some (.ref f))) (ht : PySem.W.isFn K (.ref f) = true) (hv : mA name = none) (h : Q (.ref f, [.ref x]) s) :
    wpAny (model prog w) A (getMethod (.ref x) name pl) Q E s := by
  obtain ⟨od, J, hl⟩ := I.look
  exact PySem.W.method_fn X J (PySem.W.plainGet_of hg).1 (PySem.W.plainGet_of hg).2 hf (beq_iff_eq.mp ht) (by show (PySem.W.lookIn name od).map (·.isSome) = some false; rw [hl, hv]; rfl) h

theorem set_map {ns : List Str} {Q : Unit → Shared → Prop} (X : K.In s.heap) (I : ObjM s.heap x dx C mA)
    (hs : PySem.W.findIn K (.ref C) "__setattr__" = some (some (.builtin "object.__setattr__"))) (hp : PySem.W.plainOver K C = true) (ht : PySem.W.takerIn K C name = some none) (hh : PySem.W.hasDictIn K C = true)
    (hw : PySem.Within mA ns) (hsz : ns.length ≤ sizeLine)
    (h : ∀ h', ObjM h' x dx C (fun y => if y = name then some v else mA y) → Heap.SameBut dx s.heap h' → Q () { s with heap := h', toks := s.toks + 2 }) :
    wpAny (model prog w) A (setAttr (.ref x) name v) Q E s := by
  obtain ⟨od, J, hl⟩ := I.look
  refine PySem.W.set_plain X J hs (PySem.W.osa_open (s := { s with toks := s.toks + 1 }) (r := none) X J hp ht fun b => ?_)
  obtain ⟨cd, hc, hd'⟩ := PySem.W.any_some hh
  have hx : s.heap.get? x = some ⟨.ref C, some dx, .plain, #[]⟩ := I.obj
  refine wpAny_bind (wpAny_pure (wpAny_bind (wpAny_bind (wpAny_loadPart hx (wpAny_bind (PySem.W.Looks.here (s := { s with toks := s.toks + 1 }) (PySem.W.looks_clsIn X hc) ?_))))))
  rw [hd']
  refine wpAny_pure (a := some dx) (wpAny_bind (wpAny_pure (wpAny_bind ?_)))
  refine wpAny_nsSet1 (s := { s with toks := s.toks + 1 }) I.ns fun h' hn2 hs2 => ?_
  obtain ⟨oD, esD, epD, hoD, hdD, hcD⟩ := hn2.count (PySem.Within.cons name v hw)
  refine wpAny_bind (wpAny_lookBehind hoD (by rw [hdD]; exact pastItsLine_dict (Nat.le_trans hcD (by rw [List.length_cons]; omega))) ?_)
  exact wpAny_pure (h _ ⟨(hs2.2 _ (Ne.symm I.ne)).trans I.obj, hn2, I.ne⟩ hs2)

/-- C(..): the dict at the heap's end, the instance behind it; then its __init__ -/
theorem make_map {R : Result → Shared → Prop} {vs : List Value} {kw : List (Str × Value)} (X : K.In s.heap) (hm : PySem.W.makesIn K C = true)
    (hi : PySem.W.findIn K (.ref C) "__init__" = some (some (.ref f))) (hf : PySem.W.typeIn K (.ref f) = some (.type "function"))
    (h : codeAny (model prog w) (A.under (.builtin "type.__call__" ⟨.ref C :: vs, kw⟩)) (.call (.ref f) ⟨.ref (s.heap.objs.size + 1) :: vs, kw⟩) (PySem.W.InitBack (s.heap.objs.size + 1) R)
      { s with heap := (s.heap.push PySem.W.emptyDict).push (PySem.W.instObj C s.heap.objs.size) }) :
    codeAny (model prog w) A (.call (.ref C) ⟨vs, kw⟩) R s := by
  obtain ⟨hh, g, d, t, os⟩ := s
  exact PySem.W.make_core (PySem.W.makes_of X hm) (PySem.W.looks_findIn X hi) (fun self => PySem.W.bind_fn X self hf) (.inl rfl) h
end

/-! ### the attributes as a list of pairs -/
def putF (f : Str) (v : V) : List (Str × V) → List (Str × V)
  | [] => [(f, v)]
  | (g, x) :: r => if g = f then (g, v) :: r else (g, x) :: putF f v r
theorem lookup_putF (f g : Str) (v : V) : ∀ fs : List (Str × V), (putF f v fs).lookup g = if g = f then some v else fs.lookup g
  | [] => by
    show List.lookup g [(f, v)] = _
    by_cases h : g = f
    · have hb : (g == f) = true := beq_iff_eq.mpr h
      simp only [List.lookup, hb, if_pos h]
    · have hb : (g == f) = false := beq_eq_false_iff_ne.mpr h
      simp only [List.lookup, hb, if_neg h]
  | (k, x) :: r => by
    have ih := lookup_putF f g v r
    rw [show putF f v ((k, x) :: r) = (if k = f then (k, v) :: r else (k, x) :: putF f v r) from rfl]
    by_cases hk : k = f
    · rw [if_pos hk]
      by_cases h : g = k
      · have hb : (g == k) = true := beq_iff_eq.mpr h
        simp only [List.lookup, hb, if_pos (h.trans hk)]
      · have hb : (g == k) = false := beq_eq_false_iff_ne.mpr h
        simp only [List.lookup, hb, if_neg (fun e : g = f => h (e.trans hk.symm))]
    · rw [if_neg hk]
      by_cases h : g = k
      · have hb : (g == k) = true := beq_iff_eq.mpr h
        simp only [List.lookup, hb, if_neg (fun e : g = f => hk (h.symm.trans e))]
      · have hb : (g == k) = false := beq_eq_false_iff_ne.mpr h
        simp only [List.lookup, hb]
        exact ih
theorem keys_putF (f : Str) (v : V) : ∀ fs : List (Str × V), f ∈ (putF f v fs).map (·.1) ∧ ∀ g, g ∈ fs.map (·.1) → g ∈ (putF f v fs).map (·.1)
  | [] => ⟨by simp [putF], fun g h => by simp at h⟩
  | (k, x) :: r => by
    obtain ⟨i1, i2⟩ := keys_putF f v r
    rw [show putF f v ((k, x) :: r) = (if k = f then (k, v) :: r else (k, x) :: putF f v r) from rfl]
    by_cases hk : k = f
    · rw [if_pos hk]
      subst hk
      exact ⟨by simp, fun g h => by simpa using h⟩
    · rw [if_neg hk]
      refine ⟨?_, fun g h => ?_⟩
      · rw [List.map_cons]
        exact List.mem_cons_of_mem _ i1
      · rw [List.map_cons] at h ⊢
        rcases List.mem_cons.mp h with e | e
        · exact List.mem_cons.mpr (.inl e)
        · exact List.mem_cons_of_mem _ (i2 g e)
theorem length_putF (f : Str) (v : V) : ∀ fs : List (Str × V), (putF f v fs).length ≤ fs.length + 1
  | [] => by simp [putF]
  | (k, x) :: r => by
    have ih := length_putF f v r
    rw [show putF f v ((k, x) :: r) = (if k = f then (k, v) :: r else (k, x) :: putF f v r) from rfl]
    by_cases hk : k = f
    · rw [if_pos hk, List.length_cons, List.length_cons]; omega
    · rw [if_neg hk, List.length_cons, List.length_cons]; omega

theorem RelO.some_of {v : V} {o : Option Value} (r : RelO (some v) o) : ∃ u, o = some u ∧ RelV v u := by
  cases o with
  | none => exact (show False from r).elim
  | some u => exact ⟨u, rfl, r⟩
theorem RelO.none_of {o : Option Value} (r : RelO none o) : o = none := by
  cases o with
  | none => rfl
  | some u => exact (show False from r).elim
theorem handed_of {v : V} {u : Value} (r : RelV v u) : PySem.W.handedIn u = true := by
  cases v with
  | non => cases (show u = Value.none from r); rfl
  | bl b => cases (show u = Value.bool b from r); rfl
  | int i => obtain ⟨t, e⟩ := (show ∃ t, u = Value.int i t from r); cases e; rfl
  | str x => obtain ⟨t, e⟩ := (show ∃ t, u = Value.str x t from r); cases e; rfl
  | byt b => obtain ⟨t, e⟩ := (show ∃ t, u = Value.bytes b t from r); cases e; rfl
  | flt b => obtain ⟨t, e⟩ := (show ∃ t, u = Value.float b t from r); cases e; rfl
  | ref a => cases (show u = Value.ref a from r); rfl
  | ty n => cases (show u = Value.type n from r); rfl

section
variable {P : Program} {w : World} {H H' : Hp} {h h' : Heap} {a C dx : Addr} {fs fs' : List (Str × V)}
theorem ins_get (hok : HOk P w H h) (e : H a = some (.ins C dx fs)) : ∃ mA, ObjM h a dx C mA ∧ (∀ f, RelO (fs.lookup f) (mA f)) ∧ PySem.Within mA (fs.map (·.1)) ∧ fs.length ≤ 1000 ∧ H dx = some (.own a) := by
  obtain ⟨d, z, ne, ob, mA, n, r, q⟩ := (show ObjOk P w H h a (.ins C dx fs) from hok a _ e)
  exact ⟨mA, ⟨ob, n, ne⟩, r, q, z, d⟩
end

/-! ### what of the text a class must have -/
structure Cls (K : PySem.W.Frag) (C : Addr) : Prop where
  pg : PySem.W.plainGet K C Str.empty = true
  hd : PySem.W.hasDictIn K C = true
  po : PySem.W.plainOver K C = true
  sa : PySem.W.findIn K (.ref C) "__setattr__" = some (some (.builtin "object.__setattr__"))
theorem Cls.get {K : PySem.W.Frag} {C : Addr} (c : Cls K C) (f : Str) : PySem.W.plainGet K C f = true := c.pg
/-- no class of it has the name -/
def NoAttr (K : PySem.W.Frag) (C : Addr) (f : Str) : Prop := PySem.W.findIn K (.ref C) f = some none
theorem NoAttr.taker {K : PySem.W.Frag} {C : Addr} {f : Str} (n : NoAttr K C f) : PySem.W.takerIn K C f = some none := by
  unfold PySem.W.takerIn
  rw [show PySem.W.findIn K (.ref C) f = some none from n]
  rfl
/-- a constant of the class -/
structure Con (K : PySem.W.Frag) (C : Addr) (f : Str) (v : V) (u : Value) : Prop where
  at_ : PySem.W.findIn K (.ref C) f = some (some u)
  rel : RelV v u
  get : PySem.W.specialIn K u "__get__" = some none
  cp : PySem.W.copiedNames.contains f = false
/-- a method: a plain def of the class or of one above it -/
structure Meth (K : PySem.W.Frag) (C : Addr) (m : Str) (f : Addr) : Prop where
  at_ : PySem.W.findIn K (.ref C) m = some (some (.ref f))
  fn : PySem.W.isFn K (.ref f) = true
  kp : PySem.W.keepIn K (.ref f) = true

section
variable {X : Cx} {pins : List (Addr × Obj)} {σ : St} {H : Hp} {s : Shared} {a C dx : Addr} {fs : List (Str × V)} {f : Str} {v : V} {A : Around} {E : Value → Shared → Prop}

theorem getattr_ok {b : Bool} {Q : Value → Shared → Prop} (I : Inv X pins σ H s) (e : H a = some (.ins C dx fs)) (c : Cls X.K C) (n : NoAttr X.K C f) (l : fs.lookup f = some v)
    (h : ∀ u s', Inv X pins σ H s' → RelV v u → Q u s') : wpAny (model X.prog X.w) A (getAttr (.ref a) f b) Q E s := by
  obtain ⟨mA, O, r, _, _, _⟩ := ins_get I.hok e
  obtain ⟨u, hu, ru⟩ := RelO.some_of (v := v) (o := mA f) (by rw [← l]; exact r f)
  exact get_map I.kIn O (c.get f) c.hd n hu (handed_of ru) (h u _ (I.tok _) ru)


theorem getmeth_ok {m : Str} {g : Addr} {pl : Sem Bool} {Q : Value × List Value → Shared → Prop} (I : Inv X pins σ H s) (e : H a = some (.ins C dx fs)) (c : Cls X.K C) (k : Meth X.K C m g) (l : fs.lookup m = none)
    (h : Q (.ref g, [.ref a]) s) : wpAny (model X.prog X.w) A (getMethod (.ref a) m pl) Q E s := by
  obtain ⟨mA, O, r, _, _, _⟩ := ins_get I.hok e
  have hn : mA m = none := RelO.none_of (by rw [← l]; exact r m)
  exact get_meth I.kIn O (c.get m) k.at_ k.fn hn h

theorem setattr_ok {y : V} {u : Value} {Q : Unit → Shared → Prop} (I : Inv X pins σ H s) (e : H a = some (.ins C dx fs)) (c : Cls X.K C) (n : NoAttr X.K C f) (hl : fs.length < 1000) (ry : RelV y u)
    (h : ∀ s', Inv X pins σ (upd H a (.ins C dx (putF f y fs))) s' → Q () s') : wpAny (model X.prog X.w) A (setAttr (.ref a) f u) Q E s := by
  obtain ⟨mA, O, r, wi, _, ho⟩ := ins_get I.hok e
  have hz : (fs.map (·.1)).length ≤ sizeLine := by rw [List.length_map, sizeLine_eq]; omega
  refine set_map I.kIn O c.sa c.po n.taker c.hd wi hz fun h' O' sb => h _ ?_
  have hd : ∃ o, h'.get? dx = some o := let ⟨o, _, _, e', _⟩ := O'.ns; ⟨o, e'⟩
  refine I.write (x := a) (e := dx) (by rw [e]; exact True.intro) (.inr ho) (fun b q hb z => (sb.2 b hb).trans z) hd ?_
  refine ⟨by rw [upd_ne O.ne]; exact ho, ?_, O.ne, O'.obj, _, O'.ns, fun g => ?_, fun g hg => ?_⟩
  · have := length_putF f y fs; omega
  · show RelO ((putF f y fs).lookup g) (if g = f then some u else mA g)
    rw [lookup_putF]
    by_cases q : g = f
    · rw [if_pos q, if_pos q]; exact ry
    · rw [if_neg q, if_neg q]; exact r g
  · by_cases q : g = f
    · rw [q]; exact (keys_putF f y fs).1
    · refine (keys_putF f y fs).2 g (wi g fun z => hg ?_)
      show (if g = f then some u else mA g) = none
      rw [if_neg q]; exact z

/-- a new instance, tracked, without attributes -/
theorem Inv.made (I : Inv X pins σ H s) : Inv X pins σ (upd (upd H s.heap.objs.size (.own (s.heap.objs.size + 1))) (s.heap.objs.size + 1) (.ins C s.heap.objs.size []))
    { s with heap := (s.heap.push PySem.W.emptyDict).push (PySem.W.instObj C s.heap.objs.size) } := by
  have e1 : (s.heap.push PySem.W.emptyDict).get? s.heap.objs.size = some PySem.W.emptyDict := Heap.get?_push_size s.heap rfl
  have e2 : ((s.heap.push PySem.W.emptyDict).push (PySem.W.instObj C s.heap.objs.size)).get? (s.heap.objs.size + 1) = some (PySem.W.instObj C s.heap.objs.size) := by
    have := Heap.get?_push_size (s.heap.push PySem.W.emptyDict) (o := PySem.W.instObj C s.heap.objs.size) rfl
    rwa [Heap.size_push] at this
  have e3 : (s.heap.push PySem.W.emptyDict).Ns s.heap.objs.size (fun _ => none) := ⟨PySem.W.emptyDict, #[], _, e1, rfl, (fun e he => absurd he (by simp)), fun _ => rfl⟩
  have I1 := I.laid (a := s.heap.objs.size) (o := .own (s.heap.objs.size + 1)) (h' := s.heap.push PySem.W.emptyDict) (t' := s.toks) (fun b u q => Heap.get?_push_of_some _ q) (Nat.le_refl _) ⟨_, e1⟩
  refine I1.laid (a := s.heap.objs.size + 1) (o := .ins C s.heap.objs.size []) (t' := s.toks) (fun b u q => Heap.get?_push_of_some _ q) (Nat.le_of_eq (Heap.size_push _ _)) ?_
  have ne : s.heap.objs.size ≠ s.heap.objs.size + 1 := Nat.ne_of_lt (Nat.lt_succ_self _)
  refine ⟨by rw [upd_ne ne, upd_same], Nat.zero_le _, ne, e2, fun _ => none, (Heap.Ns1.of_empty e3).at fun o q => Heap.get?_push_of_some _ q, fun _ => True.intro, fun y hy => absurd rfl hy⟩

/-- e.f where nothing but the object is asked: through attributeBase (super) and the last hold -/
theorem attr_of {prog : Program} {w : World} {env : Env} {e : Expr} {f : Str} {pos : Pos} {s : Shared} {Q : Value → Shared → Prop} (hb : attributeBase e f env (eval e env) = eval e env)
    (h : wpAny (model prog w) A (eval e env) (fun o s₁ => wpAny (model prog w) A (getAttr o f true) Q E s₁) E s) : wpAny (model prog w) A (eval (.Attribute e f pos) env) Q E s :=
  Attribute_any_ h (by rw [arm_eval_Attribute, hb])
end

/-! ### readings and rules -/
/-- e.f, an attribute of the instance -/
def tFld (K : PySem.W.Frag) (ta : TE) (f : Str) : TE := fun σ H Q => ta σ H fun x H1 => ∃ a C dx fs v, x = .ref a ∧ H1 a = some (.ins C dx fs) ∧ Cls K C ∧ NoAttr K C f ∧ fs.lookup f = some v ∧ Q v H1
/-- e.f, a constant of the class -/
def tCon (K : PySem.W.Frag) (ta : TE) (f : Str) : TE := fun σ H Q => ta σ H fun x H1 => ∃ a C dx fs v u, x = .ref a ∧ H1 a = some (.ins C dx fs) ∧ Cls K C ∧ Con K C f v u ∧ fs.lookup f = none ∧ Q v H1
/-- e.f = value -/
def sFld (K : PySem.W.Frag) (ta tv : TE) (f : Str) : TS := fun D σ H => tv σ H fun y H1 => ta σ H1 fun x H2 => ∃ a C dx fs, x = .ref a ∧ H2 a = some (.ins C dx fs) ∧ Cls K C ∧ NoAttr K C f ∧ fs.length < 1000 ∧
  D.nx σ (upd H2 a (.ins C dx (putF f y fs)))
/-- an augmented operator on two values -/
def InOp (X : Cx) (op : Operator) (rd : V → V → Hp → VK → Prop) : Prop :=
  ∀ (pins : List (Addr × Obj)) (s : Shared) (σ : St) (H : Hp) (x y : V) (u v : Value) (Q : VK), Inv X pins σ H s → RelV x u → RelV y v → rd x y H Q → wpAny (model X.prog X.w) X.A (inplaceOp op u v) (EP X pins σ Q) X.xe s
/-- e.f op= value -/
def sFldAug (K : PySem.W.Frag) (ta tv : TE) (rd : V → V → Hp → VK → Prop) (f : Str) : TS := fun D σ H => ta σ H fun x H1 => ∃ a C dx fs v, x = .ref a ∧ H1 a = some (.ins C dx fs) ∧ Cls K C ∧ NoAttr K C f ∧ fs.lookup f = some v ∧
  tv σ H1 fun y H2 => rd v y H2 fun z H3 => ∃ dx' fs', H3 a = some (.ins C dx' fs') ∧ fs'.length < 1000 ∧ D.nx σ (upd H3 a (.ins C dx' (putF f z fs')))

section
variable {X : Cx} {o e value : Expr} {f : Str} {pos pos' tpos : Pos} {ta tv : TE}
theorem pe_fld (he : PE X e ta) (hb : attributeBase e f X.env (eval e X.env) = eval e X.env) : PE X (.Attribute e f pos) (tFld X.K ta f) := by
  intro pins s σ H Q I h
  refine attr_of hb (thn (he pins s σ H _ I h) fun u s1 ⟨x, H1, I1, rx, a, C, dx, fs, v, ex, ea, c, n, l, q⟩ => ?_)
  subst ex
  obtain rfl : u = Value.ref a := rx
  exact getattr_ok I1 ea c n l fun u' s2 I2 ru => ⟨v, H1, I2, ru, q⟩
theorem ps_fld (ha : PE X o ta) (hv : PE X value tv) (hs : swapsWith value (some (.Attribute o f pos')) pos.line X.env = pure false) : PS X (.Assign [.Attribute o f pos'] value pos) (sFld X.K ta tv f) := by
  intro pins s σ H D I h
  refine plainObj_wpAny_Assign_Attribute (thn (hv pins s σ H _ I h) fun u s1 ⟨y, H1, I1, ry, q⟩ => thn (ha pins s1 σ H1 _ I1 q) fun ov s2 ⟨x, H2, I2, rx, a, C, dx, fs, ex, ea, c, n, l, q2⟩ => ?_) hs
  subst ex
  obtain rfl : ov = Value.ref a := rx
  exact setattr_ok I2 ea c n l ry fun s3 I3 => ⟨σ, _, I3, q2⟩
def rAdd : V → V → Hp → VK → Prop := fun x y H Q => ∃ i j, x = .int i ∧ y = .int j ∧ Q (.int (i + j)) H
def rSub : V → V → Hp → VK → Prop := fun x y H Q => ∃ i j, x = .int i ∧ y = .int j ∧ Q (.int (i - j)) H

end

/-! ### isinstance -/
section
variable {X : Cx} {pins : List (Addr × Obj)} {σ : St} {H : Hp} {s : Shared} {A : Around} {E : Value → Shared → Prop} {Q : Value → Shared → Prop} {c : Value} {b : Bool}
/-- the type of a value, as the fragment's deciders take it; for an instance its class -/
inductive TyOf (K : PySem.W.Frag) (H : Hp) : V → Value → Prop where
  | non : TyOf K H .non (.type "NoneType")
  | bl (x : Bool) : TyOf K H (.bl x) (.type "bool")
  | int (i : Int) : TyOf K H (.int i) (.type "int")
  | str (x : Str) : TyOf K H (.str x) (.type "str")
  | flt (x : UInt64) : TyOf K H (.flt x) (.type "float")
  | lst {a : Addr} {xs : List V} (e : H a = some (.lst xs)) : TyOf K H (.ref a) (.type "list")
  | frz {a : Addr} {o : Obj} {xs : List V} (e : H a = some (.frz o (.lst xs))) : TyOf K H (.ref a) (.type "list")
  | tup {a : Addr} {xs : List V} (e : H a = some (.tup xs)) : TyOf K H (.ref a) (.type "tuple")
  | dK {a : Addr} {kvs : List (Key × V)} (e : H a = some (.dK kvs)) : TyOf K H (.ref a) (.type "dict")
  | dT {a : Addr} {kvs : List (List Key × V)} (e : H a = some (.dT kvs)) : TyOf K H (.ref a) (.type "dict")
  | ins {a C dx : Addr} {fs : List (Str × V)} (e : H a = some (.ins C dx fs)) (cl : Cls K C) (ha : PySem.W.findIn K (.ref C) "__class__" = some (some (.builtin "object.__class__")))
      (hn : PySem.W.specialIn K (.builtin "object.__class__") "__get__" = some (some (.builtin "getset_descriptor.__get__"))) (htk : PySem.W.takesIn K (.builtin "object.__class__") = some true)
      (hm : PySem.W.mroIn K C (.type "object") = some true) : TyOf K H (.ref a) (.ref C)
/-- isinstance(x, c) for one class c, a built-in or an own one: kitOne's answer -/
theorem isinst_ok {x : V} {u t : Value} (I : Inv X pins σ H s) (rx : RelV x u) (ty : TyOf X.K H x t) (e : PySem.W.kitOne X.K t c = some b) (h : ∀ tk, Q (.bool b) { s with toks := tk }) :
    wpAny (model X.prog X.w) A (call (.builtin "isinstance") [u, c]) Q E s := by
  cases ty with
  | non => cases (show u = Value.none from rx); exact PySem.W.kia_one PySem.W.kitx_none I.kIn True.intro e (fun z => nomatch z) h
  | bl y => cases (show u = Value.bool y from rx); exact PySem.W.kia_one PySem.W.kitx_bool I.kIn True.intro e (fun z => nomatch z) h
  | int i => obtain ⟨t, q⟩ := (show ∃ t, u = Value.int i t from rx); cases q; exact PySem.W.kia_one PySem.W.kitx_int I.kIn True.intro e (fun z => nomatch z) h
  | str y => obtain ⟨t, q⟩ := (show ∃ t, u = Value.str y t from rx); cases q; exact PySem.W.kia_one PySem.W.kitx_str I.kIn True.intro e (fun z => nomatch z) h
  | flt y => obtain ⟨t, q⟩ := (show ∃ t, u = Value.float y t from rx); cases q; exact PySem.W.kia_one PySem.W.kitx_float I.kIn True.intro e (fun z => nomatch z) h
  | @lst a xs ea =>
    cases (show u = Value.ref a from rx)
    obtain ⟨_, _, n, _, h1⟩ := (show ObjOk X.prog X.w H s.heap a (.lst xs) from I.hok a _ ea)
    exact PySem.W.kia_one PySem.W.kitx_list I.kIn ⟨_, h1, rfl⟩ e (fun z => nomatch z) h
  | @frz a ob xs ea =>
    cases (show u = Value.ref a from rx)
    obtain ⟨_, _, _, n, _, h1⟩ := (show ObjOk X.prog X.w H s.heap a (.frz ob (.lst xs)) from I.hok a _ ea)
    exact PySem.W.kia_one PySem.W.kitx_list I.kIn ⟨_, h1, rfl⟩ e (fun z => nomatch z) h
  | @tup a xs ea =>
    cases (show u = Value.ref a from rx)
    obtain ⟨_, _, _, p⟩ := (show ObjOk X.prog X.w H s.heap a (.tup xs) from I.hok a _ ea)
    obtain ⟨o, h1, h2, _⟩ := p
    exact PySem.W.kia_one PySem.W.kitx_tuple I.kIn ⟨o, h1, h2⟩ e (fun z => nomatch z) h
  | @dK a kvs ea =>
    cases (show u = Value.ref a from rx)
    obtain ⟨_, _, vs, _, p⟩ := (show ObjOk X.prog X.w H s.heap a (.dK kvs) from I.hok a _ ea)
    obtain ⟨o, es, ep, h1, h2, _⟩ := p
    exact PySem.W.kia_one PySem.W.kitx_dict I.kIn ⟨o, h1, h2.1⟩ e (fun z => nomatch z) h
  | @dT a kvs ea =>
    cases (show u = Value.ref a from rx)
    obtain ⟨_, _, xs, _, o, es, ep, h1, h2, _⟩ := (show ObjOk X.prog X.w H s.heap a (.dT kvs) from I.hok a _ ea)
    exact PySem.W.kia_one PySem.W.kitx_dict I.kIn ⟨o, h1, h2.1⟩ e (fun z => nomatch z) h
  | @ins a C dx fs ea cl ha hn htk hm =>
    cases (show u = Value.ref a from rx)
    obtain ⟨mA, O, _⟩ := ins_get I.hok ea
    obtain ⟨od, J, _⟩ := O.look
    exact PySem.W.kia_one (PySem.W.kitx_own (cl.get _) cl.hd ha hn htk hm) I.kIn J e (fun z => nomatch z) h
end
end L2

namespace L2
open PySem PySem.Spec PyProof.Rows

/-! ### room -/
structure Room (k : Nat) (A : Around) : Prop where
  hd : A.handled = none
  dp : A.depth + 3 * k + 5 < recursionLimit
  un : A.units + 16 * k + 200 < cLine
  gd : A.guards = some []
theorem Room.mono {j k : Nat} {A : Around} (r : Room k A) (h : j ≤ k) : Room j A := ⟨r.hd, by have := r.dp; omega, by have := r.un; omega, r.gd⟩
theorem Room.deeper {k : Nat} {A : Around} (r : Room (k + 1) A) (env : Env) : Room k (A.deeper env) :=
  ⟨r.hd, by have := r.dp; show A.depth + 1 + 3 * k + 5 < _; omega, by have := r.un; show A.units + 3 + 16 * k + 200 < _; omega, r.gd⟩
theorem Room.in1 {k : Nat} {A : Around} (r : Room (k + 1) A) : Room k A.in1 :=
  ⟨r.hd, by have := r.dp; show A.depth + 3 * k + 5 < _; omega, by have := r.un; show A.units + 1 + 16 * k + 200 < _; omega, r.gd⟩
theorem make_depth {A : Around} {C : Addr} {us : List Value} {kw : List (Str × Value)} : (A.under (.builtin "type.__call__" ⟨.ref C :: us, kw⟩)).depth = A.depth + 1 := by
  first | rfl | simp [Around.under, Code.weight, Code.isCreation, Code.isGuard, Code.isCaller, Code.frames, Code.isFrame, guardIds]
theorem make_units {A : Around} {C : Addr} {us : List Value} {kw : List (Str × Value)} : (A.under (.builtin "type.__call__" ⟨.ref C :: us, kw⟩)).units = A.units + 1 := by
  first | rfl | simp [Around.under, Code.cUnits, Code.frames, Code.isFrame]
theorem make_guards {A : Around} {C : Addr} {us : List Value} {kw : List (Str × Value)} : (A.under (.builtin "type.__call__" ⟨.ref C :: us, kw⟩)).guards = A.guards := by
  first | rfl | (cases h : A.guards <;> simp [Around.under, Code.guards, Code.isGuard, guardIds, h]; done)
theorem Room.make {k : Nat} {A : Around} (r : Room (k + 1) A) (C : Addr) (us : List Value) (kw : List (Str × Value)) : Room k (A.under (.builtin "type.__call__" ⟨.ref C :: us, kw⟩)) :=
  ⟨r.hd, by have := r.dp; rw [make_depth]; omega, by have := r.un; rw [make_units]; omega, make_guards.trans r.gd⟩
theorem Room.depth {k : Nat} {A : Around} (r : Room k A) : A.depth < recursionLimit := by have := r.dp; omega
theorem Room.units {k : Nat} {A : Around} (r : Room k A) : A.units + 64 < cLine := by have := r.un; omega

/-! ### argument lists and displays -/
def tNil : TA := fun _ H Q => Q [] H
def tCons (ta : TE) (tr : TA) : TA := fun σ H Q => ta σ H fun x H1 => tr σ H1 fun xs H2 => Q (x :: xs) H2
section
variable {X : Cx} {e : Expr} {es : List Expr} {te : TE} {t : TA} {pos : Pos}
theorem pa_nil : PA X [] tNil := fun _ _ _ _ H Q I h => Calls.spliced_nil ⟨[], H, I, .nil, h⟩
theorem pa_cons (ha : PE X e te) (hr : PA X es t) (hs : starEach (e :: es) X.env = (false, eval e X.env) :: starEach es X.env := by rfl) : PA X (e :: es) (tCons te t) := by
  intro pos pins s σ H Q I h
  rw [hs]
  show wpAny _ _ (spliced ((false, eval e X.env) :: backTo pos (starEach es X.env))) _ _ s
  refine Calls.spliced_cons (thn (ha pins s σ H _ I h) fun u s1 ⟨x, H1, I1, r1, q1⟩ => ?_)
  exact thn (hr pos pins s1 σ H1 _ I1 q1) fun us s2 ⟨xs, H2, I2, r2, q2⟩ => ⟨x :: xs, H2, I2, .cons r1 r2, q2⟩

/-- a tuple, a list of written items -/
def tTup (t : TA) : TE := fun σ H Q => t σ H fun xs H1 => xs.length ≤ sizeLine ∧ ∀ p, H1 p = none → Q (.ref p) (upd H1 p (.tup xs))
def tLst (t : TA) : TE := fun σ H Q => t σ H fun xs H1 => xs.length ≤ sizeLine ∧ ∀ p, H1 p = none → Q (.ref p) (upd H1 p (.lst xs))
theorem pe_tup {x1} (h : PA X es t) : PE X (.Tuple es x1 pos) (tTup t) := by
  intro pins s σ H Q I hq
  refine wpAny_Tuple_spliced (thn (h pos pins s σ H _ I hq) fun us s1 ⟨xs, H1, I1, r, z, q⟩ => ⟨by rw [← r.length]; exact z, ?_⟩)
  have hf : H1 s1.heap.objs.size = none := I1.hok.fresh (Nat.le_refl _)
  refine ⟨.ref s1.heap.objs.size, upd H1 s1.heap.objs.size (.tup xs), I1.laid (t' := s1.toks) (fun b u e => Heap.get?_push_of_some _ e) (Nat.le_refl _) ?_, rfl, q _ hf⟩
  exact ⟨z, us, r, ⟨_, Heap.get?_push_size _ rfl, rfl, _, rfl⟩⟩
theorem pe_lst (h : PA X es t) : PE X (.List es pos) (tLst t) := by
  intro pins s σ H Q I hq
  refine wpAny_List_spliced (thn (h pos pins s σ H _ I hq) fun us s1 ⟨xs, H1, I1, r, z, q⟩ => ⟨by rw [← r.length]; exact z, ?_⟩)
  have hf : H1 s1.heap.objs.size = none := I1.hok.fresh (Nat.le_refl _)
  refine ⟨.ref s1.heap.objs.size, upd H1 s1.heap.objs.size (.lst xs), I1.laid (t' := s1.toks) (fun b u e => Heap.get?_push_of_some _ e) (Nat.le_refl _) ?_, rfl, q _ hf⟩
  exact ⟨z, us, 0, r, Heap.get?_push_size _ rfl⟩
end

/-! ### what a def promises -/
/-- a def's promise: the bound arguments in the parameters' order, the heap, the wanted end, the wanted exception -/
abbrev Sp := List V → Hp → VK → XK → Prop
/-- how an exception lies behind a call (file 08 gives it): the callers' frames, abstract heap and state ahead of the call, the wish, the exception, the state -/
abbrev CXT := List Env → Hp → Shared → XK → Value → Shared → Prop

/-- the state at a call -/
structure Env0 (P : Program) (w : World) (K : PySem.W.Frag) (mg : Str → Option Value) (base : Heap) (A : Around) (outer : List Env) (s : Shared) (H : Hp) : Prop where
  frames : A.frames = some outer
  mod : Mod K mg base
  bs : ∀ b o, base.get? b = some o → s.heap.get? b = some o ∧ H b = none
  bsz : base.objs.size ≤ s.heap.objs.size
  funs : s.heap.FunFrames base outer
  frf : ∀ b ∈ frs outer, H b = none
  hok : HOk P w H s.heap
  bare : AllBare s.gens
/-- a call's end -/
def CE (outer : List Env) (P : Program) (w : World) (H : Hp) (s : Shared) (Q : VK) (u : Value) (s' : Shared) : Prop :=
  ∃ v H', s'.os = s.os ∧ AllBare s'.gens ∧ Un (frs outer) [] H H' s.heap s'.heap ∧ HOk P w H' s'.heap ∧ RelV v u ∧ Q v H'
def CR (CX : CXT) (outer : List Env) (P : Program) (w : World) (H : Hp) (s : Shared) (Q : VK) (E : XK) (r : Result) (s' : Shared) : Prop :=
  match r with
  | .ok (.ret u) => CE outer P w H s Q u s'
  | .ok _ => False
  | .error e => CX outer H s E e s'
structure FnOk (P : Program) (w : World) (K : PySem.W.Frag) (mg : Str → Option Value) (base : Heap) (CX : CXT) (k : Nat) (f : Addr) (fd : FuncData) (ps : List Str) (sp : Sp) : Prop where
  len : ∀ vs H Q E, sp vs H Q E → vs.length = ps.length
  run : ∀ (A : Around) (outer : List Env) (s : Shared) (H : Hp) (args : Args) (us : List Value) (vs : List V) (Q : VK) (E : XK), Room k A → Env0 P w K mg base A outer s H → BindsTo s fd args (ps.zip us) → Vals vs us → sp vs H Q E →
    codeAny (model P w) A (.call (.ref f) args) (CR CX outer P w H s Q E) s

theorem Env0.make {P : Program} {w : World} {K : PySem.W.Frag} {mg : Str → Option Value} {base : Heap} {A : Around} {outer : List Env} {s : Shared} {H : Hp} (e : Env0 P w K mg base A outer s H) (C : Addr) (us : List Value) (kw : List (Str × Value)) :
    Env0 P w K mg base (A.under (.builtin "type.__call__" ⟨.ref C :: us, kw⟩)) outer s H := ⟨by first | exact e.frames | (simpa [Around.under, Code.envs, Code.isFrame, pushEnvs] using e.frames), e.mod, e.bs, e.bsz, e.funs, e.frf, e.hok, e.bare⟩
theorem Env0.in1 {P : Program} {w : World} {K : PySem.W.Frag} {mg : Str → Option Value} {base : Heap} {A : Around} {outer : List Env} {s : Shared} {H : Hp} (e : Env0 P w K mg base A outer s H) :
    Env0 P w K mg base A.in1 outer s H := ⟨e.frames, e.mod, e.bs, e.bsz, e.funs, e.frf, e.hok, e.bare⟩

section
variable {X : Cx} {pins : List (Addr × Obj)} {σ : St} {H : Hp} {s s' : Shared}
/-- from a body: what a callee wants -/
theorem Inv.env0 (I : Inv X pins σ H s) : Env0 X.prog X.w X.K X.mg X.base X.A X.stack s H :=
  ⟨I.ok.frames, I.ok.mod, I.bs, Nat.le_trans I.ok.bsz I.sz, I.stack, I.stkFree, I.hok, I.bare⟩
/-- behind a call -/
theorem Inv.after {Q : VK} {u : Value} (I : Inv X pins σ H s) (h : CE X.stack X.prog X.w H s Q u s') : EP X pins σ Q u s' := by
  obtain ⟨v, H', os, bare, un, hok, r, q⟩ := h
  obtain ⟨hh, g, d, t, os'⟩ := s'
  obtain rfl : os' = s.os := os
  exact ⟨v, H', I.call (h' := hh) (g' := g) (d' := d) (t' := t) (ch := []) un hok bare (fun b z => absurd z (by simp)), r, q⟩
end

/-! ### calls -/
/-- f(..): the written arguments, then the defaults dvs; E: what is wanted of an exception -/
def tCall (sp : Sp) (dvs : List V) (E : XK) (t : TA) : TE := fun σ H Q => t σ H fun vs H1 => sp (vs ++ dvs) H1 Q E
/-- o.m(..) of an instance of the class at C -/
def tMeth (C : Addr) (m : Str) (sp : Sp) (dvs : List V) (E : XK) (ta : TE) (t : TA) : TE := fun σ H Q => ta σ H fun x H1 => ∃ a dx fs, x = .ref a ∧ H1 a = some (.ins C dx fs) ∧ fs.lookup m = none ∧
  t σ H1 fun vs H2 => sp (x :: (vs ++ dvs)) H2 Q E
/-- C(..): a new instance and its dict, then __init__ -/
def tMake (C : Addr) (sp : Sp) (dvs : List V) (E : XK) (t : TA) : TE := fun σ H Q => t σ H fun vs H1 => ∀ x dx, H1 x = none → H1 dx = none → dx ≠ x →
  sp (.ref x :: (vs ++ dvs)) (upd (upd H1 dx (.own x)) x (.ins C dx [])) (fun v H2 => v = .non ∧ Q (.ref x) H2) E

/-- how the parameters are bound: us the positional arguments, kw the keywords' values by name, ds the defaults that fill up -/
def Binds (K : PySem.W.Frag) (fd : FuncData) (ps : List Str) (ds : List Value) : Prop :=
  ∀ (s : Shared) (us : List Value), K.In s.heap → (us ++ ds).length = ps.length → BindsTo s fd ⟨us, []⟩ (ps.zip (us ++ ds))
/-- every parameter is given -/
theorem Binds.all {K : PySem.W.Frag} {fd : FuncData} {ps : List Str} (h : ∀ us : List Value, us.length = ps.length → bindArgs fd ⟨us, []⟩ = pure (ps.zip us)) : Binds K fd ps [] := fun s us _ hl => by
  rw [List.append_nil] at hl ⊢
  exact .of_eq (h us hl)

/-- an exception of a callee reaches what this body wants of exceptions -/
def Passes (CX : CXT) (X : Cx) (E : XK) : Prop := ∀ (pins : List (Addr × Obj)) (σ : St) (H : Hp) (s : Shared) (e : Value) (s' : Shared), Inv X pins σ H s → CX X.stack H s E e s' → X.xe e s'

section
variable {X : Cx} {CX : CXT} {k : Nat} {f C : Addr} {fd : FuncData} {ps : List Str} {sp : Sp} {dvs : List V} {ds : List Value} {E : XK} {x m : Str} {p pos apos : Pos} {e o : Expr} {es : List Expr} {ta : TE} {t : TA}

/-- the callee runs -/
theorem run_fn {pins : List (Addr × Obj)} {σ : St} {H : Hp} {s : Shared} {Q : VK} {us : List Value} {vs : List V} (F : FnOk X.prog X.w X.K X.mg X.base CX k f fd ps sp) (hr : Room k X.A) (hb : Binds X.K fd ps ds) (hd : Vals dvs ds) (hx : Passes CX X E)
    (I : Inv X pins σ H s) (r : Vals vs us) (h : sp (vs ++ dvs) H Q E) : wpAny (model X.prog X.w) X.A (call (.ref f) us) (EP X pins σ Q) X.xe s := by
  have r2 : Vals (vs ++ dvs) (us ++ ds) := r.append hd
  have hl : (us ++ ds).length = ps.length := by rw [← r2.length]; exact F.len _ _ _ _ h
  refine wpAny_call (codeAny_mono (F.run X.A X.stack s H ⟨us, []⟩ (us ++ ds) (vs ++ dvs) Q E hr I.env0 (hb s us I.kIn hl) r2 h) fun r s' hq => ?_)
  cases r with
  | error e => exact hx pins σ H s e s' I hq
  | ok fl =>
    cases fl with
    | ret u => exact I.after hq
    | next => exact False.elim hq
    | brk => exact False.elim hq
    | cont => exact False.elim hq

theorem pe_call (F : FnOk X.prog X.w X.K X.mg X.base CX k f fd ps sp) (hr : Room k X.A) (hg : Gl X x) (hm : X.mg x = some (.ref f)) (hk : PySem.W.keepIn X.K (.ref f) = true) (hb : Binds X.K fd ps ds) (hd : Vals dvs ds) (hx : Passes CX X E)
    (ha : PA X (e :: es) t) (hdb : (x == ("__debug__" : Str)) = false := by decide) (he : starEach (e :: es) X.env = (false, eval e X.env) :: starEach es X.env := by rfl) (hpl : (backTo pos (starEach es X.env)).any (·.1) = false := by rfl) :
    PE X (.Call (.Name x p) (e :: es) [] pos) (tCall sp dvs E t) := by
  intro pins s σ H Q I h
  refine wpAny_Call_Name_kw (ld_glob I hg hm ?_ hdb)
  refine PySem.W.callWith_K (h₀ := X.base) I.ok.mod.kin hk (thn (ha pos pins s σ H _ I h) fun us s1 ⟨vs, H1, I1, r, q⟩ => ⟨I1.kIn, ?_⟩) he hpl
  exact run_fn F hr hb hd hx I1 r q

/-- o.m(e, ..) -/
theorem pe_meth {pl : Sem Bool} (he : PE X o ta) (c : Cls X.K C) (hm : Meth X.K C m f) (F : FnOk X.prog X.w X.K X.mg X.base CX k f fd ps sp) (hr : Room k X.A) (hb : Binds X.K fd ps ds) (hd : Vals dvs ds) (hx : Passes CX X E) (ha : PA X (e :: es) t)
    (hst : starEach (e :: es) X.env = (false, eval e X.env) :: starEach es X.env := by rfl) (hpl : (backTo pos (starEach es X.env)).any (·.1) = false := by rfl)
    (ht : eval (.Call (.Attribute o m apos) (e :: es) [] pos) X.env = (do
      let ov ← eval o X.env
      standAt apos.atName
      let (f, first) ← holding [ov] (getMethod ov m pl)
      callWith pos f first (backTo pos (starEach (e :: es) X.env)) (backToKw pos (keywordEach [] X.env))) := by rfl) :
    PE X (.Call (.Attribute o m apos) (e :: es) [] pos) (tMeth C m sp dvs E ta t) := by
  intro pins s σ H Q I h
  refine PySem.W.methodCall_KW (pl := pl) (thn (he pins s σ H _ I h) fun u s1 ⟨x, H1, I1, rx, a, dx, fs, ex, ea, l, q⟩ => ?_) ht
  subst ex
  obtain rfl : u = Value.ref a := rx
  refine getmeth_ok I1 ea c hm l ?_
  refine PySem.W.callWith_K (first := [.ref a]) (h₀ := X.base) I.ok.mod.kin hm.kp (thn (ha pos pins s1 σ H1 _ I1 q) fun us s2 ⟨vs, H2, I2, r, q2⟩ => ⟨I2.kIn, ?_⟩) hst hpl
  exact run_fn (us := .ref a :: us) (vs := .ref a :: vs) F hr hb hd hx I2 (.cons rfl r) q2
/-- o.m() -/
theorem pe_meth0 {pl : Sem Bool} (he : PE X o ta) (c : Cls X.K C) (hm : Meth X.K C m f) (F : FnOk X.prog X.w X.K X.mg X.base CX k f fd ps sp) (hr : Room k X.A) (hb : Binds X.K fd ps ds) (hd : Vals dvs ds) (hx : Passes CX X E)
    (ht : eval (.Call (.Attribute o m apos) [] [] pos) X.env = (do
      let ov ← eval o X.env
      standAt apos.atName
      let (f, first) ← holding [ov] (getMethod ov m pl)
      callWith pos f first (backTo pos (starEach [] X.env)) (backToKw pos (keywordEach [] X.env))) := by rfl) :
    PE X (.Call (.Attribute o m apos) [] [] pos) (tMeth C m sp dvs E ta tNil) := by
  intro pins s σ H Q I h
  refine PySem.W.methodCall_KW (pl := pl) (thn (he pins s σ H _ I h) fun u s1 ⟨x, H1, I1, rx, a, dx, fs, ex, ea, l, q⟩ => ?_) ht
  subst ex
  obtain rfl : u = Value.ref a := rx
  refine getmeth_ok I1 ea c hm l ?_
  exact PySem.W.callWith_K0 (first := [.ref a]) I1.kIn hm.kp (run_fn (us := [.ref a]) (vs := [.ref a]) F hr hb hd hx I1 (.cons rfl .nil) q)

/-- what a class must have to be made -/
structure Mk (K : PySem.W.Frag) (C f : Addr) : Prop where
  makes : PySem.W.makesIn K C = true
  init : PySem.W.findIn K (.ref C) "__init__" = some (some (.ref f))
  fn : PySem.W.isFn K (.ref f) = true
  kp : PySem.W.keepIn K (.ref C) = true

theorem run_make {pins : List (Addr × Obj)} {σ : St} {H : Hp} {s : Shared} {Q : VK} {us : List Value} {vs : List V} (M : Mk X.K C f) (F : FnOk X.prog X.w X.K X.mg X.base CX k f fd ps sp) (hr : Room (k + 1) X.A) (hb : Binds X.K fd ps ds) (hd : Vals dvs ds)
    (hx : Passes CX X E) (I : Inv X pins σ H s) (r : Vals vs us)
    (h : ∀ x dx, H x = none → H dx = none → dx ≠ x → sp (.ref x :: (vs ++ dvs)) (upd (upd H dx (.own x)) x (.ins C dx [])) (fun v H2 => v = .non ∧ Q (.ref x) H2) E) :
    wpAny (model X.prog X.w) X.A (call (.ref C) us) (EP X pins σ Q) X.xe s := by
  have hq := h (s.heap.objs.size + 1) s.heap.objs.size (I.hok.fresh (Nat.le_succ _)) (I.hok.fresh (Nat.le_refl _)) (Nat.ne_of_lt (Nat.lt_succ_self _))
  have I2 := Inv.made (C := C) I
  have r2 : Vals (V.ref (s.heap.objs.size + 1) :: (vs ++ dvs)) (Value.ref (s.heap.objs.size + 1) :: (us ++ ds)) := .cons rfl (r.append hd)
  have hl : (Value.ref (s.heap.objs.size + 1) :: us ++ ds).length = ps.length := by
    have e := r2.length
    rw [F.len _ _ _ _ hq] at e
    exact e.symm
  refine wpAny_call (make_map (f := f) I.kIn M.makes M.init (beq_iff_eq.mp M.fn) (codeAny_mono (F.run _ X.stack _ _ ⟨Value.ref (s.heap.objs.size + 1) :: us, []⟩ (Value.ref (s.heap.objs.size + 1) :: (us ++ ds)) _ _ E (hr.make C us [])
    (I2.env0.make C us []) (hb _ (Value.ref (s.heap.objs.size + 1) :: us) I2.kIn hl) r2 hq) fun r s' hq' => ?_))
  cases r with
  | error e => exact hx pins σ _ _ e s' I2 hq'
  | ok fl =>
    cases fl with
    | ret u =>
      obtain ⟨v, H', I3, rv, ev, q3⟩ := I2.after hq'
      subst ev
      exact ⟨rv, ⟨V.ref (s.heap.objs.size + 1), H', I3, rfl, q3⟩⟩
    | next => exact False.elim hq'
    | brk => exact False.elim hq'
    | cont => exact False.elim hq'
theorem pe_make (M : Mk X.K C f) (F : FnOk X.prog X.w X.K X.mg X.base CX k f fd ps sp) (hr : Room (k + 1) X.A) (hg : Gl X x) (hm : X.mg x = some (.ref C)) (hb : Binds X.K fd ps ds) (hd : Vals dvs ds) (hx : Passes CX X E)
    (ha : PA X (e :: es) t) (hdb : (x == ("__debug__" : Str)) = false := by decide) (he : starEach (e :: es) X.env = (false, eval e X.env) :: starEach es X.env := by rfl) (hpl : (backTo pos (starEach es X.env)).any (·.1) = false := by rfl) :
    PE X (.Call (.Name x p) (e :: es) [] pos) (tMake C sp dvs E t) := by
  intro pins s σ H Q I h
  refine wpAny_Call_Name_kw (ld_glob I hg hm ?_ hdb)
  refine PySem.W.callWith_K (h₀ := X.base) I.ok.mod.kin M.kp (thn (ha pos pins s σ H _ I h) fun us s1 ⟨vs, H1, I1, r, q⟩ => ⟨I1.kIn, ?_⟩) he hpl
  exact run_make M F hr hb hd hx I1 r q
end

/-! ### keywords -/
/-- the values of the keywords, from the left -/
def PK (X : Cx) (kws : List Keyword) (t : TA) : Prop :=
  ∀ (pos : Pos) (pins : List (Addr × Obj)) (s : Shared) (σ : St) (H : Hp) (Q : List V → Hp → Prop), Inv X pins σ H s → t σ H Q → wpAny (model X.prog X.w) X.A (evalAll ((backToKw pos (keywordEach kws X.env)).map (·.2))) (AP X pins σ Q) X.xe s
section
variable {X : Cx} {CX : CXT} {k : Nat} {f C : Addr} {fd : FuncData} {ps ks : List Str} {sp : Sp} {E : XK} {x m : Str} {p pos apos kpos : Pos} {e o : Expr} {es : List Expr} {kws : List Keyword} {te ta : TE} {t tk : TA} {nm : Option Str}
theorem pk_nil : PK X [] tNil := fun _ _ _ _ H Q I h => wpAny_evalAll_nil ⟨[], H, I, .nil, h⟩
theorem pk_cons (ha : PE X e te) (hr : PK X kws t) : PK X (⟨nm, e, kpos⟩ :: kws) (tCons te t) := by
  intro pos pins s σ H Q I h
  show wpAny _ _ (evalAll ((do let v ← eval e X.env; standAt pos; pure v) :: (backToKw pos (keywordEach kws X.env)).map (·.2))) _ _ s
  refine wpAny_evalAll_cons (wpAny_bind (thn (ha pins s σ H _ I h) fun u s1 ⟨x, H1, I1, r1, q1⟩ => wpAny_bind (wpAny_standAt (wpAny_pure ?_))))
  exact thn (hr pos pins s1 σ H1 _ I1 q1) fun us s2 ⟨xs, H2, I2, r2, q2⟩ => ⟨x :: xs, H2, I2, .cons r1 r2, q2⟩

/-- how a call with keywords binds: g puts the positional values us and the keywords' values ws (names ks) in the parameters' order, defaults among them -/
structure KBinds (K : PySem.W.Frag) (fd : FuncData) (ps ks : List Str) (g : List Value → List Value → List Value) (gV : List V → List V → List V) : Prop where
  to : ∀ (s : Shared) (us ws : List Value), K.In s.heap → (g us ws).length = ps.length → BindsTo s fd ⟨us, ks.zip ws⟩ (ps.zip (g us ws))
  rel : ∀ {vs : List V} {us : List Value} {zs : List V} {ws : List Value}, Vals vs us → Vals zs ws → Vals (gV vs zs) (g us ws)
def tCallK (sp : Sp) (gV : List V → List V → List V) (E : XK) (t tk : TA) : TE := fun σ H Q => t σ H fun vs H1 => tk σ H1 fun zs H2 => sp (gV vs zs) H2 Q E
variable {g : List Value → List Value → List Value} {gV : List V → List V → List V}
end

/-! ### a def's body keeps its promise -/
/-- names: the parameters first -/
structure FnScope (N P : List Str) (sc : Scope) : Prop where
  kind : sc.kind = .function
  co : sc.isCoroutine = false
  gen : sc.isGenerator = false
  nd : N.Nodup
  pre : N.take P.length = P
  par : ∀ x ∈ P, sc.names.lookup x = some .local ∨ sc.names.lookup x = some .cell
  nofree : ∀ y ∈ sc.names, y.2 ≠ .free

theorem bindL_out {kindOf : Str → Option NameKind} {x : Str} : ∀ {binds : List (Str × Value)} {m : Str → Option Value}, (∀ v, (x, v) ∉ binds) → bindL kindOf binds m x = m x
  | [], _, _ => rfl
  | (n, v) :: r, m, h => by
    unfold bindL
    rw [bindL_out fun w hw => h w (List.mem_cons_of_mem _ hw)]
    split
    · have : x ≠ n := by rintro rfl; exact h v List.mem_cons_self
      simp [this]
    · rfl
theorem bindC_out {kindOf : Str → Option NameKind} {x : Str} : ∀ {binds : List (Str × Value)} {m : Str → Option Value}, (∀ v, (x, v) ∉ binds) → bindC kindOf binds m x = m x
  | [], _, _ => rfl
  | (n, v) :: r, m, h => by
    unfold bindC
    rw [bindC_out fun w hw => h w (List.mem_cons_of_mem _ hw)]
    split
    · rfl
    · have : x ≠ n := by rintro rfl; exact h v List.mem_cons_self
      simp [this]
theorem bindL_get {kindOf : Str → Option NameKind} {x : Str} {v : Value} : ∀ {P : List Str} {vs : List Value} {i : Nat} {m : Str → Option Value}, P.Nodup → P[i]? = some x → vs[i]? = some v → kindOf x = some .local →
    bindL kindOf (P.zip vs) m x = some v
  | [], _, _, _, _, h, _, _ => by simp at h
  | _ :: _, [], _, _, _, _, h, _ => by simp at h
  | p :: P, w :: vs, 0, m, nd, h1, h2, hk => by
    simp at h1 h2; subst h1; subst h2
    show bindL kindOf ((p, w) :: P.zip vs) m p = _
    unfold bindL
    rw [bindL_out fun v hv => (List.nodup_cons.mp nd).1 (List.of_mem_zip hv).1, if_pos hk]
    simp
  | p :: P, w :: vs, i + 1, m, nd, h1, h2, hk => by
    show bindL kindOf ((p, w) :: P.zip vs) m x = _
    unfold bindL
    exact bindL_get (i := i) (List.nodup_cons.mp nd).2 (by simpa using h1) (by simpa using h2) hk
theorem bindC_get {kindOf : Str → Option NameKind} {x : Str} {v : Value} : ∀ {P : List Str} {vs : List Value} {i : Nat} {m : Str → Option Value}, P.Nodup → P[i]? = some x → vs[i]? = some v → kindOf x ≠ some .local →
    bindC kindOf (P.zip vs) m x = some v
  | [], _, _, _, _, h, _, _ => by simp at h
  | _ :: _, [], _, _, _, _, h, _ => by simp at h
  | p :: P, w :: vs, 0, m, nd, h1, h2, hk => by
    simp at h1 h2; subst h1; subst h2
    show bindC kindOf ((p, w) :: P.zip vs) m p = _
    unfold bindC
    rw [bindC_out fun v hv => (List.nodup_cons.mp nd).1 (List.of_mem_zip hv).1, if_neg hk]
    simp
  | p :: P, w :: vs, i + 1, m, nd, h1, h2, hk => by
    show bindC kindOf ((p, w) :: P.zip vs) m x = _
    unfold bindC
    exact bindC_get (i := i) (List.nodup_cons.mp nd).2 (by simpa using h1) (by simpa using h2) hk

/-- the names' values at the entry -/
def start (N : List Str) (vs : List V) : St := vs.map some ++ List.replicate (N.length - vs.length) none

/-- the context of a def's body, at its entry; an exception leaves the frame, then lies as CX says -/
def cxOf (CX : CXT) (P : Program) (w : World) (K : PySem.W.Frag) (mg : Str → Option Value) (base : Heap) (N : List Str) (qual : Str) (scope : Scope) (f : Addr) (cd : Value) (A : Around) (outer : List Env) (s : Shared) (H : Hp) (E : XK) : Cx where
  prog := P
  w := w
  K := K
  mg := mg
  base := base
  A := A.deeper (envOfC qual scope s.heap.objs.size f cd)
  N := N
  s_0 := s
  H_0 := H
  env := envOfC qual scope s.heap.objs.size f cd
  outer := outer
  stack := envOfC qual scope s.heap.objs.size f cd :: outer
  ex := []
  calm := true
  fn := fun _ => true
  pn := []
  xe := fun e s' => wpAny (model P w) (A.deeper (envOfC qual scope s.heap.objs.size f cd)) (leaving (envOfC qual scope s.heap.objs.size f cd) e) (fun _ s'' => CX outer H s E e s'') (fun e' s'' => CX outer H s E e' s'') s'

theorem cell_has {sc : Scope} {n : Nat} {x : Str} (h : sc.names.lookup x = some .cell) : ∃ c, (cellsFrom n sc.names []).lookup x = some c := by
  have q := PySem.W.cellsFrom_some sc.names n [] (.inl h)
  exact Option.isSome_iff_exists.mp q

theorem inv_start {CX : CXT} {P : Program} {w : World} {K : PySem.W.Frag} {mg : Str → Option Value} {base : Heap} {N ps : List Str} {qual : Str} {scope : Scope} {f : Addr} {cd : Value} {A : Around} {outer : List Env} {s s1 : Shared} {H : Hp} {E : XK} {us : List Value} {vs : List V}
    (S : FnScope N ps scope) (hd : A.handled = none) (e0 : Env0 P w K mg base A outer s H) (hl : vs.length = ps.length) (r : Vals vs us)
    (x : InCallC s s.heap.objs.size (bindL (envOfC qual scope s.heap.objs.size f cd).kindOf (ps.zip us) fun _ => none) (cellsFrom (s.heap.objs.size + 1) scope.names []) (bindC (envOfC qual scope s.heap.objs.size f cd).kindOf (ps.zip us) fun _ => none) s1) :
    Inv (cxOf CX P w K mg base N qual scope f cd A outer s H E) [] (start N vs) H s1 := by
  have hpl : ps.length ≤ N.length := by have := congrArg List.length S.pre; rw [List.length_take] at this; omega
  obtain ⟨h1, tk, rfl, hk⟩ := x.done
  have noA : ∀ b : Addr, b ∉ (cxOf CX P w K mg base N qual scope f cd A outer s H E).ex := fun b z => absurd (show b ∈ ([] : List Addr) from z) (by simp)
  refine ⟨⟨e0.mod, S.kind, rfl, rfl, Nat.le_refl _, fun y z c h1 h2 => ?_, fun y hy => ?_, fun y c _ h => ?_, fun _ => hd, Around.frames_deeper e0.frames, .inr ⟨rfl, rfl⟩, fun b z => absurd z (noA b), e0.bs, e0.bsz, fun b _ _ => noA b, fun b z => absurd z (noA b), e0.funs, e0.frf⟩,
    rfl, e0.bare, Un.kept hk, ⟨_, x.toInCall.ns, fun i y v h1 h2 h3 => ?_⟩, fun y c h => ⟨_, x.cell y c h⟩, e0.hok.fresh (Nat.le_refl _), fun y c h => ?_, fun p hp => absurd (show p ∈ ([] : List (Addr × Obj)) from hp) (by simp), e0.hok.kept hk, ?_⟩
  · exact name_of_addr x.apart (PySem.mem_of_lookup h1) (PySem.mem_of_lookup h2)
  · have hy : scope.names.lookup y = some .cell ∨ scope.names.lookup y = some .free := hy
    rcases hy with hy | hy
    · exact cell_has hy
    · exact absurd rfl (S.nofree _ (PySem.mem_of_lookup hy))
  · exact Nat.le_of_lt (x.above y c (PySem.mem_of_lookup h))
  · have hi : i < vs.length := by
      unfold start at h2
      by_cases hi : i < vs.length
      · exact hi
      · rw [List.getElem?_append_right (by simpa using hi)] at h2
        rw [List.getElem?_replicate] at h2
        split at h2 <;> cases h2
    have ha : vs[i]? = some v := by
      unfold start at h2
      rw [List.getElem?_append_left (by simpa using hi), List.getElem?_map] at h2
      cases e : vs[i]? with
      | none => rw [e] at h2; cases h2
      | some a => rw [e] at h2; cases h2; rfl
    obtain ⟨u, hu, rv⟩ := r.get ha
    have hp : ps[i]? = some y := by
      rw [← S.pre, List.getElem?_take_of_lt (by omega)]; exact h1
    have ndP : ps.Nodup := by rw [← S.pre]; exact S.nd.sublist (List.take_sublist _ _)
    refine ⟨u, rv, ?_⟩
    rcases S.par y (List.mem_of_getElem? hp) with k | k
    · exact .inl ⟨k, bindL_get ndP hp hu k⟩
    · obtain ⟨c, e⟩ := cell_has (n := s.heap.objs.size + 1) k
      refine .inr ⟨.inl k, c, e, ?_⟩
      have q := x.cell y c e
      rw [bindC_get ndP hp hu (by show scope.names.lookup y ≠ _; rw [k]; decide)] at q
      exact q
  · exact e0.hok.fresh (Nat.le_of_lt (x.above y c (PySem.mem_of_lookup h)))
  · unfold start
    show _ = N.length
    rw [List.length_append, List.length_map, List.length_replicate]
    omega

/-- THE RULE: a def (or a method) of the text, by its body. The body's reading t is chosen for each entry; it is run at the parameters' values -/
theorem fn_of {CX : CXT} {P : Program} {w : World} {K : PySem.W.Frag} {mg : Str → Option Value} {base : Heap} {k : Nat} {f : Addr} {name qual : Str} {params : Arguments} {body : List Stmt} {scope : Scope} {dV kV doc pm cdv ct oc : Value} {an od : Option Addr}
    {osl : Array (Option Value)} {N ps : List Str} {sp : Sp} (lk : K.lookup f = some ⟨oc, od, .func (PySem.W.fnOf name qual params body scope dV kV doc pm an cdv ct), osl⟩) (hcd : PySem.W.codeIn K cdv qual = true) (S : FnScope N ps scope)
    (len : ∀ vs H Q E, sp vs H Q E → vs.length = ps.length)
    (hbody : ∀ (A : Around) (outer : List Env) (s : Shared) (H : Hp) (vs : List V) (Q : VK) (E : XK), Room k (A.deeper (envOfC qual scope s.heap.objs.size f cdv)) → sp vs H Q E →
      ∃ t, PSs (cxOf CX P w K mg base N qual scope f cdv A outer s H E) body t ∧ t { nx := fun _ H' => Q .non H', rt := Q } (start N vs) H) :
    FnOk P w K mg base CX (k + 1) f (PySem.W.fnOf name qual params body scope dV kV doc pm an cdv ct) ps sp := by
  refine ⟨len, fun A outer s H args us vs Q E hr e0 hb r hsp => ?_⟩
  have hl := len _ _ _ _ hsp
  have KX : K.In s.heap := e0.mod.kin.keeps fun b o e => (e0.bs b o e).1
  have lim : s.heap.NoLimit := e0.mod.nolimit.keeps fun b o e => (e0.bs b o e).1
  have hkind : ∀ y ∈ ps.zip us, scope.names.lookup y.1 = some .local ∨ (scope.names.lookup y.1 = some .cell ∧ ((cellsFrom (s.heap.objs.size + 1) scope.names []).lookup y.1).isSome = true) := fun ⟨n, v⟩ hy => by
    rcases S.par n (List.of_mem_zip hy).1 with q | q
    · exact .inl q
    · exact .inr ⟨q, PySem.W.cellsFrom_some _ _ _ (.inl q)⟩
  refine codeAny_call_function hr.depth (KX _ _ lk) rfl S.co S.gen rfl (PySem.W.codeRec_of KX hcd) (hb _ _ _ _ ?_)
  refine wpAny_newFunctionEnv_cells S.kind hkind fun env he s1 x => ?_
  subst he
  refine ⟨lim.keeps x.toInCall.keep, codeAny_func ?_⟩
  obtain ⟨t, ht, hq⟩ := hbody A outer s H vs Q E (hr.deeper _) hsp
  have I : Inv (cxOf CX P w K mg base N qual scope f cdv A outer s H E) [] (start N vs) H s1 := inv_start S hr.hd e0 hl r x
  refine wpAny_mono (ht [] s1 (start N vs) H _ I hq) (fun fl s' hs => ?_) fun e s' hs => hs
  have fin : ∀ {σ' : St} {H' : Hp} {v : V} {u : Value}, Inv (cxOf CX P w K mg base N qual scope f cdv A outer s H E) [] σ' H' s' → RelV v u → Q v H' → CE outer P w H s Q u s' :=
    fun {σ' H' v u} J rv q => ⟨v, H', J.os, J.bare, J.base, J.hok, rv, q⟩
  cases fl with
  | ret u =>
    obtain ⟨v, σ', H', J, rv, q⟩ := hs
    exact fin J rv q
  | next =>
    obtain ⟨σ', H', J, q⟩ := hs
    exact fin (v := V.non) (u := Value.none) J rfl q
  | brk =>
    obtain ⟨_, _, _, q⟩ := hs
    exact False.elim q
  | cont =>
    obtain ⟨_, _, _, q⟩ := hs
    exact False.elim q
end L2

namespace L2
open PySem PySem.Spec PyProof.Rows
section
variable {X : Cx} {x : Str} {p pos : Pos} {e : Expr} {es : List Expr} {t : TA} {id T : String} {r : List V → Hp → VK → Prop}

def tCB (r : List V → Hp → VK → Prop) (t : TA) : TE := fun σ H Q => t σ H fun vs H1 => r vs H1 Q
/-- f(e, ..), f a built-in function -/
theorem pe_callB (hc : CallR X (.builtin id) r) (hg : Gl X x) (hm : X.mg x = none) (hv : bootBuiltins x = some (.builtin id)) (ha : PA X (e :: es) t) (hn : x ≠ "__name__" := by decide) (hdb : (x == ("__debug__" : Str)) = false := by decide)
    (he : starEach (e :: es) X.env = (false, eval e X.env) :: starEach es X.env := by rfl) (hpl : (backTo pos (starEach es X.env)).any (·.1) = false := by rfl) : PE X (.Call (.Name x p) (e :: es) [] pos) (tCB r t) := by
  intro pins s σ H Q I h
  refine wpAny_Call_Name_kw (ld_blt I hg hm hv ?_ hn hdb)
  exact PyProof.Rows.callWith_builtin1 (thn (ha pos pins s σ H _ I h) fun us s1 ⟨vs, H1, I1, r1, q1⟩ => hc pins s1 σ H1 vs us Q I1 r1 q1) he hpl
/-- T(e, ..), T a built-in type -/
theorem pe_callTy (hc : CallR X (.type T) r) (hg : Gl X x) (hm : X.mg x = none) (hv : bootBuiltins x = some (.type T)) (ha : PA X (e :: es) t) (hn : x ≠ "__name__" := by decide) (hdb : (x == ("__debug__" : Str)) = false := by decide)
    (he : starEach (e :: es) X.env = (false, eval e X.env) :: starEach es X.env := by rfl) (hpl : (backTo pos (starEach es X.env)).any (·.1) = false := by rfl) : PE X (.Call (.Name x p) (e :: es) [] pos) (tCB r t) := by
  intro pins s σ H Q I h
  refine wpAny_Call_Name_kw (ld_blt I hg hm hv ?_ hn hdb)
  exact PyProof.Rows.callWith_type1 (thn (ha pos pins s σ H _ I h) fun us s1 ⟨vs, H1, I1, r1, q1⟩ => hc pins s1 σ H1 vs us Q I1 r1 q1) he hpl
end
end L2

namespace HT
open PySem PyProof.Rows

/-- t < u of tuples of ints -/
def lexLt : List Int → List Int → Bool
  | [], [] => false
  | [], _ :: _ => true
  | _ :: _, [] => false
  | x :: xs, y :: ys => if x = y then lexLt xs ys else decide (x < y)


section
open PySem.SeqAt
open PySem.AutoSeq1 (wpAny_loadPart')
open PySem.MeetsSeq PySem.MeetsSeq2 PySem.MeetsSeq3

end

section
variable {prog : Program} {w : World} {A : Around} {E : Value → Shared → Prop} {s : Shared}



/-! ### t[a:b], not the whole -/
/-- a slice's bound as a place among n (d where it is left out) -/
def sIx (n d : Nat) : Option Int → Nat
  | none => d
  | some v => if v < 0 then (v + (n : Int)).toNat else min v.toNat n
theorem sIx_none (n d : Nat) : sIx n d none = d := rfl
theorem sIx_nat (n d k : Nat) : sIx n d (some (k : Int)) = min k n := by
  show (if (k : Int) < 0 then ((k : Int) + (n : Int)).toNat else min (k : Int).toNat n) = min k n
  rw [if_neg (by omega), Int.toNat_natCast]
theorem sIx_le (n d : Nat) (hd : d ≤ n) (o : Option Int) : sIx n d o ≤ n := by
  cases o with
  | none => exact hd
  | some v =>
    show (if v < 0 then (v + (n : Int)).toNat else min v.toNat n) ≤ n
    by_cases hv : v < 0
    · rw [if_pos hv]; omega
    · rw [if_neg hv]; exact Nat.min_le_right _ _

end
end HT

namespace L2
open PySem PySem.Spec PyProof.Rows

/-! ### the parts of a slice -/
abbrev TO := St → Hp → (Option Int → Hp → Prop) → Prop
/-- a slice's part (left out, or an int) -/
def PO (X : Cx) (e : Option Expr) (t : TO) : Prop :=
  ∀ (pins : List (Addr × Obj)) (s : Shared) (σ : St) (H : Hp) (Q : Option Int → Hp → Prop), Inv X pins σ H s → t σ H Q →
    wpAny (model X.prog X.w) X.A (evalPart e X.env) (fun u s' => ∃ o H', Inv X pins σ H' s' ∧ IsPart u o ∧ Q o H') X.xe s
def tNoPart : TO := fun _ H Q => Q none H
def tPart (t : TE) : TO := fun σ H Q => t σ H fun x H1 => ∃ i, x = .int i ∧ Q (some i) H1


section
variable {X : Cx} {e : Expr} {te : TE} {lo hi : Option Expr} {tl th : TO} {pos p2 : Pos}

theorem po_none : PO X none tNoPart := by
  intro pins s σ H Q I h
  rw [evalPart_none]
  exact wpAny_pure ⟨none, H, I, .none, h⟩
theorem po_some (h : PE X e te) : PO X (some e) (tPart te) := by
  intro pins s σ H Q I hw
  rw [evalPart_some]
  refine thn (h pins s σ H _ I hw) fun u s1 ⟨x, H1, I1, r1, q1⟩ => ?_
  obtain ⟨i, rfl, q⟩ := q1
  obtain ⟨t, rfl⟩ := r1
  exact ⟨some i, H1, I1, .int i t, q⟩

/-- what a slice of a value is, by values: the slice object stands at sl -/
def SlR (X : Cx) (r : V → Option Int → Option Int → Hp → VK → Prop) : Prop :=
  ∀ (pins : List (Addr × Obj)) (s : Shared) (σ : St) (H : Hp) (x : V) (v vl vu : Value) (lo hi : Option Int) (sl : Addr) (Q : VK), Inv X pins σ H s → RelV x v → s.heap.IsSliceOf sl vl vu .none → IsPart vl lo → IsPart vu hi → r x lo hi H Q →
    ∃ T id, typeLookup (.type T) "__getitem__" = pure (some (.builtin id)) ∧ s.TypeIs v T ∧ wpAny (model X.prog X.w) X.A (getItem v (.ref sl)) (EP X pins σ Q) X.xe s
def tSl (r : V → Option Int → Option Int → Hp → VK → Prop) (te : TE) (tl th : TO) : TE := fun σ H Q => te σ H fun x H1 => tl σ H1 fun l H2 => th σ H2 fun u H3 => r x l u H3 Q
/-- a[lo:hi], any a -/
theorem pe_slice {r : V → Option Int → Option Int → Hp → VK → Prop} (hr : SlR X r) (he : PE X e te) (hl : PO X lo tl) (hu : PO X hi th) : PE X (.Subscript e (.Slice lo hi none p2) pos) (tSl r te tl th) := by
  intro pins s σ H Q I h
  refine Subscript_ (thn (he pins s σ H _ I h) fun v s1 ⟨x, H1, I1, r1, q1⟩ => ?_)
  refine wpAny_Slice (thn (hl pins s1 σ H1 _ I1 q1) fun vl s2 ⟨l, H2, I2, pl, q2⟩ => thn (hu pins s2 σ H2 _ I2 q2) fun vu s3 ⟨u, H3, I3, pu, q3⟩ => ?_)
  rw [evalPart_none]
  refine wpAny_pure ?_
  have I4 : Inv X pins σ H3 { s3 with heap := s3.heap.push { cls := .type "slice", data := .fields #[vl, vu, .none] } } := I3.kept (t' := s3.toks) fun b ob q => Heap.get?_push_of_some _ q
  obtain ⟨T, id, hT, ht, hg⟩ := hr pins { s3 with heap := s3.heap.push { cls := .type "slice", data := .fields #[vl, vu, .none] } } σ H3 x v vl vu l u s3.heap.objs.size Q I4 r1 (Heap.IsSliceOf.new ..) pl pu q3
  show wpAny (model X.prog X.w) X.A (subscriptTail e (.Slice lo hi none p2) v (.ref s3.heap.objs.size)) (EP X pins σ Q) X.xe { s3 with heap := s3.heap.push { cls := .type "slice", data := .fields #[vl, vu, .none] } }
  exact tail_any (ops := [.ref s3.heap.objs.size, v]) ht hT hg (by with_unfolding_all rfl)

/-- the items of xs[lo:hi] -/
def cutV (xs : List V) (lo hi : Option Int) : List V := (xs.drop (HT.sIx xs.length 0 lo)).take (HT.sIx xs.length xs.length hi - HT.sIx xs.length 0 lo)
theorem cutV_length (xs : List V) (lo hi : Option Int) : (cutV xs lo hi).length ≤ xs.length := by
  unfold cutV
  rw [List.length_take, List.length_drop]
  omega
/-- t[lo:hi], not the whole of it (the whole would be t itself) -/
def rSlT (K : PySem.W.Frag) : V → Option Int → Option Int → Hp → VK → Prop := fun x lo hi H Q => ∃ a xs, x = .ref a ∧ SqT K H a xs ∧
  ¬ (HT.sIx xs.length 0 lo = 0 ∧ HT.sIx xs.length xs.length hi = xs.length) ∧ ∀ p, H p = none → Q (.ref p) (upd H p (.tup (cutV xs lo hi)))

/-! ### t < u, t + u -/
def rLtT (K : PySem.W.Frag) : R2 := fun x y H Q => ∃ a b ns ms, x = .ref a ∧ y = .ref b ∧ SqT K H a (ns.map V.int) ∧ SqT K H b (ms.map V.int) ∧ Q (.bl (HT.lexLt ns ms)) H
/-- t + u, t not empty: u empty gives t itself -/
def rCatT (K : PySem.W.Frag) : R2 := fun x y H Q => ∃ a b xs ys, x = .ref a ∧ y = .ref b ∧ SqT K H a xs ∧ SqT K H b ys ∧ xs ≠ [] ∧ xs.length + ys.length ≤ sizeLine ∧
  (ys = [] → Q (.ref a) H) ∧ (ys ≠ [] → ∀ p, H p = none → Q (.ref p) (upd H p (.tup (xs ++ ys))))
end
end L2

namespace L2
open PySem PySem.Spec PyProof.Rows

/-! ### places -/
/-- the place that an index of any sign means -/
def ixN (n : Nat) (i : Int) : Option Nat := if 0 ≤ i then (if i < n then some i.toNat else none) else if -(n : Int) ≤ i then some (i + n).toNat else none
def atI {α : Type} (xs : List α) (i : Int) : Option α := (ixN xs.length i).bind fun j => xs[j]?
theorem ixN_seq {n : Nat} {i : Int} {j : Nat} (h : ixN n i = some j) : seqIndex? i n = some j ∧ j < n ∧ -(n : Int) ≤ i ∧ i < n := by
  unfold ixN at h
  by_cases h0 : 0 ≤ i
  · rw [if_pos h0] at h
    by_cases h1 : i < n
    · rw [if_pos h1] at h
      have e : i.toNat = j := Option.some.inj h
      exact ⟨by rw [seqIndex_of h0 h1, e], by omega, by omega, h1⟩
    · rw [if_neg h1] at h; cases h
  · rw [if_neg h0] at h
    by_cases h1 : -(n : Int) ≤ i
    · rw [if_pos h1] at h
      have e : (i + n).toNat = j := Option.some.inj h
      exact ⟨by rw [seqIndex_neg (by omega) h1, e], by omega, h1, by omega⟩
    · rw [if_neg h1] at h; cases h
theorem atI_get {α : Type} {xs : List α} {i : Int} {v : α} (h : atI xs i = some v) : ∃ j, seqIndex? i xs.length = some j ∧ xs[j]? = some v ∧ j < xs.length ∧ -(xs.length : Int) ≤ i ∧ i < xs.length := by
  unfold atI at h
  cases e : ixN xs.length i with
  | none => rw [e] at h; cases h
  | some j =>
    rw [e] at h
    obtain ⟨h1, h2, h3, h4⟩ := ixN_seq e
    exact ⟨j, h1, h, h2, h3, h4⟩
theorem atI_nat {α : Type} {xs : List α} {j : Nat} {v : α} (h : xs[j]? = some v) : atI xs (j : Int) = some v := by
  have hj : j < xs.length := (List.getElem?_eq_some_iff.mp h).1
  have e : ixN xs.length (j : Int) = some j := by
    unfold ixN
    rw [if_pos (by omega), if_pos (by omega)]; simp
  unfold atI; rw [e]; exact h

/-! ### what may be subscripted -/
/-- what stands as an index of a plain subscript -/
def PlainIx (b : Expr) : Prop := ∀ o i, subscripted b false o i = operate [o, i] (getItem o i)
/-- a subscript by values -/
def IxR (X : Cx) (r : R2) : Prop :=
  ∀ (value slice : Expr) (pins : List (Addr × Obj)) (s : Shared) (σ : St) (H : Hp) (x y : V) (v u : Value) (Q : VK), Inv X pins σ H s → RelV x v → RelV y u → r x y H Q →
    subscripted slice false v u = operate [v, u] (getItem v u) → wpAny (model X.prog X.w) X.A (subscriptTail value slice v u) (EP X pins σ Q) X.xe s
/-- a call of a builtin's method by values: the receiver, the arguments -/
def MtR (X : Cx) (id : String) (r : V → List V → Hp → VK → Prop) : Prop :=
  ∀ (pins : List (Addr × Obj)) (s : Shared) (σ : St) (H : Hp) (x : V) (xs : List V) (v : Value) (us : List Value) (Q : VK), Inv X pins σ H s → RelV x v → Vals xs us → r x xs H Q →
    wpAny (model X.prog X.w) X.A (call (.builtin id) (v :: us)) (EP X pins σ Q) X.xe s
section
variable {X : Cx} {a b : Expr} {ta tb : TE} {pos : Pos}
theorem IxR.or {r r' : R2} (h : IxR X r) (h' : IxR X r') : IxR X (fun x y H Q => r x y H Q ∨ r' x y H Q) := by
  intro value slice pins s σ H x y v u Q I rx ry q hs
  rcases q with q | q
  · exact h value slice pins s σ H x y v u Q I rx ry q hs
  · exact h' value slice pins s σ H x y v u Q I rx ry q hs
/-- a[b] -/
theorem pe_ix {r : R2} (hr : IxR X r) (ha : PE X a ta) (hb : PE X b tb) (hs : PlainIx b) : PE X (.Subscript a b pos) (tOp r ta tb) := by
  intro pins s σ H Q I h
  exact Subscript_ (binT ha hb I h fun v u s2 x y H2 I2 rx ry q => hr a b pins s2 σ H2 x y v u Q I2 rx ry q (hs _ _))

def rIxL (K : PySem.W.Frag) : R2 := fun x y H Q => ∃ p xs i v, x = .ref p ∧ y = .int i ∧ SqL K H p xs ∧ atI xs i = some v ∧ Q v H
def rIxT (K : PySem.W.Frag) : R2 := fun x y H Q => ∃ p xs i v, x = .ref p ∧ y = .int i ∧ SqT K H p xs ∧ atI xs i = some v ∧ Q v H
def rIxS : R2 := fun x y H Q => ∃ z i c, x = .str z ∧ y = .int i ∧ z.length ≤ sizeLine ∧ atI z.cps.toList i = some c ∧ Q (.str ⟨#[c]⟩) H
theorem ix_list : IxR X (rIxL X.K) := by
  intro value slice pins s σ H x y v u Q I rx ry h hs
  obtain ⟨p, xs, i, z, rfl, rfl, hq, he, q⟩ := h
  cases rx
  obtain ⟨t, rfl⟩ := ry
  obtain ⟨its, r, pl, hz⟩ := I.list hq
  obtain ⟨j, h1, h2, h3, h4, h5⟩ := atI_get he
  obtain ⟨w, ew, rw'⟩ := r.get h2
  have hl := r.length
  have hn := line63
  have fin : EP X pins σ Q w s := ⟨z, H, I, rw', q⟩
  by_cases h0 : 0 ≤ i
  · have hj : i.toNat = j := by
      rw [seqIndex_of h0 h5] at h1
      exact Option.some.inj h1
    exact item_listR pl.isList h0 (by omega) (by rw [hj]; simpa using ew) fin hs
  · have hj : (i + (its.toArray.size : Int)).toNat = j := by
      rw [seqIndex_neg (by omega) h4] at h1
      rw [List.size_toArray, ← hl]
      exact Option.some.inj h1
    exact subscriptTail_builtinR (x := w) pl.isList.typeIs slot_list_getitem.lookup
      (wpAny_getItem_list_neg (Q := fun r s' => r = w ∧ EP X pins σ Q r s') pl.isList (by omega) (by rw [List.size_toArray] <;> omega) (by omega) (by rw [hj]; simpa using ew) ⟨rfl, fin⟩) hs
theorem ix_tup : IxR X (rIxT X.K) := by
  intro value slice pins s σ H x y v u Q I rx ry h hs
  obtain ⟨p, xs, i, z, rfl, rfl, hq, he, q⟩ := h
  cases rx
  obtain ⟨t, rfl⟩ := ry
  obtain ⟨its, r, pl, hz⟩ := I.tuple hq
  obtain ⟨j, h1, h2, h3, h4, h5⟩ := atI_get he
  obtain ⟨w, ew, rw'⟩ := r.get h2
  have hl := r.length
  have hn := line63
  have fin : EP X pins σ Q w s := ⟨z, H, I, rw', q⟩
  exact subscriptTail_builtinR (x := w) pl.typeIs slot_tuple_getitem.lookup
    (getItem_tuple (j := j) (Q := fun r s' => r = w ∧ EP X pins σ Q r s') pl (by omega) (by omega) (by rw [List.size_toArray, ← hl]; exact h1) (by simpa using ew) ⟨rfl, fin⟩) hs
theorem ix_str : IxR X rIxS := by
  intro value slice pins s σ H x y v u Q I rx ry h hs
  obtain ⟨z, i, c, rfl, rfl, hz, he, q⟩ := h
  obtain ⟨t, rfl⟩ := rx
  obtain ⟨t', rfl⟩ := ry
  obtain ⟨j, h1, h2, h3, h4, h5⟩ := atI_get he
  have hl : z.cps.toList.length = z.length := by simp [Str.length]
  rw [hl] at h1 h4 h5
  have hn := line63
  exact tail_any (typeIs_str s z t) slot_str_getitem.lookup (getItem_str (c := c) (by
    have e1 : decide (i < -(2 ^ 63 : Int)) = false := decide_eq_false (by omega)
    have e2 : decide (i ≥ 2 ^ 63) = false := decide_eq_false (by omega)
    rw [e1, e2, Bool.or_false]) (by rw [h1]; simpa using h2) ⟨.str ⟨#[c]⟩, H, I.tok _, ⟨_, rfl⟩, q⟩) hs
/-- list, tuple or str -/
def rIx (K : PySem.W.Frag) : R2 := fun x y H Q => rIxL K x y H Q ∨ rIxT K x y H Q ∨ rIxS x y H Q

/-! ### xs[i] = v, any sign -/
/-- the list's object behind a store -/
theorem mapSeq_set (its : List Value) (n j : Nat) (u : Value) : Obj.mapSeq (·.setIfInBounds j u) { cls := .type "list", data := .seq its.toArray n } = { cls := .type "list", data := .seq (its.set j u).toArray n } := by
  simp [Obj.mapSeq]
theorem Inv.lst {pins : List (Addr × Obj)} {σ : St} {H : Hp} {s : Shared} {p : Addr} {xs : List V} (I : Inv X pins σ H s) (h : H p = some (.lst xs)) :
    ∃ (its : List Value) (n : Nat), Vals xs its ∧ s.heap.get? p = some { cls := .type "list", data := .seq its.toArray n } ∧ xs.length ≤ sizeLine := by
  obtain ⟨z, its, n, r, e⟩ := I.hok p _ h
  exact ⟨its, n, r, e, z⟩
/-- the list at p is written by an update of its object -/
theorem Inv.lstUpd {pins : List (Addr × Obj)} {σ : St} {H : Hp} {s : Shared} {p : Addr} {xs ys : List V} {its its' : List Value} {n n' : Nat} {f : Obj → Obj} (I : Inv X pins σ H s) (h : H p = some (.lst xs))
    (ho : s.heap.get? p = some { cls := .type "list", data := .seq its.toArray n }) (hf : f { cls := .type "list", data := .seq its.toArray n } = { cls := .type "list", data := .seq its'.toArray n' }) (r : Vals ys its') (hz : ys.length ≤ sizeLine) (t : Nat) :
    Inv X pins σ (upd H p (.lst ys)) { s with heap := s.heap.update p f, toks := t } := by
  have e : (s.heap.update p f).get? p = some { cls := .type "list", data := .seq its'.toArray n' } := by
    rw [Heap.get?_update_self f ho (by rw [hf] <;> rfl), hf]
  refine I.write (x := p) (e := p) (by rw [h]; trivial) (.inl rfl) (fun b u hb q => (Heap.get?_update_other _ _ (Ne.symm hb)).trans q) ⟨_, e⟩ ?_
  exact ⟨hz, its', n', r, e⟩
def rSetL : V → V → V → Hp → (Hp → Prop) → Prop := fun o i v H Q => ∃ p xs k j, o = .ref p ∧ i = .int k ∧ H p = some (.lst xs) ∧ ixN xs.length k = some j ∧ Q (upd H p (.lst (xs.set j v)))
theorem set_list : PSet X rSetL := by
  intro pins s σ H o i v ov iv u Q I ro ri rv h
  obtain ⟨p, xs, k, j, rfl, rfl, hp, hj, q⟩ := h
  cases ro
  obtain ⟨t, rfl⟩ := ri
  obtain ⟨its, n, r, ho, hz⟩ := I.lst hp
  obtain ⟨h1, h2, h3, h4⟩ := ixN_seq hj
  have hl := r.length
  have hn := line63
  have I' : Inv X pins σ (upd H p (.lst (xs.set j v))) { s with heap := s.heap.update p (Obj.mapSeq (·.setIfInBounds j u)) } :=
    I.lstUpd hp ho (mapSeq_set its n j u) (r.set rv j) (by rw [List.length_set]; exact hz) s.toks
  by_cases h0 : 0 ≤ k
  · have hk : k.toNat = j := by
      rw [seqIndex_of h0 h4] at h1
      exact Option.some.inj h1
    exact PySem.W.ki_setAt ho h0 (by omega) (by rw [List.size_toArray, ← hl]; exact h4) (by rw [hk]; exact ⟨_, I', q⟩)
  · have hk : (k + (its.toArray.size : Int)).toNat = j := by
      rw [seqIndex_neg (by omega) h3] at h1
      rw [List.size_toArray, ← hl]
      exact Option.some.inj h1
    exact PySem.W.ki_setBack ho (by omega) (by rw [List.size_toArray, ← hl]; exact h3) (by omega) (by rw [hk]; exact ⟨_, I', q⟩)

/-! ### slices -/
theorem slice_bounds (lo hi : Option Int) (n : Nat) : (sliceBounds lo hi none n).1 = ((HT.sIx n 0 lo : Nat) : Int) ∧ (sliceBounds lo hi none n).2.1 = ((HT.sIx n n hi : Nat) : Int) ∧ (sliceBounds lo hi none n).2.2 = 1 := by
  refine ⟨?_, ?_, rfl⟩
  · cases lo with
    | none => simp [sliceBounds, HT.sIx]
    | some i =>
      simp only [sliceBounds, HT.sIx, Option.getD_none, show (1 : Int) > 0 by decide, if_true]
      by_cases h : i < 0
      · simp only [h, if_true] <;> omega
      · simp only [h, if_false] <;> omega
  · cases hi with
    | none => simp [sliceBounds, HT.sIx]
    | some i =>
      simp only [sliceBounds, HT.sIx, Option.getD_none, show (1 : Int) > 0 by decide, if_true]
      by_cases h : i < 0
      · simp only [h, if_true] <;> omega
      · simp only [h, if_false] <;> omega
theorem slicePick_cut (its : List Value) (lo hi : Option Int) : slicePick its.toArray lo hi none = ((its.drop (HT.sIx its.length 0 lo)).take (HT.sIx its.length its.length hi - HT.sIx its.length 0 lo)).toArray := by
  obtain ⟨h1, h2, h3⟩ := slice_bounds lo hi its.toArray.size
  unfold slicePick
  rw [h1, h2, h3]
  simp only [sliceRange_one, pick_run, List.size_toArray] <;> rfl
/-- xs[lo:hi] of a list: a new list -/
def rSlL (K : PySem.W.Frag) : V → Option Int → Option Int → Hp → VK → Prop := fun x lo hi H Q => ∃ a xs, x = .ref a ∧ SqL K H a xs ∧ ∀ p, H p = none → Q (.ref p) (upd H p (.lst (cutV xs lo hi)))
theorem sl_list : SlR X (rSlL X.K) := by
  intro pins s σ H x v vl vu lo hi sl Q I rx hs pl pu h
  obtain ⟨a, xs, rfl, hx, q⟩ := h
  cases rx
  obtain ⟨its, r, ht, hz⟩ := I.list hx
  have hlen := r.length
  refine ⟨"list", _, slot_list_getitem.lookup, ht.isList.typeIs, ?_⟩
  refine wpAny_getItem_list_slice ht.isList hs pl pu .none (by simp) ?_ (by rw [List.size_toArray] <;> omega)
  rw [slicePick_cut, ← hlen]
  refine ⟨.ref s.heap.objs.size, _, I.laid (t' := s.toks) (o := .lst (cutV xs lo hi)) (fun b ob q => Heap.get?_push_of_some _ q) (Nat.le_refl _) ?_, rfl, q _ (I.hok.fresh (Nat.le_refl _))⟩
  exact ⟨Nat.le_trans (cutV_length xs lo hi) hz, _, 0, (r.drop (HT.sIx xs.length 0 lo)).take (HT.sIx xs.length xs.length hi - HT.sIx xs.length 0 lo), Heap.get?_push_size _ rfl⟩

/-! ### in, not in: flat items -/
def flatV : V → Bool
  | .non => true
  | .bl _ => true
  | .int _ => true
  | .str _ => true
  | _ => false
/-- == of flat values -/
def eqV : V → V → Bool
  | .non, .non => true
  | .bl a, .bl b => a == b
  | .bl a, .int b => (if a then 1 else 0) == b
  | .int a, .bl b => a == (if b then 1 else 0)
  | .int a, .int b => a == b
  | .str a, .str b => a == b
  | _, _ => false
theorem eqAt_V {A : Around} {s : Shared} {y x : V} {u v : Value} (ry : RelV y u) (rx : RelV x v) (fy : flatV y = true) (fx : flatV x = true) : SeqAt.EqAt A s u v (eqV y x) := by
  cases y with
  | non =>
    cases ry
    cases x with
    | non => cases rx; exact SeqAt.EqAt.same _
    | bl b => cases rx; exact SeqAt.EqAt.none_bool b
    | int b => obtain ⟨t, rfl⟩ := rx; exact SeqAt.EqAt.none_int b t
    | str b => obtain ⟨t, rfl⟩ := rx; exact SeqAt.EqAt.none_str b t
    | _ => exact absurd (show false = true from fx) Bool.false_ne_true
  | bl a =>
    cases ry
    cases x with
    | non => cases rx; exact SeqAt.EqAt.bool_none a
    | bl b => cases rx; exact SeqAt.EqAt.bool_bool a b
    | int b => obtain ⟨t, rfl⟩ := rx; exact SeqAt.EqAt.bool_int a b t
    | str b => obtain ⟨t, rfl⟩ := rx; exact SeqAt.EqAt.bool_str a b t
    | _ => exact absurd (show false = true from fx) Bool.false_ne_true
  | int a =>
    obtain ⟨t', rfl⟩ := ry
    cases x with
    | non => cases rx; exact SeqAt.EqAt.int_none a t'
    | bl b => cases rx; exact SeqAt.EqAt.int_bool a t' b
    | int b => obtain ⟨t, rfl⟩ := rx; exact SeqAt.EqAt.int_int a t' b t
    | str b => obtain ⟨t, rfl⟩ := rx; exact SeqAt.EqAt.int_str a t' b t
    | _ => exact absurd (show false = true from fx) Bool.false_ne_true
  | str a =>
    obtain ⟨t', rfl⟩ := ry
    cases x with
    | non => cases rx; exact SeqAt.EqAt.str_none a t'
    | bl b => cases rx; exact SeqAt.EqAt.str_bool a t' b
    | int b => obtain ⟨t, rfl⟩ := rx; exact SeqAt.EqAt.str_int a t' b t
    | str b => obtain ⟨t, rfl⟩ := rx; exact SeqAt.EqAt.str_str a t' b t
    | _ => exact absurd (show false = true from fx) Bool.false_ne_true
  | _ => exact absurd (show false = true from fy) Bool.false_ne_true
/-- the items' answers, read off the values (a value's own answer does not lean on its token) -/
def eqU (x : V) (u : Value) : Bool := match u with
  | .none => eqV .non x
  | .bool b => eqV (.bl b) x
  | .int i _ => eqV (.int i) x
  | .str z _ => eqV (.str z) x
  | _ => false
theorem eqU_of {x y : V} {u : Value} (r : RelV y u) (f : flatV y = true) : eqU x u = eqV y x := by
  cases y with
  | non => cases r; rfl
  | bl b => cases r; rfl
  | int i => obtain ⟨t, rfl⟩ := r; rfl
  | str z => obtain ⟨t, rfl⟩ := r; rfl
  | _ => exact absurd (show false = true from f) Bool.false_ne_true
theorem any_eqU {x : V} : ∀ {xs : List V} {us : List Value}, Vals xs us → xs.all flatV = true → us.any (eqU x) = xs.any fun y => eqV y x
  | _, _, .nil, _ => rfl
  | y :: xs, u :: us, .cons r t, f => by
    rw [List.all_cons, Bool.and_eq_true] at f
    rw [List.any_cons, List.any_cons, eqU_of r f.1, any_eqU t f.2]
theorem mem_eqAt {A : Around} {s : Shared} {x : V} {v : Value} (rx : RelV x v) (fx : flatV x = true) : ∀ {xs : List V} {us : List Value}, Vals xs us → xs.all flatV = true → ∀ u ∈ us, SeqAt.EqAt A s u v (eqU x u)
  | _, _, .nil, _ => fun u hu => by cases hu
  | y :: xs, u :: us, .cons r t, f => fun u' hu => by
    rw [List.all_cons, Bool.and_eq_true] at f
    rcases List.mem_cons.mp hu with rfl | hu
    · rw [eqU_of r f.1]; exact eqAt_V r rx f.1 fx
    · exact mem_eqAt rx fx t f.2 u' hu
def inV (x : V) (xs : List V) : Bool := xs.any fun y => eqV y x
/-- x in a list or tuple of flat items -/
def rIn (K : PySem.W.Frag) (neg : Bool) : R2 := fun x y H Q => ∃ p xs, y = .ref p ∧ (SqL K H p xs ∨ SqT K H p xs) ∧ flatV x = true ∧ xs.all flatV = true ∧ Q (.bl (if neg then !inV x xs else inV x xs)) H
theorem op_in_seq : OpR X (compareOp .In) (rIn X.K false) := by
  intro pins s σ H x y v u Q I rx ry h
  obtain ⟨p, xs, rfl, hq, fx, fs, q⟩ := h
  cases ry
  rcases hq with hq | hq
  · obtain ⟨its, r, pl, hz⟩ := I.list hq
    refine SeqAt.in_listAt (eqU x) pl.isList (fun w hw => mem_eqAt rx fx r fs w (by simpa using hw)) ⟨.bl _, H, I, rfl, ?_⟩
    rw [show its.toArray.any (eqU x) = its.any (eqU x) by simp, any_eqU r fs]
    exact q
  · obtain ⟨its, r, pl, hz⟩ := I.tuple hq
    refine SeqAt.in_tupleAt (eqU x) pl (fun w hw => mem_eqAt rx fx r fs w (by simpa using hw)) ⟨.bl _, H, I, rfl, ?_⟩
    rw [show its.toArray.any (eqU x) = its.any (eqU x) by simp, any_eqU r fs]
    exact q

/-! ### len, list(x), tuple(x) of any list or tuple that is read -/
theorem call_len_seq : CallR X (.builtin "len") (fun xs H Q => ∃ p ys, xs = [.ref p] ∧ (SqL X.K H p ys ∨ SqT X.K H p ys) ∧ Q (.int ys.length) H) := by
  intro pins s σ H xs us Q I r h
  obtain ⟨p, ys, rfl, hq, q⟩ := h
  obtain ⟨u, rfl, rx⟩ := vals1 r
  cases rx
  have hn := line63
  rcases hq with hq | hq
  · obtain ⟨its, r', pl, hz⟩ := I.list hq
    have hlen := r'.length
    exact Calls.call_len_list pl.isList (by simp only [List.size_toArray] <;> omega) ⟨.int ys.length, H, I.tok _, ⟨s.toks + 1, by rw [List.size_toArray, hlen]⟩, q⟩
  · obtain ⟨its, r', pl, hz⟩ := I.tuple hq
    have hlen := r'.length
    exact len_tuple pl (by simp only [List.size_toArray] <;> omega) ⟨.int ys.length, H, I.tok _, ⟨s.toks + 1, by rw [List.size_toArray, hlen]⟩, q⟩
theorem call_len_str : CallR X (.builtin "len") (fun xs H Q => ∃ z, xs = [.str z] ∧ z.length ≤ sizeLine ∧ Q (.int z.length) H) := by
  intro pins s σ H xs us Q I r h
  obtain ⟨z, rfl, hz, q⟩ := h
  obtain ⟨u, rfl, t, rfl⟩ := vals1 r
  have hn := line63
  exact len_str (by omega) ⟨.int z.length, H, I.tok _, ⟨_, rfl⟩, q⟩
theorem call_list_of : CallR X (.type "list") (fun xs H Q => ∃ p ys, xs = [.ref p] ∧ (SqL X.K H p ys ∨ SqT X.K H p ys) ∧ ∀ l, H l = none → Q (.ref l) (upd H l (.lst ys))) := by
  intro pins s σ H xs us Q I r h
  obtain ⟨p, ys, rfl, hq, q⟩ := h
  obtain ⟨u, rfl, rx⟩ := vals1 r
  cases rx
  have fin : ∀ (its : List Value), Vals ys its → ys.length ≤ sizeLine → ∀ (h' : Heap) (c' : Nat), (∀ b o', s.heap.get? b = some o' → h'.get? b = some o') →
      h'.get? s.heap.objs.size = some { cls := .type "list", dict := none, data := .seq its.toArray c', slots := #[] } → EP X pins σ Q (.ref s.heap.objs.size) { s with heap := h' } := fun its r' hz h' c' kp e =>
    ⟨.ref s.heap.objs.size, _, I.laid (t' := s.toks) kp (Nat.le_refl _) (show ObjOk X.prog X.w _ h' _ (.lst ys) from ⟨hz, its, c', r', e⟩), rfl, q _ (I.hok.fresh (Nat.le_refl _))⟩
  rcases hq with hq | hq
  · obtain ⟨its, r', pl, hz⟩ := I.list hq
    have hlen := r'.length
    obtain ⟨o, ho, hc, n, hd⟩ := pl.isList
    exact call_list_seq p (.inl rfl) ho hc hd (fun h' c' kp e => fin its r' hz h' c' kp e) (by simp only [List.size_toArray] <;> omega)
  · obtain ⟨its, r', pl, hz⟩ := I.tuple hq
    have hlen := r'.length
    obtain ⟨o, ho, hc, n, hd⟩ := pl
    exact call_list_seq p (.inr rfl) ho hc hd (fun h' c' kp e => fin its r' hz h' c' kp e) (by simp only [List.size_toArray] <;> omega)
theorem call_tuple_of : CallR X (.type "tuple") (fun xs H Q => ∃ p ys, xs = [.ref p] ∧ ((SqL X.K H p ys ∧ ∀ l, H l = none → Q (.ref l) (upd H l (.tup ys))) ∨ (SqT X.K H p ys ∧ Q (.ref p) H))) := by
  intro pins s σ H xs us Q I r h
  obtain ⟨p, ys, rfl, h⟩ := h
  obtain ⟨u, rfl, rx⟩ := vals1 r
  cases rx
  rcases h with ⟨hq, q⟩ | ⟨hq, q⟩
  · obtain ⟨its, r', pl, hz⟩ := I.list hq
    have hlen := r'.length
    refine call_tuple_list pl.isList (fun h' kp => ?_) (by simp only [List.size_toArray] <;> omega)
    have I1 : Inv X pins σ H { s with heap := h' } := I.kept (t' := s.toks) kp
    have I2 : Inv X pins σ (upd H h'.objs.size (.tup ys)) { s with heap := h'.push { cls := .type "tuple", data := .seq its.toArray } } :=
      I1.laid (t' := s.toks) (fun b o e => Heap.get?_push_of_some _ e) (Nat.le_refl _) (show ObjOk X.prog X.w _ _ _ (.tup ys) from ⟨hz, its, r', IsTup.new _ _⟩)
    exact ⟨.ref h'.objs.size, _, I2, rfl, q _ (I1.hok.fresh (Nat.le_refl _))⟩
  · obtain ⟨its, r', pl, hz⟩ := I.tuple hq
    exact call_tuple_same pl ⟨.ref p, H, I, rfl, q⟩

/-! ### the call of a builtin's method: o.m(..) -/
/-- the value is of that builtin type -/
def tyV (K : PySem.W.Frag) (T : String) (x : V) (H : Hp) : Prop := match x with
  | .str _ => T = "str"
  | .int _ => T = "int"
  | .ref p => (T = "list" ∧ ∃ xs, SqL K H p xs) ∨ (T = "tuple" ∧ ∃ o, K.lookup p = some o ∧ o.cls = .type "tuple" ∧ o.dict = none) ∨
      (T = "dict" ∧ ((∃ kvs, H p = some (.dK kvs)) ∨ ∃ kvs, H p = some (.dT kvs))) ∨ (T = "set" ∧ ∃ S n, H p = some (.set S n))
  | _ => False
theorem tyV_is {pins : List (Addr × Obj)} {σ : St} {H : Hp} {s : Shared} {T : String} {x : V} {v : Value} (I : Inv X pins σ H s) (r : RelV x v) (ty : tyV X.K T x H) :
    s.TypeIs v T ∧ ∀ a, v = .ref a → ∃ ob, s.heap.get? a = some ob ∧ ob.dict = none := by
  cases x with
  | str z =>
    obtain ⟨t, rfl⟩ := r
    cases (show T = "str" from ty)
    exact ⟨typeIs_str s z t, fun _ e => nomatch e⟩
  | int i =>
    obtain ⟨t, rfl⟩ := r
    cases (show T = "int" from ty)
    exact ⟨typeIs_int s i t, fun _ e => nomatch e⟩
  | ref p =>
    cases r
    rcases ty with ⟨rfl, xs, hq⟩ | ⟨rfl, o, hk, hc, hd⟩ | ⟨rfl, hk⟩ | ⟨rfl, S, n, hk⟩
    · obtain ⟨its, _, pl, _⟩ := I.list hq
      refine ⟨pl.isList.typeIs, fun a e => ?_⟩
      cases e
      obtain ⟨o, n, e, c, hd, _⟩ := pl
      exact ⟨o, e, hd⟩
    · refine ⟨⟨o, I.kIn p o hk, hc⟩, fun a e => ?_⟩
      cases e
      exact ⟨o, I.kIn _ o hk, hd⟩
    · have z : ∃ o, s.heap.get? p = some o ∧ o.ExactDict := by
        rcases hk with ⟨kvs, hk⟩ | ⟨kvs, hk⟩
        · obtain ⟨_, _, _, _, o, _, _, e, ex, _⟩ := I.hok p _ hk
          exact ⟨o, e, ex⟩
        · obtain ⟨_, _, _, _, o, _, _, e, ex, _⟩ := I.hok p _ hk
          exact ⟨o, e, ex⟩
      obtain ⟨o, e, ex⟩ := z
      refine ⟨⟨o, e, ex.1⟩, fun a e2 => ?_⟩
      cases e2
      exact ⟨o, e, ex.2.1⟩
    · obtain ⟨o, _, _, _, e, ex, _⟩ := I.hok p _ hk
      refine ⟨⟨o, e, ex.1⟩, fun a e2 => ?_⟩
      cases e2
      exact ⟨o, e, ex.2.1⟩
  | _ => exact False.elim ty
def tBM0 (K : PySem.W.Frag) (T : String) (r : V → List V → Hp → VK → Prop) (to : TE) : TE := fun σ H Q => to σ H fun x H1 => tyV K T x H1 ∧ r x [] H1 Q
def tBM (K : PySem.W.Frag) (T : String) (r : V → List V → Hp → VK → Prop) (to : TE) (t : TA) : TE := fun σ H Q => to σ H fun x H1 => tyV K T x H1 ∧ t σ H1 fun xs H2 => r x xs H2 Q
variable {o e : Expr} {es : List Expr} {to : TE} {t : TA} {name : Str} {apos cpos : Pos} {T id : String} {r : V → List V → Hp → VK → Prop}
theorem pe_bm0 (pa : PlainAttrs T) (slot : Slot T name id) (hty : typeOf (.builtin id) = pure (.type "method_descriptor")) (hm : MtR X id r) (ho : PE X o to)
    (hbase : attributeBase o name X.env (eval o X.env) = eval o X.env := by rfl) (hline : (apos.endLine == cpos.line) = true := by rfl) : PE X (.Call (.Attribute o name apos) [] [] cpos) (tBM0 X.K T r to) := by
  intro pins s σ H Q I h
  refine wpAny_Call_method0_late hbase hline (thn (ho pins s σ H _ I h) fun v s1 ⟨x, H1, I1, r1, ty, q1⟩ => ?_)
  obtain ⟨h1, h2⟩ := tyV_is I1 r1 ty
  exact ⟨T, id, pa, slot, hty, h1, h2, Calls.callWith_builtin rfl (PySem.evalArgs_none (hm pins s1 σ H1 x [] v [] Q I1 r1 .nil q1))⟩
theorem pe_bm (pa : PlainAttrs T) (slot : Slot T name id) (hty : typeOf (.builtin id) = pure (.type "method_descriptor")) (hm : MtR X id r) (ho : PE X o to) (ha : PA X (e :: es) t)
    (hbase : attributeBase o name X.env (eval o X.env) = eval o X.env := by rfl)
    (hfew : ((backTo cpos (starEach (e :: es) X.env)).all (fun x => !x.1) && (backToKw cpos (keywordEach [] X.env)).all (fun x => x.1.isSome)
      && decide ((e :: es).length + ([] : List Keyword).length + (if ([] : List Keyword).isEmpty then 0 else 1) < 30)) = true := by rfl)
    (hline : (apos.endLine == cpos.line) = true := by rfl) (hs : starEach (e :: es) X.env = (false, eval e X.env) :: starEach es X.env := by rfl) (hplain : (backTo cpos (starEach es X.env)).any (·.1) = false := by rfl) :
    PE X (.Call (.Attribute o name apos) (e :: es) [] cpos) (tBM X.K T r to t) := by
  intro pins s σ H Q I h
  refine wpAny_Call_method_late hbase hfew hline rfl (thn (ho pins s σ H _ I h) fun v s1 ⟨x, H1, I1, r1, ty, q1⟩ => ?_)
  obtain ⟨h1, h2⟩ := tyV_is I1 r1 ty
  refine ⟨T, id, pa, slot, hty, h1, h2, ?_⟩
  have hA := ha cpos pins s1 σ H1 _ I1 q1
  rw [hs] at hA ⊢
  refine Calls.callWith_builtin (by show (false || (backTo cpos (starEach es X.env)).any (·.1)) = false; rw [hplain] <;> rfl) (Calls.evalArgs_plain ?_)
  exact thn hA fun us s2 ⟨vs, H2, I2, r2, q2⟩ => hm pins s2 σ H2 x vs v us Q I2 r1 r2 q2
/- xs.append(e), list.index on a module's tuple .. are MtR facts of 06m -/
end
end L2

namespace L2
open PySem PySem.Spec PyProof.Rows

def MtM (X : Cx) (id : String) (r : V → List V → Hp → VK → Prop) : Prop :=
  ∀ (pins : List (Addr × Obj)) (s : Shared) (σ : St) (H : Hp) (x : V) (xs : List V) (v : Value) (us : List Value) (Q : VK), Inv X pins σ H s → RelV x v → Vals xs us → r x xs H Q →
    wpAny (model X.prog X.w) X.A (call (.builtin id) (v :: us)) (EP X pins σ Q) X.xe s

/-! ### lists of values -/
theorem Vals.one : ∀ {x : V} {us : List Value}, Vals [x] us → ∃ u, us = [u] ∧ RelV x u
  | _, _, .cons r .nil => ⟨_, rfl, r⟩
theorem Vals.zero : ∀ {us : List Value}, Vals [] us → us = []
  | _, .nil => rfl
theorem Vals.eraseIdx : ∀ {xs : List V} {us : List Value} (i : Nat), Vals xs us → Vals (xs.eraseIdx i) (us.eraseIdx i)
  | _, _, _, .nil => .nil
  | _, _, 0, .cons _ t => t
  | _, _, i + 1, .cons r t => .cons r (Vals.eraseIdx i t)
theorem Vals.reverse {xs : List V} {us : List Value} (h : Vals xs us) : Vals xs.reverse us.reverse := by
  induction h with
  | nil => exact .nil
  | cons r t ih => rw [List.reverse_cons, List.reverse_cons]; exact Vals.append ih (.cons r .nil)
theorem len_erase {α : Type} : ∀ (l : List α) (i : Nat), (l.eraseIdx i).length ≤ l.length
  | [], _ => Nat.le_refl _
  | _ :: _, 0 => Nat.le_succ _
  | _ :: r, i + 1 => Nat.succ_le_succ (len_erase r i)

section
variable {X : Cx} {pins : List (Addr × Obj)} {σ : St} {H : Hp} {s : Shared} {l b : Addr} {xs ys zs : List V}

/-! ### the two steps: a tracked list is rewritten, a new list is laid -/
theorem Inv.lset {its its' : List Value} {n : Nat} {f : Array Value → Array Value} {t' : Nat} (I : Inv X pins σ H s) (hH : H l = some (.lst xs))
    (e : s.heap.get? l = some { cls := .type "list", data := .seq its.toArray n }) (hf : f its.toArray = its'.toArray) (hv : Vals ys its') (hz : ys.length ≤ sizeLine) :
    Inv X pins σ (upd H l (.lst ys)) { s with heap := s.heap.update l (Obj.mapSeq f), toks := t' } := by
  have q := PySem.IsL.update e f
  rw [hf] at q
  refine I.write (x := l) (e := l) (by rw [hH]; exact trivial) (.inl rfl) (fun b' u hb hu => (Heap.get?_update_other s.heap (Obj.mapSeq f) (Ne.symm hb)).trans hu) ⟨_, q⟩ ?_
  exact ⟨hz, its', _, hv, q⟩
theorem Inv.lnew {its : List Value} {t' : Nat} (I : Inv X pins σ H s) (hv : Vals ys its) (hz : ys.length ≤ sizeLine) :
    Inv X pins σ (upd H s.heap.objs.size (.lst ys)) { s with heap := s.heap.push { cls := .type "list", data := .seq its.toArray }, toks := t' } :=
  I.laid (fun _ _ q => Heap.get?_push_of_some _ q) (Nat.le_refl _) ⟨hz, its, 0, hv, Heap.get?_push_size _ rfl⟩
theorem Inv.fresh (I : Inv X pins σ H s) : H s.heap.objs.size = none := I.hok.fresh (Nat.le_refl _)
theorem Inv.lstM (I : Inv X pins σ H s) (hH : H l = some (.lst xs)) : xs.length ≤ sizeLine ∧ ∃ (its : List Value) (n : Nat), Vals xs its ∧ xs.length = its.length ∧ s.heap.get? l = some { cls := .type "list", data := .seq its.toArray n } := by
  obtain ⟨z, its, n, r, e⟩ := I.hok l _ hH
  exact ⟨z, its, n, r, r.length, e⟩

theorem notLongL {n : Nat} (h : n ≤ sizeLine) : Builtin.List.listTooLong n = false := by
  unfold Builtin.List.listTooLong
  exact decide_eq_false (by omega)
end

section
variable {X : Cx}

/-! ### methods -/
def rAppend : V → List V → Hp → VK → Prop := fun x vs H Q => ∃ l xs y, x = .ref l ∧ vs = [y] ∧ H l = some (.lst xs) ∧ xs.length < sizeLine ∧ Q .non (upd H l (.lst (xs ++ [y])))
theorem mt_append : MtM X "list.append" rAppend := by
  intro pins s σ H x vs v us Q I rx rv h
  obtain ⟨l, xs, y, rfl, rfl, hH, hz, q⟩ := h
  cases rx
  obtain ⟨u, rfl, ru⟩ := rv.one
  obtain ⟨z, its, n, r, hl, e⟩ := I.lstM hH
  refine call_meets F.slot_list_append ⟨_, e, rfl⟩ F.entry_list_append (F.args_list_append_2 _ _) (PySem.list_append l its.toArray n u (by rw [List.size_toArray]; omega)) ⟨e, ?_⟩
  refine ⟨.non, _, I.lset (its' := its ++ [u]) hH e (by simp) (r.append (.cons ru .nil)) ?_, rfl, q⟩
  rw [List.length_append, List.length_singleton]
  omega

def rExtend : V → List V → Hp → VK → Prop := fun x vs H Q => ∃ l b xs zs, x = .ref l ∧ vs = [.ref b] ∧ H l = some (.lst xs) ∧ H b = some (.lst zs) ∧ xs.length + zs.length ≤ sizeLine ∧ Q .non (upd H l (.lst (xs ++ zs)))

def rPop : V → List V → Hp → VK → Prop := fun x vs H Q => ∃ l xs y, x = .ref l ∧ vs = [] ∧ H l = some (.lst xs) ∧ xs[xs.length - 1]? = some y ∧ Q y (upd H l (.lst xs.dropLast))

def rPopAt : V → List V → Hp → VK → Prop := fun x vs H Q => ∃ l xs i k y, x = .ref l ∧ vs = [.int i] ∧ H l = some (.lst xs) ∧ -(2 ^ 63) ≤ i ∧ i < 2 ^ 63 ∧ seqIndex? i xs.length = some k ∧ xs[k]? = some y ∧ Q y (upd H l (.lst (xs.eraseIdx k)))
theorem mt_popAt : MtM X "list.pop" rPopAt := by
  intro pins s σ H x vs v us Q I rx rv h
  obtain ⟨l, xs, i, k, y, rfl, rfl, hH, h1, h2, hk, hy, q⟩ := h
  cases rx
  obtain ⟨u, rfl, ru⟩ := rv.one
  obtain ⟨t, rfl⟩ := ru
  obtain ⟨z, its, n, r, hl, e⟩ := I.lstM hH
  obtain ⟨w, hw, rw'⟩ := r.get hy
  refine call_meets F.slot_list_pop ⟨_, e, rfl⟩ F.entry_list_pop (F.args_list_pop_2 _ _)
    (MeetsSeq.list_pop_at l its.toArray n i t k w (fitsIndex_both h1 h2) (by rw [List.size_toArray, ← hl]; exact hk) (by rw [← Array.getElem?_toList]; exact hw) (by rw [List.size_toArray]; omega)) ⟨e, ?_⟩
  refine ⟨y, _, I.lset (its' := its.eraseIdx k) hH e ?_ (r.eraseIdx k) ?_, rw', q⟩
  · show its.toArray.eraseIdxIfInBounds k = (its.eraseIdx k).toArray
    rw [List.eraseIdxIfInBounds_toArray]
  · have := len_erase xs k
    omega

def rReverse : V → List V → Hp → VK → Prop := fun x vs H Q => ∃ l xs, x = .ref l ∧ vs = [] ∧ H l = some (.lst xs) ∧ Q .non (upd H l (.lst xs.reverse))

def rClear : V → List V → Hp → VK → Prop := fun x vs H Q => ∃ l xs, x = .ref l ∧ vs = [] ∧ H l = some (.lst xs) ∧ Q .non (upd H l (.lst []))
theorem mt_clear : MtM X "list.clear" rClear := by
  intro pins s σ H x vs v us Q I rx rv h
  obtain ⟨l, xs, rfl, rfl, hH, q⟩ := h
  cases rx
  have hus := rv.zero
  subst hus
  obtain ⟨z, its, n, r, hl, e⟩ := I.lstM hH
  refine call_meets F.slot_list_clear ⟨_, e, rfl⟩ F.entry_list_clear (F.args_list_clear_1 _) (AutoSeq1.list_clear_list_0 l its.toArray n (by rw [List.size_toArray]; omega)) ⟨e, ?_⟩
  exact ⟨.non, _, I.lset (its' := []) (ys := []) hH e rfl .nil (Nat.zero_le _), rfl, q⟩

/-! ### list + list, list += list, list * int -/
def rCat : R2 := fun x y H Q => ∃ l b xs zs, x = .ref l ∧ y = .ref b ∧ H l = some (.lst xs) ∧ H b = some (.lst zs) ∧ xs.length + zs.length ≤ sizeLine ∧ ∀ p, H p = none → Q (.ref p) (upd H p (.lst (xs ++ zs)))
theorem op_cat : OpR X (binaryOp .Add) rCat := by
  intro pins s σ H x y v u Q I rx ry h
  obtain ⟨l, b, xs, zs, rfl, rfl, hH, hB, hz, q⟩ := h
  cases rx
  cases ry
  obtain ⟨z, its, n, r, hl, e⟩ := I.lstM hH
  obtain ⟨z2, its2, n2, r2, hl2, e2⟩ := I.lstM hB
  refine PySem.P.add_list e e2 ?_ (by rw [List.size_toArray, List.size_toArray]; omega)
  have ea : its.toArray ++ its2.toArray = (its ++ its2).toArray := by simp
  rw [ea]
  exact ⟨.ref _, _, I.lnew (t' := s.toks) (r.append r2) (by rw [List.length_append]; omega), rfl, q _ I.fresh⟩
/-- a list times an int (a negative one is nothing) -/
def rRep : R2 := fun x y H Q => ∃ l k xs, x = .ref l ∧ y = .int k ∧ H l = some (.lst xs) ∧ -(2 ^ 63) ≤ k ∧ k < 2 ^ 63 ∧ xs.length * k.toNat ≤ sizeLine ∧
  ∀ p, H p = none → Q (.ref p) (upd H p (.lst (List.replicate k.toNat xs).flatten))

/-! ### del xs[i] -/
end

/-! ### xs[a:b] = ys -/
section
variable {prog : Program} {w : World} {A : Around} {E : Value → Shared → Prop} {s : Shared}
end

section
variable {X : Cx}
end
end L2

namespace L2
open PySem PySem.Spec PyProof.Rows

theorem Vals.bls : ∀ {bs : List Bool} {us : List Value}, Vals (bs.map V.bl) us → us = bs.map Value.bool
  | [], us, h => by
    rw [List.map_nil] at h
    cases h
    rfl
  | b :: bs, us, h => by
    rw [List.map_cons] at h
    cases h with
    | cons r t =>
      cases r
      rw [Vals.bls t, List.map_cons]
theorem Vals.ref1 {a : Addr} {us : List Value} (r : Vals [V.ref a] us) : us = [Value.ref a] := by
  cases r with
  | cons r t =>
    cases t
    cases r
    rfl

/-! ### the library's walks over a list of ints, kept objects alone -/
section
variable {prog : Program} {w : World} {A : Around} {E : Value → Shared → Prop} {s : Shared} {l : Addr} {its : List Value} {ns : List Int} {Q : Value → Shared → Prop}
end

/-! ### the calls, by values (CallR of 03t; MtR of 06l) -/
section
variable {X : Cx}
/-- sum(xs) of a list of ints -/
def rSum (K : PySem.W.Frag) : List V → Hp → VK → Prop := fun vs H Q => ∃ (a : Addr) (ns : List Int), vs = [V.ref a] ∧ SqL K H a (ns.map V.int) ∧ Q (.int ns.sum) H
/-- max(xs), min(xs) of a list of ints -/
def rMax (K : PySem.W.Frag) : List V → Hp → VK → Prop := fun vs H Q => ∃ (a : Addr) (ns : List Int), vs = [V.ref a] ∧ SqL K H a (ns.map V.int) ∧ 0 < ns.length ∧ ∀ m, m ∈ ns → (∀ y, y ∈ ns → y ≤ m) → Q (.int m) H
def rMin (K : PySem.W.Frag) : List V → Hp → VK → Prop := fun vs H Q => ∃ (a : Addr) (ns : List Int), vs = [V.ref a] ∧ SqL K H a (ns.map V.int) ∧ 0 < ns.length ∧ ∀ m, m ∈ ns → (∀ y, y ∈ ns → m ≤ y) → Q (.int m) H

/-! sorted, sort (fewer than 64 items: the library's own bound) -/
def rSorted (K : PySem.W.Frag) : List V → Hp → VK → Prop := fun vs H Q => ∃ (a : Addr) (ns : List Int), vs = [V.ref a] ∧ SqL K H a (ns.map V.int) ∧ ns.length < 64 ∧
  ∀ (ns' : List Int) (p : Addr), ns'.Perm ns → ns'.Pairwise (· ≤ ·) → H p = none → Q (.ref p) (upd H p (.lst (ns'.map V.int)))
def rSortedS (K : PySem.W.Frag) : List V → Hp → VK → Prop := fun vs H Q => ∃ (a : Addr) (xs : List Str), vs = [V.ref a] ∧ SqL K H a (xs.map V.str) ∧ xs.length < 64 ∧
  ∀ (ys : List Str) (p : Addr), ys.Perm xs → sortedS ys = true → H p = none → Q (.ref p) (upd H p (.lst (ys.map V.str)))
/-- xs.sort(), ints -/
def rSort : V → List V → Hp → VK → Prop := fun x xs H Q => ∃ (a : Addr) (ns : List Int), x = V.ref a ∧ xs = [] ∧ H a = some (.lst (ns.map V.int)) ∧ ns.length < 64 ∧
  ∀ ns' : List Int, ns'.Perm ns → ns'.Pairwise (· ≤ ·) → Q .non (upd H a (.lst (ns'.map V.int)))
end

/-! ### list.index, flat items -/
section
variable {X : Cx}
def rIndex (K : PySem.W.Frag) : V → List V → Hp → VK → Prop := fun x xs H Q => ∃ (a : Addr) (ys : List V) (y : V) (j : Nat) (z : V), x = V.ref a ∧ xs = [y] ∧ SqL K H a ys ∧ flatV y = true ∧ ys.all flatV = true ∧ ys[j]? = some z ∧ eqV z y = true ∧
  (∀ (m : Nat) (z' : V), m < j → ys[m]? = some z' → eqV z' y = false) ∧ Q (.int (j : Nat)) H
end

/-! ### type(x) of an own instance; is, is not of a module's class -/
section
variable {X : Cx}
end

/-! ### any(xs), all(xs) of a list of bools -/
theorem iter_any {prog : Program} {w : World} {A : Around} {E : Value → Shared → Prop} {s : Shared} {l : Addr} {items : Array Value} {Q : Value → Shared → Prop} (hl : s.heap.IsList l items)
    (h : ∀ s₂ : Shared, s₂ = { s with heap := s.heap.push { cls := .type "list_iterator", data := .fields #[.ref l, .int 0 0] } } →
      (s₂.heap.IsListIter s.heap.objs.size l 0 ∧ s₂.heap.IsList l items) → l ≠ s.heap.objs.size → Q (.ref s.heap.objs.size) s₂) : wpAny (model prog w) A (pyIter (.ref l)) Q E s := by
  have hlt : l < s.heap.objs.size := by obtain ⟨_, e, _⟩ := hl; exact Heap.lt_size e
  exact wpAny_pyIter_list hl (h _ rfl ⟨⟨_, Heap.get?_push_size _ rfl, rfl, rfl⟩, hl.push _⟩ (Nat.ne_of_lt hlt))
theorem truth_bools {prog : Program} {w : World} {A : Around} {bs : List Bool} {its : List Value} (e : its = bs.map Value.bool) :
    TruthOf prog w A (fun i v => its.toArray[i]? = some v) (fun i => bs.getD i false) := fun i v s Q E hv hq => by
  have hv' : its[i]? = some v := by simpa using hv
  rw [e, List.getElem?_map] at hv'
  obtain ⟨b, hb, rfl⟩ := Option.map_eq_some_iff.mp hv'
  have hg : bs.getD i false = b := by rw [List.getD_eq_getElem?_getD, hb] <;> rfl
  have hq' : Q (bs.getD i false) s := hq
  rw [hg] at hq'
  exact wpAny_truthy_bool hq'
theorem all_range : ∀ bs : List Bool, (List.range bs.length).all (fun i => bs.getD i false) = bs.all id
  | [] => rfl
  | b :: bs => by
    rw [List.length_cons, List.range_succ_eq_map, List.all_cons, List.all_map, List.all_cons, ← all_range bs]
    all_goals rfl
section
variable {X : Cx}
def rAny (K : PySem.W.Frag) : List V → Hp → VK → Prop := fun vs H Q => ∃ (a : Addr) (bs : List Bool), vs = [V.ref a] ∧ SqL K H a (bs.map V.bl) ∧ Q (.bl (bs.any id)) H
def rAll (K : PySem.W.Frag) : List V → Hp → VK → Prop := fun vs H Q => ∃ (a : Addr) (bs : List Bool), vs = [V.ref a] ∧ SqL K H a (bs.map V.bl) ∧ Q (.bl (bs.all id)) H
theorem cr_all (hc : X.calm = true) : CallR X (.builtin "all") (rAll X.K) := by
  intro pins s σ H vs us Q I r h
  obtain ⟨a, bs, rfl, hs, q⟩ := h
  obtain ⟨its, rv, hl, _⟩ := I.list hs
  rw [Vals.ref1 r]
  have hb := rv.bls
  refine call_all_walk (iter_any hl.isList fun s₂ e2 st hne => ?_)
  subst e2
  refine ⟨_, _, _, _, _, _, _, rfl, Walks.list (A := X.A.in1) (I.ok.hd hc) _ a hne its.toArray, st, truth_bools hb, fun h' tk hk => ?_⟩
  refine ⟨.bl _, H, I.kept fun b o eo => hk b o (fun hmem => ?_) (Heap.get?_push_of_some _ eo), ?_, q⟩
  · rcases List.mem_cons.mp hmem with e1 | hmem
    · exact absurd (e1 ▸ Heap.lt_size eo) (Nat.lt_irrefl _)
    · cases hmem
  · show Value.bool _ = Value.bool _
    rw [← all_range, hb, List.size_toArray, List.length_map]
end

/-! ### == and != of data at any depth: none, bools, ints, texts, lists, tuples -/
mutual
inductive Dp (K : PySem.W.Frag) (H : Hp) : V → PyData → Prop
  | non : Dp K H .non .none
  | bl (b : Bool) : Dp K H (.bl b) (.bool b)
  | int (i : Int) : Dp K H (.int i) (.int i)
  | str (x : Str) : Dp K H (.str x) (.str x)
  | lst {a : Addr} {xs : List V} {ds : List PyData} : SqL K H a xs → DpAll K H xs ds → Dp K H (.ref a) (.list ds)
  | tup {a : Addr} {xs : List V} {ds : List PyData} : SqT K H a xs → DpAll K H xs ds → Dp K H (.ref a) (.tuple ds)
inductive DpAll (K : PySem.W.Frag) (H : Hp) : List V → List PyData → Prop
  | nil : DpAll K H [] []
  | cons {v : V} {vs : List V} {d : PyData} {ds : List PyData} : Dp K H v d → DpAll K H vs ds → DpAll K H (v :: vs) (d :: ds)
end
section
variable {X : Cx} {pins : List (Addr × Obj)} {σ : St} {H : Hp} {s : Shared}
mutual
theorem Dp.reads (I : Inv X pins σ H s) : ∀ (d : PyData) (v : V) (u : Value), Dp X.K H v d → RelV v u → ∃ as, Reads s.heap u d as
  | .none, _, _, h, r => by
    cases h
    cases r
    exact ⟨_, Reads.none⟩
  | .bool b, _, _, h, r => by
    cases h
    cases r
    exact ⟨_, Reads.bool b⟩
  | .int i, _, _, h, r => by
    cases h
    obtain ⟨t, rfl⟩ := r
    exact ⟨_, Reads.int i t⟩
  | .str x, _, _, h, r => by
    cases h
    obtain ⟨t, rfl⟩ := r
    exact ⟨_, Reads.str x t⟩
  | .list ds, _, _, h, r => by
    cases h with
    | lst hs ha =>
      cases r
      obtain ⟨its, rv, ⟨o, n, ho, hc, _, hd⟩, _⟩ := I.list hs
      obtain ⟨as, hr⟩ := Dp.readsAll I ds _ its ha rv
      exact ⟨_, Reads.list ho hc hd hr⟩
  | .tuple ds, _, _, h, r => by
    cases h with
    | tup hs ha =>
      cases r
      obtain ⟨its, rv, ⟨o, ho, hc, n, hd⟩, _⟩ := I.tuple hs
      obtain ⟨as, hr⟩ := Dp.readsAll I ds _ its ha rv
      exact ⟨_, Reads.tuple ho hc hd hr⟩
  | .dict _, _, _, h, _ => by cases h
theorem Dp.readsAll (I : Inv X pins σ H s) : ∀ (ds : List PyData) (vs : List V) (us : List Value), DpAll X.K H vs ds → Vals vs us → ∃ as, ReadsAll s.heap us ds as
  | [], _, _, h, r => by
    cases h
    cases r
    exact ⟨_, ReadsAll.nil⟩
  | d :: ds, _, _, h, r => by
    cases h with
    | cons h1 h2 =>
      cases r with
      | cons r1 r2 =>
        obtain ⟨as, q1⟩ := Dp.reads I d _ _ h1 r1
        obtain ⟨bs, q2⟩ := Dp.readsAll I ds _ _ h2 r2
        exact ⟨_, ReadsAll.cons q1 q2⟩
end
end
section
variable {X : Cx}
def rEqD (K : PySem.W.Frag) : R2 := fun x y H Q => ∃ d e, Dp K H x d ∧ Dp K H y e ∧ SeqAt.shaped d = true ∧ SeqAt.shaped e = true ∧ Q (.bl (PyData.eqv d e)) H
def rNeD (K : PySem.W.Frag) : R2 := fun x y H Q => ∃ d e, Dp K H x d ∧ Dp K H y e ∧ SeqAt.shaped d = true ∧ SeqAt.shaped e = true ∧ Q (.bl (!PyData.eqv d e)) H
theorem op_eqD (hu : X.A.units + 64 < cLine) : OpR X (compareOp .Eq) (rEqD X.K) := by
  intro pins s σ H x y v u Q I rx ry h
  obtain ⟨d, e, hd, he, sd, se, q⟩ := h
  obtain ⟨as, r1⟩ := Dp.reads I d x v hd rx
  obtain ⟨bs, r2⟩ := Dp.reads I e y u he ry
  exact SeqAt.compareEq_shaped r1 r2 sd se hu ⟨.bl _, H, I, rfl, q⟩
theorem op_neD (hu : X.A.units + 64 < cLine) : OpR X (compareOp .NotEq) (rNeD X.K) := by
  intro pins s σ H x y v u Q I rx ry h
  obtain ⟨d, e, hd, he, sd, se, q⟩ := h
  obtain ⟨as, r1⟩ := Dp.reads I d x v hd rx
  obtain ⟨bs, r2⟩ := Dp.reads I e y u he ry
  exact SeqAt.compareNe_shaped r1 r2 sd se hu ⟨.bl _, H, I, rfl, q⟩
end
end L2

namespace L2
open PySem PySem.Spec PyProof.Rows
abbrev CellAt (h : Heap) (c : Addr) (v : Option Value) : Prop := h.IsCell c v
def relS (scope sc : Scope) : Scope :=
  { scope with names := scope.names.map fun (n, k) => if (k == .free && sc.kind == .function && sc.names.lookup n == some .cell) then (n, .cell) else (n, k) }

def cloFrom (cells : List (Str × Addr)) : List (Str × NameKind) → List (Str × Addr) → List (Str × Addr)
  | [], acc => acc
  | (n, k) :: r, acc => if k == .free then cloFrom cells r ((n, (cells.lookup n).getD 0) :: acc) else cloFrom cells r acc

theorem closure_loop (env : Env) (f : Str × NameKind → List (Str × Addr) → Sem (ForInStep (List (Str × Addr))))
    (hf : ∀ n k c, f (n, k) c = if k == .free then (do let a ← cellOf env n; pure (.yield ((n, a) :: c))) else pure (.yield c)) :
    ∀ (names : List (Str × NameKind)) (acc : List (Str × Addr)), (∀ y ∈ names, y.2 = .free → ∃ c, env.cells.lookup y.1 = some c) → forIn names acc f = pure (cloFrom env.cells names acc)
  | [], acc, _ => by rw [List.forIn_nil]; rfl
  | (n, k) :: r, acc, h => by
    rw [List.forIn_cons, hf]
    have ih := fun acc => closure_loop env f hf r acc fun y hy => h y (List.mem_cons_of_mem _ hy)
    unfold cloFrom
    by_cases hk : (k == NameKind.free) = true
    · rw [if_pos hk, if_pos hk]
      obtain ⟨c, hc⟩ := h (n, k) List.mem_cons_self (by simpa using hk)
      have e : cellOf env n = pure c := by unfold cellOf; rw [hc]
      rw [e]
      have e2 : (env.cells.lookup n).getD 0 = c := by rw [hc]; rfl
      rw [e2]
      exact ih _
    · rw [if_neg hk, if_neg hk]
      exact ih _
theorem closure_ok {scope : Scope} {env : Env} (h : ∀ y ∈ scope.names, y.2 = .free → ∃ c, env.cells.lookup y.1 = some c) : closureFor scope env = pure (cloFrom env.cells scope.names []) := by
  simp only [closureFor]
  rw [closure_loop env _ (fun n k c => rfl) scope.names [] h]
  rfl

theorem mem_lookup {α : Type} : ∀ {l : List (Str × α)} {n : Str} {c : α}, (n, c) ∈ l → ∃ c', l.lookup n = some c'
  | (k, v) :: r, n, c, h => by
    rw [List.lookup_cons]
    cases hb : n == k with
    | true => exact ⟨_, rfl⟩
    | false =>
      rcases List.mem_cons.mp h with e | h
      · cases e; simp at hb
      · exact mem_lookup h

theorem cloFrom_mem {cells : List (Str × Addr)} : ∀ {names : List (Str × NameKind)} {acc : List (Str × Addr)} {n : Str} {c : Addr}, (n, c) ∈ cloFrom cells names acc → (n, c) ∈ acc ∨ ((n, .free) ∈ names ∧ c = (cells.lookup n).getD 0)
  | [], _, _, _, h => .inl h
  | (m, k) :: r, acc, n, c, h => by
    unfold cloFrom at h
    split at h
    · rename_i hk
      have hk : k = .free := by simpa using hk
      rcases cloFrom_mem h with h | ⟨h1, h2⟩
      · rcases List.mem_cons.mp h with e | h
        · cases e; exact .inr ⟨hk ▸ List.mem_cons_self, rfl⟩
        · exact .inl h
      · exact .inr ⟨List.mem_cons_of_mem _ h1, h2⟩
    · rcases cloFrom_mem h with h | ⟨h1, h2⟩
      · exact .inl h
      · exact .inr ⟨List.mem_cons_of_mem _ h1, h2⟩
theorem cloFrom_acc {cells : List (Str × Addr)} : ∀ {names : List (Str × NameKind)} {acc : List (Str × Addr)} {p : Str × Addr}, p ∈ acc → p ∈ cloFrom cells names acc
  | [], _, _, h => h
  | (m, k) :: r, acc, p, h => by
    unfold cloFrom
    split
    · exact cloFrom_acc (List.mem_cons_of_mem _ h)
    · exact cloFrom_acc h
theorem cloFrom_has {cells : List (Str × Addr)} : ∀ {names : List (Str × NameKind)} {acc : List (Str × Addr)} {n : Str}, (n, .free) ∈ names → (n, (cells.lookup n).getD 0) ∈ cloFrom cells names acc
  | (m, k) :: r, acc, n, h => by
    unfold cloFrom
    rcases List.mem_cons.mp h with e | h
    · cases e
      exact cloFrom_acc List.mem_cons_self
    · split
      · exact cloFrom_has h
      · exact cloFrom_has h

theorem cells_mem : ∀ {names : List (Str × NameKind)} {h : Heap} {acc : List (Str × Addr)} {x : Str} {c : Addr}, (x, c) ∈ cellsFrom h.objs.size names acc →
    (x, c) ∈ acc ∨ ((x, .cell) ∈ names ∧ h.objs.size ≤ c ∧ CellAt (pushCells h names) c none)
  | [], _, _, _, _, h => .inl h
  | (n, k) :: r, h, acc, x, c, hm => by
    unfold cellsFrom at hm
    unfold pushCells
    split at hm
    · rename_i hk
      rw [if_pos hk]
      have hk : k = .cell := by simpa using hk
      rw [← Heap.size_push h { cls := .type "cell", data := .cell none }] at hm
      rcases cells_mem hm with hm | ⟨h1, h2, h3⟩
      · rcases List.mem_cons.mp hm with e | hm
        · cases e
          exact .inr ⟨hk ▸ List.mem_cons_self, Nat.le_refl _, _, pushCells_keeps r _ _ _ (Heap.get?_push_size _ rfl), rfl⟩
        · exact .inl hm
      · rw [Heap.size_push] at h2
        exact .inr ⟨List.mem_cons_of_mem _ h1, Nat.le_of_succ_le h2, h3⟩
    · rename_i hk
      rw [if_neg hk]
      rcases cells_mem hm with hm | ⟨h1, h2, h3⟩
      · exact .inl hm
      · exact .inr ⟨List.mem_cons_of_mem _ h1, h2, h3⟩
theorem cells_acc : ∀ {names : List (Str × NameKind)} {n : Nat} {acc : List (Str × Addr)} {p : Str × Addr}, p ∈ acc → p ∈ cellsFrom n names acc
  | [], _, _, _, h => h
  | (m, k) :: r, n, acc, p, h => by
    unfold cellsFrom
    split
    · exact cells_acc (List.mem_cons_of_mem _ h)
    · exact cells_acc h
theorem cells_has : ∀ {names : List (Str × NameKind)} {n : Nat} {acc : List (Str × Addr)} {x : Str}, (x, .cell) ∈ names → ∃ c, (x, c) ∈ cellsFrom n names acc
  | (m, k) :: r, n, acc, x, h => by
    unfold cellsFrom
    rcases List.mem_cons.mp h with e | h
    · cases e
      exact ⟨n, cells_acc List.mem_cons_self⟩
    · split
      · exact cells_has h
      · exact cells_has h
theorem cells_inj : ∀ {names : List (Str × NameKind)} {h : Heap} {acc : List (Str × Addr)} {x y : Str} {c : Addr}, (∀ p ∈ acc, p.2 < h.objs.size) → (∀ x y c, (x, c) ∈ acc → (y, c) ∈ acc → x = y) →
    (x, c) ∈ cellsFrom h.objs.size names acc → (y, c) ∈ cellsFrom h.objs.size names acc → x = y
  | [], _, _, _, _, _, _, hi, h1, h2 => hi _ _ _ h1 h2
  | (n, k) :: r, h, acc, x, y, c, hl, hi, h1, h2 => by
    unfold cellsFrom at h1 h2
    split at h1
    · rename_i hk
      rw [if_pos hk] at h2
      rw [← Heap.size_push h { cls := .type "cell", data := .cell none }] at h1 h2
      refine cells_inj (h := h.push _) (fun p hp => ?_) (fun x y c a b => ?_) h1 h2
      · rw [Heap.size_push]
        rcases List.mem_cons.mp hp with rfl | hp
        · exact Nat.lt_succ_self _
        · exact Nat.lt_succ_of_lt (hl p hp)
      · rcases List.mem_cons.mp a with e | a <;> rcases List.mem_cons.mp b with e' | b
        · cases e; cases e'; rfl
        · cases e; exact absurd (hl _ b) (Nat.lt_irrefl _)
        · cases e'; exact absurd (hl _ a) (Nat.lt_irrefl _)
        · exact hi _ _ _ a b
    · rename_i hk
      rw [if_neg hk] at h2
      exact cells_inj hl hi h1 h2

theorem newEnv_comp {M : Model} {A : Around} {E : Value → Shared → Prop} {s : Shared} {scope : Scope} {globals : Addr} {closure : List (Str × Addr)} {qual : Str} {func : Option Addr} {code : Value} {around : Env} {builtins : Addr} {Q : Env → Shared → Prop}
    (h : Q (newEnv scope s.heap.objs.size globals (cellsFrom (s.heap.objs.size + 1) scope.names closure) qual func code (some around) builtins)
      { s with heap := pushCells (s.heap.push { cls := .type "dict", data := .dict #[] }) scope.names }) :
    wpAny M A (newFunctionEnv scope globals closure [] qual func code (some around) builtins) Q E s := by
  simp only [newFunctionEnv, Option.isSome_some, if_true]
  refine wpAny_bind (wpAny_alloc ?_)
  refine wpAny_bind (wpAny_layCells _ (fun n k c => rfl) scope.names closure _ _ ?_)
  rw [show ({ s with heap := s.heap.push { cls := .type "dict", data := .dict #[] } } : Shared).heap.objs.size = s.heap.objs.size + 1 from Heap.size_push ..]
  rw [List.forIn_nil]
  exact wpAny_bind (wpAny_pure (wpAny_pure h))

/-- every name of the written scope, in the scope that runs -/
theorem lookup_relS {sc : Scope} : ∀ {names : List (Str × NameKind)} {x : Str} {k : NameKind},
    (names.map fun (n, k) => if (k == NameKind.free && sc.kind == .function && sc.names.lookup n == some .cell) then (n, NameKind.cell) else (n, k)).lookup x = some k →
    ∃ k', names.lookup x = some k' ∧ (k = k' ∨ (k' = .free ∧ k = .cell))
  | [], _, _, h => by simp at h
  | (n, k₀) :: r, x, k, h => by
    have ih := @lookup_relS sc r x k
    have h' : List.lookup x ((if (k₀ == NameKind.free && sc.kind == .function && sc.names.lookup n == some .cell) = true then (n, NameKind.cell) else (n, k₀)) :: (r.map _)) = some k := h
    cases hx : x == n with
    | true =>
      simp only [List.lookup_cons, hx]
      by_cases hc : (k₀ == NameKind.free && sc.kind == .function && sc.names.lookup n == some .cell) = true
      · rw [if_pos hc] at h'
        simp only [List.lookup_cons, hx] at h'
        cases h'
        simp only [Bool.and_eq_true, beq_iff_eq] at hc
        exact ⟨k₀, rfl, .inr ⟨hc.1.1, rfl⟩⟩
      · rw [if_neg hc] at h'
        simp only [List.lookup_cons, hx] at h'
        cases h'
        exact ⟨_, rfl, .inl rfl⟩
    | false =>
      simp only [List.lookup_cons, hx]
      by_cases hc : (k₀ == NameKind.free && sc.kind == .function && sc.names.lookup n == some .cell) = true
      · rw [if_pos hc] at h'
        simp only [List.lookup_cons, hx] at h'
        exact ih h'
      · rw [if_neg hc] at h'
        simp only [List.lookup_cons, hx] at h'
        exact ih h'



/-- the names of a comprehension's block: its own (with their places in N), or captured -/
structure BlkOk (N : List Str) (sc scope : Scope) (own : List (Str × Nat)) : Prop where
  kind : scope.kind = .function
  uniq : ∀ y ∈ scope.names, scope.names.lookup y.1 = some y.2
  ix : ∀ p ∈ own, N[p.2]? = some p.1
  free : ∀ y ∈ scope.names, y.2 = .free → sc.names.lookup y.1 = some .cell ∨ sc.names.lookup y.1 = some .free
  own : ∀ y ∈ scope.names, y.2 = .local ∨ y.2 = .cell → y.1 ∈ own.map (·.1) ∨ y.1 ∉ N
/-- the slots of the block's own names forgotten -/
def wipe (σ : St) : List Nat → St
  | [] => σ
  | v :: vs => (wipe σ vs).set v none
theorem wipe_length (σ : St) : ∀ vs : List Nat, (wipe σ vs).length = σ.length
  | [] => rfl
  | v :: vs => by unfold wipe; rw [List.length_set, wipe_length σ vs]
theorem wipe_some {σ : St} {i : Nat} {x : V} : ∀ {vs : List Nat}, (wipe σ vs)[i]? = some (some x) → σ[i]? = some (some x) ∧ i ∉ vs
  | [], h => ⟨h, by simp⟩
  | v :: vs, h => by
    unfold wipe at h
    by_cases hi : v = i
    · subst hi
      by_cases hv : v < (wipe σ vs).length
      · rw [List.getElem?_set_self hv] at h; cases h
      · rw [List.getElem?_eq_none (by simpa using hv)] at h; cases h
    · rw [List.getElem?_set_ne hi] at h
      obtain ⟨h1, h2⟩ := wipe_some h
      exact ⟨h1, by simp only [List.mem_cons, not_or]; exact ⟨fun e => hi e.symm, h2⟩⟩

/-- the context of a block that starts at s, its iterator's objects at fp -/
abbrev Cx.blk (X : Cx) (s : Shared) (H : Hp) (scope : Scope) (cenv : Env) (fp : List Addr) : Cx := { X with s_0 := s, H_0 := H, env := cenv, outer := X.stack, ex := fp, fn := fun x => scope.names.lookup x == some .cell, pn := [], xe := fun _ _ => False }
section
variable {X : Cx} {pins : List (Addr × Obj)} {σ : St} {H : Hp} {s : Shared}
theorem block_start {scope : Scope} {own : List (Str × Nat)} {fp : List Addr} (I : Inv X pins σ H s) (ok : BlkOk X.N X.env.scope scope own) (hN : X.N.Nodup) (hfp : ∀ b ∈ fp, FpOk X pins H b ∧ b < s.heap.objs.size) :
    Inv (X.blk s H scope (compEnvC scope (cellsFrom (s.heap.objs.size + 1) scope.names (cloFrom X.env.cells scope.names [])) s.heap.objs.size X.env) fp) [] (wipe σ (own.map (·.2))) H { s with heap := pushCells (s.heap.push { cls := .type "dict", data := .dict #[] }) scope.names } := by
  have hfree : ∀ y ∈ scope.names, y.2 = .free → ∃ c, X.env.cells.lookup y.1 = some c := fun y hy e => by
    rcases ok.free y hy e with k | k
    · exact I.ok.has _ (.inl k)
    · exact I.ok.has _ (.inr k)
  generalize hcenv : compEnvC scope (cellsFrom (s.heap.objs.size + 1) scope.names (cloFrom X.env.cells scope.names [])) s.heap.objs.size X.env = cenv
  have kp : ∀ b o, s.heap.get? b = some o → (pushCells (s.heap.push { cls := .type "dict", data := .dict #[] }) scope.names).get? b = some o := fun b o e => pushCells_keeps _ _ _ _ (Heap.get?_push_of_some _ e)
  have hL : cenv.locals = s.heap.objs.size := by rw [← hcenv]; rfl
  have hcl : cenv.cells = cellsFrom (s.heap.objs.size + 1) scope.names (cloFrom X.env.cells scope.names []) := by rw [← hcenv]; rfl
  have hsc : cenv.scope = relS scope X.env.scope := by rw [← hcenv]; rfl
  rw [← Heap.size_push s.heap { cls := .type "dict", data := .dict #[] }] at hcl
  have cm : ∀ {y c}, (y, c) ∈ cloFrom X.env.cells scope.names [] → X.env.cells.lookup y = some c ∧ c < s.heap.objs.size := fun {y c} hm => by
    rcases cloFrom_mem hm with hm | ⟨h1, rfl⟩
    · cases hm
    · obtain ⟨c, hc⟩ := hfree _ h1 rfl
      rw [hc]
      obtain ⟨w, z⟩ := I.cell _ _ hc
      exact ⟨rfl, z.lt⟩
  have mem : ∀ {y c}, cenv.cells.lookup y = some c → (X.env.cells.lookup y = some c ∧ c < s.heap.objs.size) ∨ (s.heap.objs.size + 1 ≤ c ∧ CellAt (pushCells (s.heap.push { cls := .type "dict", data := .dict #[] }) scope.names) c none) := fun {y c} e => by
    rw [hcl] at e
    rcases cells_mem (PySem.mem_of_lookup e) with hm | ⟨_, h2, h3⟩
    · exact .inl (cm hm)
    · rw [Heap.size_push] at h2; exact .inr ⟨h2, h3⟩
  have look : ∀ {y}, scope.names.lookup y = some .free → ∃ c, cenv.cells.lookup y = some c ∧ X.env.cells.lookup y = some c := fun {y} hl => by
    have hy : (y, NameKind.free) ∈ scope.names := PySem.mem_of_lookup hl
    obtain ⟨c', e'⟩ := mem_lookup (cells_acc (names := scope.names) (n := (s.heap.push { cls := .type "dict", data := .dict #[] }).objs.size) (cloFrom_has (cells := X.env.cells) (acc := []) hy))
    rw [← hcl] at e'
    refine ⟨c', e', ?_⟩
    rw [hcl] at e'
    rcases cells_mem (PySem.mem_of_lookup e') with hm | ⟨h1, _, _⟩
    · exact (cm hm).1
    · have := ok.uniq _ h1
      rw [hl] at this; cases this
  have okB : (X.blk s H scope cenv fp).Ok := by
    refine ⟨I.ok.mod, by show cenv.scope.kind = _; rw [hsc]; exact ok.kind, by show cenv.globals = _; rw [← hcenv]; exact I.ok.glob, by show cenv.builtins = _; rw [← hcenv]; exact I.ok.blt, by show s.heap.objs.size ≤ cenv.locals; rw [hL]; exact Nat.le_refl _,
      fun y z c e1 e2 => ?_, fun y hy => ?_, fun y c z e => ?_, I.ok.hd, I.ok.frames, .inl rfl, fun b hb => ⟨?_, fun y c e z => ?_⟩, I.bs, Nat.le_trans I.ok.bsz I.sz, fun b o e hb => ?_, fun b hb z => ?_, I.stack, I.stkFree⟩
    · have e1 : cenv.cells.lookup y = some c := e1
      have e2 : cenv.cells.lookup z = some c := e2
      rw [hcl] at e1 e2
      refine cells_inj (fun p hp => ?_) (fun y z c a b => I.ok.inj y z c (cm a).1 (cm b).1) (PySem.mem_of_lookup e1) (PySem.mem_of_lookup e2)
      rw [Heap.size_push]
      exact Nat.lt_succ_of_lt (cm (y := p.1) (c := p.2) hp).2
    · show ∃ c, cenv.cells.lookup y = some c
      have key : ∀ k, cenv.kindOf y = some k → (k = .cell ∨ k = .free) → ∃ c, cenv.cells.lookup y = some c := fun k hk hk' => by
        unfold Env.kindOf at hk
        rw [hsc] at hk
        obtain ⟨k', e, r⟩ := lookup_relS hk
        have : k' = .cell ∨ k' = .free := by
          rcases r with rfl | ⟨rfl, _⟩
          · exact hk'
          · exact .inr rfl
        rcases this with rfl | rfl
        · obtain ⟨c, hm⟩ := cells_has (n := (s.heap.push { cls := .type "dict", data := .dict #[] }).objs.size) (acc := cloFrom X.env.cells scope.names []) (PySem.mem_of_lookup e)
          obtain ⟨c', e'⟩ := mem_lookup hm
          exact ⟨c', by rw [hcl]; exact e'⟩
        · obtain ⟨c, h1, _⟩ := look e
          exact ⟨c, h1⟩
      rcases hy with hy | hy
      · exact key _ hy (.inl rfl)
      · exact key _ hy (.inr rfl)
    · have z : (scope.names.lookup y == some NameKind.cell) = true := z
      have z : scope.names.lookup y = some .cell := by simpa using z
      have e : cenv.cells.lookup y = some c := e
      rw [hcl] at e
      rcases cells_mem (PySem.mem_of_lookup e) with hm | ⟨_, h2, _⟩
      · rcases cloFrom_mem hm with hm | ⟨h1, _⟩
        · cases hm
        · have q := ok.uniq _ h1
          rw [z] at q; cases q
      · rw [Heap.size_push] at h2
        exact Nat.le_of_succ_le h2
    · show b ≠ cenv.locals
      rw [hL]; exact Nat.ne_of_lt (hfp b hb).2
    · have e : cenv.cells.lookup y = some c := e
      rcases mem e with ⟨h1, _⟩ | ⟨h1, _⟩
      · exact (hfp b hb).1.2.2.2.2.1 y c h1 z
      · have h2 : s.heap.objs.size + 1 ≤ b := by rw [← z]; exact h1
        exact absurd (Nat.lt_of_lt_of_le (hfp b hb).2 (Nat.le_of_succ_le h2)) (Nat.lt_irrefl _)
    · rcases (hfp b hb).1.2.2.2.1 with z | z
      · exact I.ok.noex b o e z
      · exact absurd (Nat.lt_of_lt_of_le (Heap.lt_size e) (Nat.le_trans I.ok.bsz z)) (Nat.lt_irrefl _)
    · rcases List.mem_cons.mp (I.stkSub b z) with z | z
      · exact (hfp b hb).1.2.1 z
      · exact (hfp b hb).1.2.2.1 z
  refine ⟨okB, rfl, I.bare, Un.kept kp, ⟨fun _ => none, ?_, fun i y av e1 e2 e3 => ?_⟩, fun y c e => ?_, ?_, fun y c e => ?_, fun p hp => ?_, I.hok.kept kp, by rw [wipe_length]; exact I.len⟩
  · show Heap.Ns _ cenv.locals _
    rw [hL]
    exact Heap.Ns.keeps (Heap.Ns.new ..) fun b o e => pushCells_keeps _ _ _ _ e
  · obtain ⟨e2, hne⟩ := wipe_some e2
    have hfr : scope.names.lookup y = some .free ∧ (cenv.kindOf y = some .cell ∨ cenv.kindOf y = some .free) := by
      have key : ∀ k, cenv.scope.names.lookup y = some k → k = .local ∨ k = .cell ∨ k = .free → scope.names.lookup y = some .free ∧ (cenv.kindOf y = some .cell ∨ cenv.kindOf y = some .free) := fun k hk hk' => by
        have hk0 := hk
        rw [hsc] at hk
        obtain ⟨k', e, r⟩ := lookup_relS hk
        have no : ¬ (k' = .local ∨ k' = .cell) := fun hh => by
          rcases ok.own _ (PySem.mem_of_lookup e) hh with e' | e'
          · obtain ⟨p, hp, hpy⟩ := List.mem_map.mp e'
            have e3 := ok.ix p hp
            have : p.1 = y := hpy
            rw [this] at e3
            exact hne (List.mem_map.mpr ⟨p, hp, nodup_ix hN e3 e1⟩)
          · exact e' (List.mem_of_getElem? e1)
        rcases r with rfl | ⟨rfl, rfl⟩
        · rcases hk' with rfl | rfl | rfl
          · exact absurd (.inl rfl) no
          · exact absurd (.inr rfl) no
          · exact ⟨e, .inr hk0⟩
        · exact ⟨e, .inl hk0⟩
      have e3 : Vis cenv.scope y := e3
      rcases e3 with e3 | e3 | e3
      · exact key _ e3 (.inl rfl)
      · exact key _ e3 (.inr (.inl rfl))
      · exact key _ e3 (.inr (.inr rfl))
    obtain ⟨m, hn, hl⟩ := I.loc
    have hvis : Vis X.env.scope y := (ok.free _ (PySem.mem_of_lookup hfr.1) rfl).elim (fun k => .inr (.inl k)) (fun k => .inr (.inr k))
    obtain ⟨w, r, q⟩ := hl i y av e1 e2 hvis
    refine ⟨w, r, .inr ⟨hfr.2, ?_⟩⟩
    obtain ⟨c, h1, h2⟩ := look hfr.1
    rcases q with ⟨k, _⟩ | ⟨_, c', e', z⟩
    · have k : X.env.scope.names.lookup y = some .local := k
      rcases ok.free _ (PySem.mem_of_lookup hfr.1) rfl with k' | k' <;> rw [show X.env.scope.names.lookup y = _ from k'] at k <;> cases k
    · rw [h2] at e'; cases e'
      exact ⟨c, h1, z.keeps kp⟩
  · have e : cenv.cells.lookup y = some c := e
    rcases mem e with ⟨h1, _⟩ | ⟨_, z⟩
    · obtain ⟨w, z⟩ := I.cell y c h1
      exact ⟨w, z.keeps kp⟩
    · exact ⟨_, z⟩
  · show H cenv.locals = none
    rw [hL]; exact I.hok.fresh (Nat.le_refl _)
  · have e : cenv.cells.lookup y = some c := e
    rcases mem e with ⟨h1, _⟩ | ⟨h1, _⟩
    · exact I.freeC y c h1
    · exact I.hok.fresh (Nat.le_of_succ_le h1)
  · exact absurd (show p ∈ ([] : List (Addr × Obj)) ++ [] from hp) (by simp)

/-- an item appended to a tracked list -/
theorem app_ok {E : Value → Shared → Prop} {D : Addr} {xs : List V} {y : V} {v : Value} {Q : Value → Shared → Prop} (I : Inv X pins σ H s) (hD : H D = some (.lst xs)) (hz : xs.length < sizeLine) (r : RelV y v)
    (h : ∀ s', Inv X pins σ (upd H D (.lst (xs ++ [y]))) s' → Q .none s') : wpAny (model X.prog X.w) X.A (call (.builtin "list.append") [.ref D, v]) Q E s := by
  obtain ⟨hz', its, n, ri, e⟩ := I.hok D _ hD
  have hl := ri.length
  refine append_at (hsz := by rw [List.size_toArray]; omega) e fun h' sb ho' => ?_
  refine h { s with heap := h' } (I.write (t' := s.toks) (by rw [hD]; trivial) (.inl rfl) (fun b u hb q => (sb.2 b hb).trans q) ⟨_, ho'⟩ ⟨by rw [List.length_append]; exact hz, its ++ [v], n + 1, ri.append (.cons r .nil), ?_⟩)
  rw [ho']
  simp

/-- a clause's tests -/
def PTs (X : Cx) (ifs : List Expr) (t : TT) : Prop :=
  ∀ (pins : List (Addr × Obj)) (s : Shared) (σ : St) (H : Hp) (Q : Bool → Hp → Prop), Inv X pins σ H s → t σ H Q →
    wpAny (model X.prog X.w) X.A (forIn ifs true fun c r => if r = true then do let ok ← isTrue c X.env (eval c X.env); pure (ForInStep.yield ok) else pure (ForInStep.yield r)) (TP X pins σ Q) X.xe s
def tYes : TT := fun _ H Q => Q true H
theorem pts_nil : PTs X [] tYes := fun _ _ _ H _ I h => wpAny_tests_nil ⟨H, I, h⟩
theorem pts_one {c : Expr} {t : TT} (h : PT X c t) : PTs X [c] t := fun pins s σ H Q I hw => wpAny_tests_one (h pins s σ H Q I hw)
end

theorem thnF {α : Type} {t : Sem α} {Q Q' : α → Shared → Prop} {M : Model} {A : Around} {E : Value → Shared → Prop} {s : Shared} (h : wpAny M A t Q (fun _ _ => False) s) (hQ : ∀ a s, Q a s → Q' a s) : wpAny M A t Q' E s := wpAny_mono h hQ fun _ _ z => False.elim z

/-- the loop of a list comprehension's block, the target of any form (codeAny_compLoop_tests asks a target that no tuple goes to; statement and proof follow it, PyProof/CompMap.lean:41-61, with the step letOwnedTupleGo kept) -/
theorem compLoop_any {prog : Program} {w : World} {A : Around} {R : Result → Shared → Prop} {s : Shared} {elt target iter : Expr} {ifs : List Expr} {scope : Scope} {pos : Pos} {it acc : Value} {env : Env} (I : Nat → Shared → Prop)
    (turn : ∀ n s, I n s → wpAny (model prog w) A (pyNext it) (fun r s₁ => match r with
      | none => R (.ok .next) s₁
      | some v => wpAny (model prog w) A (letOwnedTupleGo target it v) (fun _ s₁' => wpAny (model prog w) A (assign target env v) (fun _ s₂ =>
          wpAny (model prog w) A (forIn ifs true fun c r => if r = true then do let ok ← isTrue c env (eval c env); pure (ForInStep.yield ok) else pure (ForInStep.yield r)) (fun ok s₃ =>
            if ok = true then wpAny (model prog w) A (eval elt env) (fun x s₄ =>
              wpAny (model prog w) A (call (.builtin "list.append") [acc, x]) (fun _ s₅ => ∃ m, m < n ∧ I m s₅) (notedBy (model prog w) A env fun e s' => R (.error e) s') s₄) (notedBy (model prog w) A env fun e s' => R (.error e) s') s₃
            else ∃ m, m < n ∧ I m s₃) (notedBy (model prog w) A env fun e s' => R (.error e) s') s₂) (notedBy (model prog w) A env fun e s' => R (.error e) s') s₁') (notedBy (model prog w) A env fun e s' => R (.error e) s') s₁) (notedBy (model prog w) A env fun e s' => R (.error e) s') s)
    (n : Nat) (h : I n s) :
    codeAny (model prog w) A (.compLoop (.ListComp elt [⟨target, iter, ifs, 0⟩] scope pos) 0 it acc env) R s := by
  refine codeAny_loop rfl I (fun n s hI => ?_) n h
  show wpAny _ A ((compTurn (.ListComp elt [⟨target, iter, ifs, 0⟩] scope pos) 0 it acc env).onRaise (fun x => do noteFrame x env; theTreesLotGoes x)) _ _ s
  refine wpAny_noted ?_
  rw [compTurn_list]
  refine wpAny_bind (wpAny_standAt (wpAny_bind (wpAny_mono (turn n s hI) (fun r s₁ h₁ => ?_) fun _ _ h' => h')))
  cases r with
  | none => exact wpAny_pure h₁
  | some v =>
    refine wpAny_bind (wpAny_mono h₁ (fun _ s₁' h₁' => ?_) fun _ _ h' => h')
    refine wpAny_bind (wpAny_mono h₁' (fun _ s₂ h₂ => wpAny_bind (wpAny_mono h₂ (fun ok s₃ h₃ => ?_) fun _ _ h' => h')) fun _ _ h' => h')
    cases ok with
    | false => exact wpAny_pure ⟨rfl, h₃⟩
    | true =>
      exact wpAny_bind (wpAny_bind (wpAny_mono h₃ (fun x s₄ h₄ => wpAny_bind (wpAny_mono h₄ (fun _ s₅ h₅ => wpAny_pure (wpAny_pure ⟨rfl, h₅⟩)) fun _ _ h' => h')) fun _ _ h' => h'))

section
variable {X : Cx}
/-- [elt for target in iter if ..]: D the new list; W by the turn and a measure, Nx what a turn is to reach -/
def tLc (wi : TI) (g : TG) (tt : TT) (te : TE) (vs : List Nat) : TE := fun σ H Q => wi σ H fun J H1 => ∀ D, H1 D = none → ∃ W : Nat → Nat → Hp → Prop, (∃ m, W 0 m (upd H1 D (.lst []))) ∧ ∀ i m H, W i m H →
  (J.stop i H ∧ Q (.ref D) H) ∨ (J.go i H ∧ ∃ Nx : Hp → Prop, (∀ H', Nx H' → ∃ m', m' < m ∧ W (i + 1) m' H') ∧ ∀ x H', J.yld i H x H' → g x (wipe σ vs) H' fun σ2 H2 => wipe σ2 vs = wipe σ vs ∧ tt σ2 H2 fun b H3 =>
    if b = true then te σ2 H3 fun y H4 => ∃ acc, H4 D = some (.lst acc) ∧ acc.length < sizeLine ∧ Nx (upd H4 D (.lst (acc ++ [y]))) else Nx H3)
theorem lc_core {pins : List (Addr × Obj)} {s : Shared} {σ : St} {H : Hp} {Q : VK} {elt tg iter : Expr} {ifs : List Expr} {scope : Scope} {own : List (Str × Nat)} {pos pos' : Pos} {wi : TI} {g : TG} {tt : TT} {te : TE} {use : Option (Value → Sem Unit)} {Qf : Value → Shared → Prop}
    (hc : X.calm = true) (hN : X.N.Nodup) (I : Inv X pins σ H s) (hi : PI X tg iter wi) (ok : BlkOk X.N X.env.scope scope own)
    (hg : ∀ (s : Shared) (H : Hp) (C : Addr) (cl : List (Str × Addr)) (fp : List Addr), PG (X.blk s H scope (compEnvC scope cl C X.env) fp) tg g) (ht : ∀ (s : Shared) (H : Hp) (C : Addr) (cl : List (Str × Addr)) (fp : List Addr), PTs (X.blk s H scope (compEnvC scope cl C X.env) fp) ifs tt)
    (he : ∀ (s : Shared) (H : Hp) (C : Addr) (cl : List (Str × Addr)) (fp : List Addr), PE (X.blk s H scope (compEnvC scope cl C X.env) fp) elt te) (hs : ∀ x, foldedSetIterable iter X.env x = pure x)
    (h : tLc wi g tt te (own.map (·.2)) σ H Q)
    (hRR : ∀ D C s' m H', Inv X pins σ H' s' → Q (.ref D) H' → s'.heap.Ns C m → FpOk X pins H' C → compPost (model X.prog X.w) X.A X.xe use Qf (.ref D) C (.ok .next) s') :
    wpAny (model X.prog X.w) X.A (comprehension (.ListComp elt [⟨tg, iter, ifs, 0⟩] scope pos) scope X.env pos' (newList []) false (eval iter X.env) use) Qf X.xe s := by
  have hfree : ∀ y ∈ scope.names, y.2 = .free → ∃ c, X.env.cells.lookup y.1 = some c := fun y hy e => by
    rcases ok.free y hy e with k | k
    · exact I.ok.has _ (.inl k)
    · exact I.ok.has _ (.inr k)
  refine wpAny_comprehension_free (use := use) rfl hs (closure_ok hfree) ok.kind (fun y hy e => by rw [ok.uniq y hy, e])
    (thn (hi pins s σ H _ I h) fun xv s1 hx => thn hx fun itv s2 h2 => ?_)
  obtain ⟨it, fp, tn, J, H2, e, I2, T, st2, f2, q⟩ := h2
  subst e
  refine wpAny_newObj_type (newEnv_comp ?_) (by show 0 ≤ sizeLine; decide)
  generalize hD : s2.heap.objs.size = D
  have hDn : H2 D = none := I2.hok.fresh (Nat.le_of_eq hD)
  obtain ⟨W, ⟨m0, w0⟩, turn⟩ := q D hDn
  -- the new list
  generalize hs3 : ({ s2 with heap := s2.heap.push { cls := .type "list", data := .seq ([] : List Value).toArray } } : Shared) = s3
  have I3 : Inv X pins σ (upd H2 D (.lst [])) s3 := by
    rw [← hs3]
    refine I2.laid (t' := s2.toks) (fun b o e => Heap.get?_push_of_some _ e) (Nat.le_of_eq hD) ⟨Nat.zero_le _, [], 0, .nil, ?_⟩
    rw [← hD]
    exact Heap.get?_push_size _ rfl
  have h3 : s3.heap = s2.heap.push { cls := .type "list", data := .seq ([] : List Value).toArray } := by rw [← hs3]
  have sz : ∀ b ∈ fp, b < s2.heap.objs.size := fun b hb => by
    obtain ⟨o, e, _⟩ := T.obj _ _ st2 b hb
    exact Heap.lt_size e
  have f3 : ∀ b ∈ fp, FpOk X pins (upd H2 D (.lst [])) b ∧ b < s3.heap.objs.size := fun b hb => by
    have hlt := sz b hb
    refine ⟨⟨?_, (f2 b hb).2⟩, by rw [h3, Heap.size_push]; exact Nat.lt_succ_of_lt hlt⟩
    rw [upd_ne (by rw [← hD]; exact Nat.ne_of_lt hlt)]
    exact (f2 b hb).1
  have st3 : tn 0 s3.heap := T.keep _ _ _ st2 fun b _ o e => by rw [h3]; exact Heap.get?_push_of_some _ e
  have I4 := block_start I3 ok hN f3
  have pg := hg s3 (upd H2 D (.lst [])) s3.heap.objs.size (cellsFrom (s3.heap.objs.size + 1) scope.names (cloFrom X.env.cells scope.names [])) fp
  have pt := ht s3 (upd H2 D (.lst [])) s3.heap.objs.size (cellsFrom (s3.heap.objs.size + 1) scope.names (cloFrom X.env.cells scope.names [])) fp
  have pe := he s3 (upd H2 D (.lst [])) s3.heap.objs.size (cellsFrom (s3.heap.objs.size + 1) scope.names (cloFrom X.env.cells scope.names [])) fp
  show codeAny _ _ (.compStart (.ListComp elt [⟨tg, iter, ifs, 0⟩] scope pos) 0 (.ref it) (.ref D) (compEnvC scope (cellsFrom (s3.heap.objs.size + 1) scope.names (cloFrom X.env.cells scope.names [])) s3.heap.objs.size X.env)) (compPost (model X.prog X.w) X.A X.xe use Qf (.ref D) s3.heap.objs.size) { s3 with heap := pushCells (s3.heap.push { cls := .type "dict", data := .dict #[] }) scope.names }
  have nfp : ∀ b ∈ fp, (upd H2 D (.lst [])) b = none := fun b hb => (f3 b hb).1.1
  generalize hce : compEnvC scope (cellsFrom (s3.heap.objs.size + 1) scope.names (cloFrom X.env.cells scope.names [])) s3.heap.objs.size X.env = ce at I4 pg pt pe ⊢
  have cL : ce.locals = s3.heap.objs.size := by subst hce; rfl
  generalize hH3 : upd H2 D (.lst []) = H3 at I3 I4 pg pt pe w0 nfp f3
  generalize hs4 : ({ s3 with heap := pushCells (s3.heap.push { cls := .type "dict", data := .dict #[] }) scope.names } : Shared) = s4 at I4 ⊢
  have st4 : tn 0 s4.heap := T.keep _ _ _ st3 fun b _ o e => by rw [← hs4]; exact pushCells_keeps _ _ _ _ (Heap.get?_push_of_some _ e)
  have stat : ∀ {σ' : St} {H' : Hp} {s' : Shared}, Inv (X.blk s3 H3 scope ce fp) [] σ' H' s' → (∀ b ∈ fp, H' b = none) → ∀ b ∈ fp, FpOk (X.blk s3 H3 scope ce fp) [] H' b := fun {σ' H' s'} I' hn b hb =>
    ⟨hn b hb, (I'.ok.exf b hb).1, I'.ok.exfs b hb, .inl hb, fun x c e => (I'.ok.exf b hb).2 x c e, fun p hp => absurd (show p ∈ ([] : List (Addr × Obj)) ++ [] from hp) (by simp)⟩
  have loop : codeAny (model X.prog X.w) X.A (.compLoop (.ListComp elt [⟨tg, iter, ifs, 0⟩] scope pos) 0 (.ref it) (.ref D) ce) (compPost (model X.prog X.w) X.A X.xe use Qf (.ref D) s3.heap.objs.size) s4 := by
    refine compLoop_any (fun n s' => ∃ i H', Inv (X.blk s3 H3 scope ce fp) [] (wipe σ (own.map (·.2))) H' s' ∧ tn i s'.heap ∧ (∀ b ∈ fp, H' b = none) ∧ W i n H') ?_ m0 ⟨0, H3, I4, st4, nfp, w0⟩
    rintro n s5 ⟨i, H5, I5, st5, n5, w5⟩
    rcases turn i n H5 w5 with ⟨stop, qq⟩ | ⟨go, Nx, hNx, step⟩
    · have td := T.done (X.blk s3 H3 scope ce fp) rfl rfl rfl hc i [] s5 _ H5 (fun _ _ => False) I5 (stat I5 n5) st5 stop
      refine thnF td fun r s6 ⟨hr, I6⟩ => ?_
      subst hr
      -- back in the def's context
      have I7 : Inv X pins σ H5 s6 := I3.call' (ch := fp) I6.os I6.base I6.hok I6.bare fun b hb => ⟨(f3 b hb).1.2.2.2.1, (f3 b hb).1.2.1, (f3 b hb).1.2.2.2.2.1, (f3 b hb).1.2.2.2.2.2⟩
      have nC : H5 s3.heap.objs.size = none := by
        have z : H5 ce.locals = none := I6.free
        rw [cL] at z
        exact z
      obtain ⟨m, hn, _⟩ := I6.loc
      have hn : s6.heap.Ns ce.locals m := hn
      rw [cL] at hn
      exact hRR D s3.heap.objs.size s6 m H5 I7 qq hn (I3.fpOk (Nat.le_refl _) nC)
    · have ti := T.item (X.blk s3 H3 scope ce fp) rfl rfl rfl hc i [] s5 _ H5 (fun _ _ => False) I5 (stat I5 n5) st5 go
      refine thnF ti fun r s6 ⟨u, hr, h6⟩ => ?_
      subst hr
      refine thnF h6 fun _ s7 ⟨x, H7, I7, r7, y7, st7, n7⟩ => ?_
      have I7' := I7.pinned (stat I7 n7) (T.obj _ _ st7)
      refine thnF (pg _ s7 _ H7 x u _ I7' r7 (step x H7 y7)) fun _ s8 ⟨σ8, H8, I8, hw8, q8⟩ => ?_
      refine thnF (pt _ s8 σ8 H8 _ I8 q8) fun b s9 ⟨H9, I9, q9⟩ => ?_
      -- the turn's end
      have fin : ∀ {s' : Shared} {H' : Hp}, Inv (X.blk s3 H3 scope ce fp) ([] ++ pinsAt fp s7.heap) σ8 H' s' → Nx H' → ∃ m, m < n ∧ ∃ i H', Inv (X.blk s3 H3 scope ce fp) [] (wipe σ (own.map (·.2))) H' s' ∧ tn i s'.heap ∧ (∀ b ∈ fp, H' b = none) ∧ W i m H' := fun {s' H'} I' nx => by
        obtain ⟨m', hm, w'⟩ := hNx H' nx
        have pin' : ∀ b ∈ fp, ∀ o, s7.heap.get? b = some o → s'.heap.get? b = some o ∧ H' b = none := fun b hb o e =>
          let z := I'.pin (b, o) (List.mem_append_right _ (List.mem_append_right _ (mem_pinsAt hb e)))
          ⟨z.1, z.2.1⟩
        have hl : (wipe σ (own.map (·.2))).length = σ8.length := by rw [← hw8, wipe_length]
        refine ⟨m', hm, i + 1, H', (I'.unpinned (pins := [])).weak hl (fun j v e => ?_), T.keep _ _ _ st7 fun b hb o e => (pin' b hb o e).1, fun b hb => ?_, w'⟩
        · rw [← hw8] at e
          exact (wipe_some e).1
        · obtain ⟨o, e, _⟩ := T.obj _ _ st7 b hb
          exact (pin' b hb o e).2
      cases b with
      | false =>
        simp only [Bool.false_eq_true, if_false] at q9 ⊢
        exact fin I9 q9
      | true =>
        simp only [if_true] at q9 ⊢
        refine thnF (pe _ s9 σ8 H9 _ I9 q9) fun z s10 ⟨yv, H10, I10, r10, acc, hD10, hz10, nx⟩ => ?_
        exact app_ok (X := X.blk s3 H3 scope ce fp) I10 hD10 hz10 r10 fun s11 I11 => fin I11 nx
  exact codeAny_compStart_list loop (T.self X.A 0 _ _ _ st4 loop)
/-- as a value -/
theorem pe_lc {elt tg iter : Expr} {ifs : List Expr} {scope : Scope} {own : List (Str × Nat)} {pos : Pos} {wi : TI} {g : TG} {tt : TT} {te : TE} (hc : X.calm = true) (hN : X.N.Nodup) (hi : PI X tg iter wi) (ok : BlkOk X.N X.env.scope scope own)
    (hg : ∀ (s : Shared) (H : Hp) (C : Addr) (cl : List (Str × Addr)) (fp : List Addr), PG (X.blk s H scope (compEnvC scope cl C X.env) fp) tg g) (ht : ∀ (s : Shared) (H : Hp) (C : Addr) (cl : List (Str × Addr)) (fp : List Addr), PTs (X.blk s H scope (compEnvC scope cl C X.env) fp) ifs tt)
    (he : ∀ (s : Shared) (H : Hp) (C : Addr) (cl : List (Str × Addr)) (fp : List Addr), PE (X.blk s H scope (compEnvC scope cl C X.env) fp) elt te) (hs : ∀ x, foldedSetIterable iter X.env x = pure x := by intro _; rfl) :
    PE X (.ListComp elt [⟨tg, iter, ifs, 0⟩] scope pos) (tLc wi g tt te (own.map (·.2))) := by
  intro pins s σ H Q I h
  rw [eval_ListComp]
  refine lc_core hc hN I hi ok hg ht he hs h fun D C s' m H' I' q hn f => ⟨m, hn, fun h'' sb => ?_⟩
  obtain ⟨f0, f1, f2, f3, f4, f5⟩ := f
  exact ⟨.ref D, H', I'.turned (t' := s'.toks) (fun b o hb e => (sb.2 b hb).trans e) f0 f1 f3 f4 f5, rfl, q⟩
/-- name = [..] on one line, the name a local -/
theorem ps_setLc {i : Nat} {y : Str} {py : Pos} {elt tg iter : Expr} {ifs : List Expr} {scope : Scope} {own : List (Str × Nat)} {pos spos : Pos} {wi : TI} {g : TG} {tt : TT} {te : TE} (hc : X.calm = true) (hN : X.N.Nodup) (hy : X.N[i]? = some y) (hyl : X.env.scope.names.lookup y = some .local)
    (hsw : swapsWith (.ListComp elt [⟨tg, iter, ifs, 0⟩] scope pos) (some (.Name y py)) spos.line X.env = pure true) (hi : PI X tg iter wi) (ok : BlkOk X.N X.env.scope scope own)
    (hg : ∀ (s : Shared) (H : Hp) (C : Addr) (cl : List (Str × Addr)) (fp : List Addr), PG (X.blk s H scope (compEnvC scope cl C X.env) fp) tg g) (ht : ∀ (s : Shared) (H : Hp) (C : Addr) (cl : List (Str × Addr)) (fp : List Addr), PTs (X.blk s H scope (compEnvC scope cl C X.env) fp) ifs tt)
    (he : ∀ (s : Shared) (H : Hp) (C : Addr) (cl : List (Str × Addr)) (fp : List Addr), PE (X.blk s H scope (compEnvC scope cl C X.env) fp) elt te) (hs : ∀ x, foldedSetIterable iter X.env x = pure x := by intro _; rfl) :
    PS X (.Assign [.Name y py] (.ListComp elt [⟨tg, iter, ifs, 0⟩] scope pos) spos) (tAsg (tLc wi g tt te (own.map (·.2))) (gName i)) := by
  intro pins s σ H D I h
  rw [exec_Assign_Name_used _ _ _ _ hsw]
  refine wpAny_bind (wpAny_standAt (wpAny_bind ?_))
  show wpAny _ X.A (do let _ ← comprehension (.ListComp elt [⟨tg, iter, ifs, 0⟩] scope pos) scope X.env (firstIterPos [⟨tg, iter, ifs, 0⟩] pos) (newList []) false (eval iter X.env) (some (assign (.Name y py) X.env))) _ _ s
  have h : tLc wi g tt te (own.map (·.2)) σ H (fun x H1 => gName i x σ H1 D.nx) := h
  refine wpAny_bind (thn (lc_core (Qf := fun _ s' => SP X pins D .next s') hc hN I hi ok hg ht he hs h fun L C s' m H' I' q hn f => ?_) fun _ s' hq => wpAny_pure (wpAny_pure hq))
  show wpAny _ _ (assign (.Name y py) X.env (.ref L)) _ _ _
  refine wpAny_assign_Name (store_ok2 (v := V.ref L) I' hN hy (.inl hyl) rfl (fun s2 I2 ⟨a, sb, ha⟩ => ?_) (.inr hyl))
  obtain ⟨f0, f1, f2, f3, f4, f5⟩ := f
  have haC : C ≠ a := by
    rcases ha with z | z
    · rw [z]; exact f1
    · exact fun e => f4 y a z e.symm
  refine ⟨m, hn.sameBut sb haC, fun h3 sb3 => ?_⟩
  exact ⟨_, H', I2.turned (t' := s2.toks) (fun b o hb e => (sb3.2 b hb).trans e) f0 f1 f3 f4 f5, q⟩
theorem sw_true {elt : Expr} {gs : List Comprehension} {scope : Scope} {pos py : Pos} {y : Str} {l : Nat} {env : Env} (hk : env.scope.kind = .function) (hy : env.scope.names.lookup y = some .local) (hl : (py.line == pos.line) = true)
    (ha : (scope.names.any fun (n, k) => n == y && (k == .local || k == .cell)) = false) : swapsWith (.ListComp elt gs scope pos) (some (.Name y py)) l env = pure true := by
  have ky : env.kindOf y = some .local := hy
  have hb : env.blockKind = .function := by unfold Env.blockKind; rw [hk]; rfl
  unfold swapsWith
  simp only [hb, ky, ha, Expr.pos, hl]
  rfl
end

/-! ### the forms one uses -/
/-- over a range: Pv by the turn and the heap (the new list at D within) -/
theorem lc_range {lo : Int} {n : Nat} {g : TG} {tt : TT} {te : TE} {vs : List Nat} {σ : St} {H1 : Hp} {D : Addr} {Qd : Hp → Prop} (Pv : Nat → Hp → Prop) (h0 : Pv 0 (upd H1 D (.lst [])))
    (hs : ∀ i H, i < n → Pv i H → g (.int (lo + i)) (wipe σ vs) H fun σ2 H2 => wipe σ2 vs = wipe σ vs ∧ tt σ2 H2 fun b H3 =>
      if b = true then te σ2 H3 fun y H4 => ∃ acc, H4 D = some (.lst acc) ∧ acc.length < sizeLine ∧ Pv (i + 1) (upd H4 D (.lst (acc ++ [y]))) else Pv (i + 1) H3) (hd : ∀ H, Pv n H → Qd H) :
    ∃ W : Nat → Nat → Hp → Prop, (∃ m, W 0 m (upd H1 D (.lst []))) ∧ ∀ i m H, W i m H →
      ((Itr lo n).stop i H ∧ Qd H) ∨ ((Itr lo n).go i H ∧ ∃ Nx : Hp → Prop, (∀ H', Nx H' → ∃ m', m' < m ∧ W (i + 1) m' H') ∧ ∀ x H', (Itr lo n).yld i H x H' → g x (wipe σ vs) H' fun σ2 H2 => wipe σ2 vs = wipe σ vs ∧ tt σ2 H2 fun b H3 =>
        if b = true then te σ2 H3 fun y H4 => ∃ acc, H4 D = some (.lst acc) ∧ acc.length < sizeLine ∧ Nx (upd H4 D (.lst (acc ++ [y]))) else Nx H3) := by
  refine ⟨fun i m H => m = n - i ∧ i ≤ n ∧ Pv i H, ⟨n, by simp, Nat.zero_le _, h0⟩, ?_⟩
  rintro i m H ⟨rfl, hi, p⟩
  by_cases hlt : i < n
  · refine .inr ⟨hlt, Pv (i + 1), fun H' p' => ⟨n - (i + 1), by omega, rfl, hlt, p'⟩, fun x H' y => ?_⟩
    obtain ⟨e, y⟩ := y
    subst e y
    exact hs i _ hlt p
  · have e : i = n := by omega
    subst e
    exact .inl ⟨Nat.le_refl _, hd H p⟩
/-- over a list that the block leaves as it is -/
theorem lc_list {K : PySem.W.Frag} {a : Addr} {xs : List V} {g : TG} {tt : TT} {te : TE} {vs : List Nat} {σ : St} {H1 : Hp} {D : Addr} {Qd : Hp → Prop} (Pv : Nat → Hp → Prop) (h0 : Pv 0 (upd H1 D (.lst []))) (hl : ∀ i H, i ≤ xs.length → Pv i H → SqL K H a xs)
    (hs : ∀ i x H, xs[i]? = some x → Pv i H → g x (wipe σ vs) H fun σ2 H2 => wipe σ2 vs = wipe σ vs ∧ tt σ2 H2 fun b H3 =>
      if b = true then te σ2 H3 fun y H4 => ∃ acc, H4 D = some (.lst acc) ∧ acc.length < sizeLine ∧ Pv (i + 1) (upd H4 D (.lst (acc ++ [y]))) else Pv (i + 1) H3) (hd : ∀ H, Pv xs.length H → Qd H) :
    ∃ W : Nat → Nat → Hp → Prop, (∃ m, W 0 m (upd H1 D (.lst []))) ∧ ∀ i m H, W i m H →
      ((Itl K a).stop i H ∧ Qd H) ∨ ((Itl K a).go i H ∧ ∃ Nx : Hp → Prop, (∀ H', Nx H' → ∃ m', m' < m ∧ W (i + 1) m' H') ∧ ∀ x H', (Itl K a).yld i H x H' → g x (wipe σ vs) H' fun σ2 H2 => wipe σ2 vs = wipe σ vs ∧ tt σ2 H2 fun b H3 =>
        if b = true then te σ2 H3 fun y H4 => ∃ acc, H4 D = some (.lst acc) ∧ acc.length < sizeLine ∧ Nx (upd H4 D (.lst (acc ++ [y]))) else Nx H3) := by
  refine ⟨fun i m H => m = xs.length - i ∧ i ≤ xs.length ∧ Pv i H, ⟨xs.length, by simp, Nat.zero_le _, h0⟩, ?_⟩
  rintro i m H ⟨rfl, hi, p⟩
  have q := hl i H hi p
  by_cases hlt : i < xs.length
  · refine .inr ⟨⟨xs, xs[i], q, by simp [hlt]⟩, Pv (i + 1), fun H' p' => ⟨xs.length - (i + 1), by omega, rfl, hlt, p'⟩, fun x H' y => ?_⟩
    obtain ⟨e, y⟩ := y
    subst e
    exact hs i x _ (y xs q) p
  · have e : i = xs.length := by omega
    subst e
    exact .inl ⟨⟨xs, q, Nat.le_refl _⟩, hd H p⟩
/-- over a tuple -/
theorem lc_tup {K : PySem.W.Frag} {a : Addr} {xs : List V} {g : TG} {tt : TT} {te : TE} {vs : List Nat} {σ : St} {H1 : Hp} {D : Addr} {Qd : Hp → Prop} (Pv : Nat → Hp → Prop) (h0 : Pv 0 (upd H1 D (.lst []))) (hl : ∀ i H, i ≤ xs.length → Pv i H → SqT K H a xs)
    (hs : ∀ i x H, xs[i]? = some x → Pv i H → g x (wipe σ vs) H fun σ2 H2 => wipe σ2 vs = wipe σ vs ∧ tt σ2 H2 fun b H3 =>
      if b = true then te σ2 H3 fun y H4 => ∃ acc, H4 D = some (.lst acc) ∧ acc.length < sizeLine ∧ Pv (i + 1) (upd H4 D (.lst (acc ++ [y]))) else Pv (i + 1) H3) (hd : ∀ H, Pv xs.length H → Qd H) :
    ∃ W : Nat → Nat → Hp → Prop, (∃ m, W 0 m (upd H1 D (.lst []))) ∧ ∀ i m H, W i m H →
      ((Itt K a).stop i H ∧ Qd H) ∨ ((Itt K a).go i H ∧ ∃ Nx : Hp → Prop, (∀ H', Nx H' → ∃ m', m' < m ∧ W (i + 1) m' H') ∧ ∀ x H', (Itt K a).yld i H x H' → g x (wipe σ vs) H' fun σ2 H2 => wipe σ2 vs = wipe σ vs ∧ tt σ2 H2 fun b H3 =>
        if b = true then te σ2 H3 fun y H4 => ∃ acc, H4 D = some (.lst acc) ∧ acc.length < sizeLine ∧ Nx (upd H4 D (.lst (acc ++ [y]))) else Nx H3) := by
  refine ⟨fun i m H => m = xs.length - i ∧ i ≤ xs.length ∧ Pv i H, ⟨xs.length, by simp, Nat.zero_le _, h0⟩, ?_⟩
  rintro i m H ⟨rfl, hi, p⟩
  have q := hl i H hi p
  by_cases hlt : i < xs.length
  · refine .inr ⟨⟨xs, xs[i], q, by simp [hlt]⟩, Pv (i + 1), fun H' p' => ⟨xs.length - (i + 1), by omega, rfl, hlt, p'⟩, fun x H' y => ?_⟩
    obtain ⟨e, y⟩ := y
    subst e
    exact hs i x _ (y xs q) p
  · have e : i = xs.length := by omega
    subst e
    exact .inl ⟨⟨xs, q, Nat.le_refl _⟩, hd H p⟩
def blkC (N : List Str) (sc scope : Scope) (own : List (Str × Nat)) : Bool :=
  (match scope.kind with | .function => true | _ => false) && (scope.names.all fun y => decide (scope.names.lookup y.1 = some y.2)) && (own.all fun p => decide (N[p.2]? = some p.1)) &&
    (scope.names.all fun y => match y.2 with
      | .free => (match sc.names.lookup y.1 with | some .cell => true | some .free => true | _ => false)
      | .local => decide (y.1 ∈ own.map (·.1)) || decide (y.1 ∉ N)
      | .cell => decide (y.1 ∈ own.map (·.1)) || decide (y.1 ∉ N)
      | _ => true)
theorem blkOk_by {N : List Str} {sc scope : Scope} {own : List (Str × Nat)} (h : blkC N sc scope own = true) : BlkOk N sc scope own := by
  unfold blkC at h
  simp only [Bool.and_eq_true, List.all_eq_true, decide_eq_true_eq] at h
  obtain ⟨⟨⟨h1, h2⟩, h3⟩, h4⟩ := h
  refine ⟨?_, h2, h3, fun y hy e => ?_, fun y hy e => ?_⟩
  · split at h1
    · assumption
    · cases h1
  · have q := h4 y hy
    simp only [e] at q
    split at q <;> first | exact .inl (by assumption) | exact .inr (by assumption) | cases q
  · have q := h4 y hy
    rcases e with e | e <;> (simp only [e, Bool.or_eq_true, decide_eq_true_eq] at q; exact q)
end L2

namespace L2
open PySem PySem.Spec PyProof.Rows


section
variable {prog : Program} {w : World} {A : Around} {R : Result → Shared → Prop} {s : Shared} {elt t0 i0 t1 i1 : Expr} {ifs0 ifs1 : List Expr} {scope : Scope} {pos : Pos} {it acc : Value} {env : Env}
end

section
variable {X : Cx}
/-- [elt for tg in iter if .. for tg1 in iter1 if ..]: behind the first clause's store and tests the second source's own loop, from which Nx is reached. vs: the block's names; vs1: those of the second target -/
def tLc2 (wi : TI) (g : TG) (tt : TT) (wi1 : TI) (g1 : TG) (tt1 : TT) (te : TE) (vs vs1 : List Nat) : TE := fun σ H Q => wi σ H fun J H1 => ∀ D, H1 D = none → ∃ W : Nat → Nat → Hp → Prop, (∃ m, W 0 m (upd H1 D (.lst []))) ∧ ∀ i m H, W i m H →
  (J.stop i H ∧ Q (.ref D) H) ∨ (J.go i H ∧ ∃ Nx : Hp → Prop, (∀ H', Nx H' → ∃ m', m' < m ∧ W (i + 1) m' H') ∧ ∀ x H', J.yld i H x H' → g x (wipe σ vs) H' fun σ2 H2 => wipe σ2 vs = wipe σ vs ∧ tt σ2 H2 fun b H3 =>
    if b = true then wi1 σ2 H3 fun J1 H4 => ∃ W1 : Nat → Nat → Hp → Prop, (∃ m, W1 0 m H4) ∧ ∀ j k H, W1 j k H →
      (J1.stop j H ∧ Nx H) ∨ (J1.go j H ∧ ∃ Nx1 : Hp → Prop, (∀ H', Nx1 H' → ∃ k', k' < k ∧ W1 (j + 1) k' H') ∧ ∀ x H', J1.yld j H x H' → g1 x (wipe σ2 vs1) H' fun σ3 H5 => wipe σ3 vs1 = wipe σ2 vs1 ∧ tt1 σ3 H5 fun b H6 =>
        if b = true then te σ3 H6 fun y H7 => ∃ acc, H7 D = some (.lst acc) ∧ acc.length < sizeLine ∧ Nx1 (upd H7 D (.lst (acc ++ [y]))) else Nx1 H6)
    else Nx H3)
end
end L2

namespace L2
open PySem PySem.Spec PyProof.Rows

/-! ### lists of pairs as tables -/
section
variable {κ : Type} [DecidableEq κ]
def valV (kvs : List (κ × V)) (k : κ) : Option V := (kvs.find? fun kv => decide (kv.1 = k)).map (·.2)
/-- in its place, or at the end -/
def putK (kvs : List (κ × V)) (k : κ) (v : V) : List (κ × V) :=
  if (kvs.any fun kv => decide (kv.1 = k)) = true then kvs.map (fun kv => if kv.1 = k then (kv.1, v) else kv) else kvs ++ [(k, v)]
def dropK (kvs : List (κ × V)) (k : κ) : List (κ × V) := kvs.filter fun kv => decide (kv.1 ≠ k)



end


/-! ### a tracked dict, its keys ints and texts or tuples of these -/

/-- raw entries of a dict with tuple keys -/
abbrev KT (H : Hp) : List (List Key × V) → List (List Key × Addr × Value) → Prop := Paired fun p q => p.1 = q.1 ∧ H q.2.1 = some (.tup (p.1.map kV)) ∧ RelV p.2 q.2.2

section
variable {P : Program} {w : World} {H : Hp} {h : Heap} {a : Addr}
end

/-- what the dict at a holds at the key y -/
def DGet (H : Hp) (a : Addr) (y : V) (r : Option V) : Prop :=
  (∃ kvs k, Rd H a (.dK kvs) ∧ y = kV k ∧ r = valV kvs k) ∨ ∃ kvs k b, Rd H a (.dT kvs) ∧ y = .ref b ∧ H b = some (.tup (k.map kV)) ∧ r = valV kvs k
/-- the heap behind a[y] = v -/
def DPut (H : Hp) (a : Addr) (y v : V) (H' : Hp) : Prop :=
  (∃ kvs k, H a = some (.dK kvs) ∧ y = kV k ∧ kvs.length < sizeLine ∧ H' = upd H a (.dK (putK kvs k v))) ∨
  ∃ kvs k b, H a = some (.dT kvs) ∧ y = .ref b ∧ H b = some (.tup (k.map kV)) ∧ kvs.length < sizeLine ∧ H' = upd H a (.dT (putK kvs k v))


section
variable {X : Cx} {pins : List (Addr × Obj)} {σ : St} {H : Hp} {s : Shared} {a : Addr} {y v : V} {u r : Value} {o : Option V} {A : Around} {E : Value → Shared → Prop}


end

section
variable {X : Cx} {pins : List (Addr × Obj)} {σ : St} {H : Hp} {s : Shared} {a : Addr} {kvs : List (Key × V)} {k : Key} {u : Value} {A : Around} {E : Value → Shared → Prop}
end


/-! ### readings and rules -/
/-- the element of a subscription, not a slice -/
def NoSl (i : Expr) : Prop := ∀ ov iv, subscripted i false ov iv = operate [ov, iv] (getItem ov iv)


/-- d[y] -/
def tDGet (td ty : TE) : TE := fun σ H Q => td σ H fun x H1 => ty σ H1 fun y H2 => ∃ a v, x = .ref a ∧ DGet H2 a y (some v) ∧ Q v H2
/-- y in d, y not in d -/
def tDIn (ty td : TE) : TE := fun σ H Q => ty σ H fun y H1 => td σ H1 fun x H2 => ∃ a o, x = .ref a ∧ DGet H2 a y o ∧ Q (.bl o.isSome) H2
def tDNotIn (ty td : TE) : TE := fun σ H Q => ty σ H fun y H1 => td σ H1 fun x H2 => ∃ a o, x = .ref a ∧ DGet H2 a y o ∧ Q (.bl (!o.isSome)) H2
/-- d[y] = v -/
def sDPut (td ty tv : TE) : TS := fun D σ H => tv σ H fun v H1 => td σ H1 fun x H2 => ty σ H2 fun y H3 => ∃ a H4, x = .ref a ∧ DPut H3 a y v H4 ∧ D.nx σ H4
/-- d[y] op= v -/
def sDAug (td ty tv : TE) (rd : V → V → Hp → VK → Prop) : TS := fun D σ H => td σ H fun x H1 => ty σ H1 fun y H2 => ∃ a v, x = .ref a ∧ DGet H2 a y (some v) ∧
  tv σ H2 fun y2 H3 => rd v y2 H3 fun z H4 => ∃ H5, DPut H4 a y z H5 ∧ D.nx σ H5
/-- del d[y] -/
def sDDel (td ty : TE) : TS := fun D σ H => td σ H fun x H1 => ty σ H1 fun y H2 => ∃ a kvs k, x = .ref a ∧ H2 a = some (.dK kvs) ∧ y = kV k ∧ (valV kvs k).isSome = true ∧ D.nx σ (upd H2 a (.dK (dropK kvs k)))

section
variable {X : Cx} {o i e value : Expr} {pos pos' tpos : Pos} {td ty tv : TE}
end


/-! ### displays -/
/-- {}, to be a dict of the kind that is wanted -/
def tDNewK : TE := fun _ H Q => ∀ p, H p = none → Q (.ref p) (upd H p (.dK []))
def tDNewT : TE := fun _ H Q => ∀ p, H p = none → Q (.ref p) (upd H p (.dT []))
section
variable {X : Cx} {pos : Pos}
end

/-- the pairs of a display, from the left -/
def tPairs : List (TE × TE) → St → Hp → (List (V × V) → Hp → Prop) → Prop
  | [], _, H, Q => Q [] H
  | (tk, tv) :: r, σ, H, Q => tk σ H fun x H1 => tv σ H1 fun y H2 => tPairs r σ H2 fun ps H3 => Q ((x, y) :: ps) H3
abbrev VV : List (V × V) → List (Value × Value) → Prop := Paired fun p q => RelV p.1 q.1 ∧ RelV p.2 q.2
def PPs (X : Cx) (pos : Pos) (keys : List (Option Expr)) (values : List Expr) (trs : List (TE × TE)) : Prop :=
  ∀ (pins : List (Addr × Obj)) (s : Shared) (σ : St) (H : Hp) (Q : List (V × V) → Hp → Prop), Inv X pins σ H s → tPairs trs σ H Q →
    wpAny (model X.prog X.w) X.A (evalPairs (pairTrees keys values X.env pos)) (fun vs s' => ∃ ps H', Inv X pins σ H' s' ∧ VV ps vs ∧ Q ps H') X.xe s

def mergeK (kvs more : List (Key × V)) : List (Key × V) := more.foldl (fun acc kv => putK acc kv.1 kv.2) kvs
/-- {k: v, ..} with keys ints and texts; the new dict stands empty while the pairs are made -/
def tDisp (trs : List (TE × TE)) : TE := fun σ H Q => ∀ p, H p = none → tPairs trs σ (upd H p (.dK [])) fun ps H2 => H2 p = some (.dK []) ∧ ∃ kvs : List (Key × V), ps = kvs.map (fun kv => (kV kv.1, kv.2)) ∧ kvs.length ≤ 15 ∧ Q (.ref p) (upd H2 p (.dK (mergeK [] kvs)))


/-! ### methods -/
/-- a method call o.m(e) of a built-in, with one argument: what must be seen of the text -/
structure M1 (X : Cx) (o : Expr) (m : Str) (apos : Pos) (e : Expr) (cpos : Pos) : Prop where
  base : attributeBase o m X.env (eval o X.env) = eval o X.env
  few : ((backTo cpos (starEach [e] X.env)).all (fun x => !x.1) && (backToKw cpos (keywordEach [] X.env)).all (fun x => x.1.isSome)
    && decide (([e] : List Expr).length + ([] : List Keyword).length + (if ([] : List Keyword).isEmpty then 0 else 1) < 30)) = true
  line : (apos.endLine == cpos.line) = true
  trees : backTo cpos (starEach [e] X.env) = [(false, eval e X.env)]
structure M2 (X : Cx) (o : Expr) (m : Str) (apos : Pos) (e f : Expr) (cpos : Pos) : Prop where
  base : attributeBase o m X.env (eval o X.env) = eval o X.env
  few : ((backTo cpos (starEach [e, f] X.env)).all (fun x => !x.1) && (backToKw cpos (keywordEach [] X.env)).all (fun x => x.1.isSome)
    && decide (([e, f] : List Expr).length + ([] : List Keyword).length + (if ([] : List Keyword).isEmpty then 0 else 1) < 30)) = true
  line : (apos.endLine == cpos.line) = true
  trees : backTo cpos (starEach [e, f] X.env) = [(false, eval e X.env), (false, eval f X.env)]

/-- a is a dict, whatever its keys -/
def IsD (H : Hp) (a : Addr) : Prop := (∃ kvs, Rd H a (.dK kvs)) ∨ ∃ kvs, Rd H a (.dT kvs)

section
variable {X : Cx} {pins : List (Addr × Obj)} {σ : St} {H : Hp} {s : Shared} {a : Addr} {y d : V} {u r : Value} {o : Option V} {A : Around} {E : Value → Shared → Prop}
end

def tDGet1 (td ty : TE) : TE := fun σ H Q => td σ H fun x H1 => ∃ a, x = .ref a ∧ IsD H1 a ∧ ty σ H1 fun y H2 => ∃ o, DGet H2 a y o ∧ Q (o.getD .non) H2
def tDGet2 (td ty tx : TE) : TE := fun σ H Q => td σ H fun x H1 => ∃ a, x = .ref a ∧ IsD H1 a ∧ ty σ H1 fun y H2 => tx σ H2 fun z H3 => ∃ o, DGet H3 a y o ∧ Q (o.getD z) H3
/-- d.pop(k): there; d.pop(k, x): there or not -/
def tDPop1 (td ty : TE) : TE := fun σ H Q => td σ H fun x H1 => ∃ a, x = .ref a ∧ IsD H1 a ∧ ty σ H1 fun y H2 => ∃ kvs k v, H2 a = some (.dK kvs) ∧ y = kV k ∧ valV kvs k = some v ∧ Q v (upd H2 a (.dK (dropK kvs k)))
def tDPop2 (td ty tx : TE) : TE := fun σ H Q => td σ H fun x H1 => ∃ a, x = .ref a ∧ IsD H1 a ∧ ty σ H1 fun y H2 => tx σ H2 fun z H3 => ∃ kvs k, H3 a = some (.dK kvs) ∧ y = kV k ∧
  (∀ v, valV kvs k = some v → Q v (upd H3 a (.dK (dropK kvs k)))) ∧ (valV kvs k = none → Q z H3)
section
variable {X : Cx} {o e f : Expr} {apos cpos : Pos} {td ty tx : TE}
end

/-! ### dict(d): a copy -/
section
variable {X : Cx} {pins : List (Addr × Obj)} {σ : St} {H : Hp} {s : Shared} {a : Addr} {kvs : List (Key × V)} {A : Around} {E : Value → Shared → Prop}
end


section
variable {X : Cx} {pins : List (Addr × Obj)} {σ : St} {H : Hp} {s : Shared} {a : Addr} {y : V} {u : Value} {A : Around} {E : Value → Shared → Prop}
end
end L2

namespace L2
open PySem PySem.Spec PyProof.Rows


section
variable {prog : Program} {w : World} {A : Around} {E : Value → Shared → Prop}


end

section
variable {X : Cx}
end
end L2

namespace L2
open PySem PySem.Spec PyProof.Rows


section
variable {X : Cx} {pins : List (Addr × Obj)} {σ : St} {H : Hp} {s : Shared} {h' : Heap}
/-- several records of ours have turned -/
theorem Inv.turnedL {t' : Nat} {ch : List Addr} (I : Inv X pins σ H s) (k : ∀ b o, b ∉ ch → s.heap.get? b = some o → h'.get? b = some o) (hf : ∀ b ∈ ch, FpOk X pins H b) : Inv X pins σ H { s with heap := h', toks := t' } := by
  have nit : ∀ b u, H b = some u → b ∉ ch := fun b u e z => by
    have q := (hf b z).1
    rw [q] at e; cases e
  refine I.step (g' := s.gens) (d' := s.drawn) (ch := ch) (fun b hb => ⟨(hf b hb).2.2.2.1, (hf b hb).2.1, (hf b hb).2.2.2.2.1, (hf b hb).2.2.2.2.2⟩) (fun b o _ _ hc e _ => k b o hc e) (fun b o _ _ hc e _ => ⟨o.slots, k b o hc e⟩)
    (fun _ _ _ _ n => n) (fun b o hc e => ⟨o, k b o hc e⟩) (fun _ _ e => e) (fun _ _ _ e => e) (fun b ps e => ⟨#[], by rw [e]; simp⟩) (fun m hm => ?_) (fun b u e => ?_) I.bare
  · obtain ⟨o, es, ep, ho, r⟩ := hm
    exact ⟨o, es, ep, k _ o (fun z => (hf _ z).2.1 rfl) ho, r⟩
  · refine (I.hok b u e).stay (fun c v hc q => k c v ?_ q) (fun _ q => q) fun _ _ q => q
    rcases hc with z | z
    · rw [z]; exact nit b u e
    · exact nit c _ z
/-- .. and one new object is laid -/
theorem Inv.turnedNew {t' : Nat} {ch : List Addr} {T : Addr} {ob : HO} (I : Inv X pins σ H s) (k : ∀ b o, b ∉ ch → s.heap.get? b = some o → h'.get? b = some o) (hf : ∀ b ∈ ch, FpOk X pins H b) (hT : s.heap.objs.size ≤ T)
    (new : ObjOk X.prog X.w (upd H T ob) h' T ob) : Inv X pins σ (upd H T ob) { s with heap := h', toks := t' } := by
  have hn : H T = none := I.hok.fresh hT
  have nit : ∀ b u, H b = some u → b ∉ ch := fun b u e z => by
    have q := (hf b z).1
    rw [q] at e; cases e
  refine I.step (g' := s.gens) (d' := s.drawn) (ch := ch) (fun b hb => ⟨(hf b hb).2.2.2.1, (hf b hb).2.1, (hf b hb).2.2.2.2.1, (hf b hb).2.2.2.2.2⟩) (fun b o _ _ hc e _ => k b o hc e) (fun b o _ _ hc e _ => ⟨o.slots, k b o hc e⟩)
    (fun b o _ e n => ?_) (fun b o hc e => ⟨o, k b o hc e⟩) (fun b xs e => ?_) (fun b o u e => ?_) (fun b ps e => ⟨#[], ?_⟩) (fun m hm => ?_) (fun b u e => ?_) I.bare
  · rw [upd_ne (Nat.ne_of_lt (Nat.lt_of_lt_of_le (Heap.lt_size e) hT))]; exact n
  · rw [upd_ne (ne_of_none e hn)]; exact e
  · rw [upd_ne (ne_of_none e hn)]; exact e
  · rw [upd_ne (ne_of_none e hn), e]; simp
  · obtain ⟨o, es, ep, ho, r⟩ := hm
    exact ⟨o, es, ep, k _ o (fun z => (hf _ z).2.1 rfl) ho, r⟩
  · by_cases hb : b = T
    · subst hb
      rw [upd_same] at e
      cases e
      exact new
    · rw [upd_ne hb] at e
      refine (I.hok b u e).stay (fun c v hc q => k c v ?_ q) (fun c q => by rw [upd_ne (ne_of_none q hn)]; exact q) fun c xs q => by rw [upd_ne (ne_of_none q hn)]; exact q
      rcases hc with z | z
      · rw [z]; exact nit b u e
      · exact nit c _ z

/-! ### locking a thing while a statement runs -/
end
/-- the statement runs while the thing at d is locked (read, not written); d and what stands there are the reading's choice -/
def tLock (t : TS) : TS := fun D σ H => ∃ d u, H d = some u ∧ Mut (some u) ∧ ∀ od, t ⟨fun σ' H' => H' d = some (.frz od u) ∧ D.nx σ' (upd H' d u), fun v H' => H' d = some (.frz od u) ∧ D.rt v (upd H' d u), fun σ' H' => H' d = some (.frz od u) ∧ D.bk σ' (upd H' d u), fun σ' H' => H' d = some (.frz od u) ∧ D.ct σ' (upd H' d u)⟩ σ (upd H d (.frz od u))
def tLockE (t : TE) : TE := fun σ H Q => ∃ d u, H d = some u ∧ Mut (some u) ∧ ∀ od, t σ (upd H d (.frz od u)) fun v H' => H' d = some (.frz od u) ∧ Q v (upd H' d u)
section
variable {X : Cx}

/-! ### one iterator just laid -/
theorem pi_one {tg : Expr} {pins : List (Addr × Obj)} {σ : St} {H : Hp} {s : Shared} {R : It → Hp → Prop} {J : It} {tn : Nat → Heap → Prop} {tk : Nat} (I : Inv X pins σ H s) (o : Obj)
    (T : Turn X.prog X.w X.K tg J [s.heap.objs.size] s.heap.objs.size tn) (st : tn 0 (s.heap.push o)) (q : R J H) : PIE X pins σ tg R (.ref s.heap.objs.size) { s with heap := s.heap.push o, toks := tk } := by
  refine ⟨s.heap.objs.size, [s.heap.objs.size], tn, J, H, rfl, I.kept fun b ob e => Heap.get?_push_of_some _ e, T, st, fun b hb => ?_, q⟩
  have e : b = s.heap.objs.size := by simpa using hb
  subst e
  exact I.fpOk (Nat.le_refl _) (I.hok.fresh (Nat.le_refl _))
end

/-! ### range with a step -/
/-- lo, lo + c, .. (n of them) -/
def Itc (lo c : Int) (n : Nat) : It := ⟨fun i _ => i < n, fun i H x H' => H' = H ∧ x = .int (lo + (i : Nat) * c), fun i _ => n ≤ i⟩
/-- range(i, j, c): small bounds, n items -/
def RgC (i j c : Int) (n : Nat) : Prop := c ≠ 0 ∧ c.natAbs < 1073741824 ∧ Builtin.Range.small i j c = true ∧ Builtin.Range.rangeSize i j c = n
def iRng3 (ta : TA) : TI := fun σ H R => ta σ H fun vs H1 => ∃ (i j c : Int) (n : Nat), vs = [.int i, .int j, .int c] ∧ RgC i j c n ∧ R (Itc i c n) H1
section
variable {X : Cx} {tg : Expr}
end

/-! ### reversed(list) -/
/-- the list at a (n items at the start, which the loop leaves there), from its end -/
def Itv (K : PySem.W.Frag) (a : Addr) (n : Nat) : It :=
  ⟨fun i H => i < n ∧ ∃ (xs : List V) (x : V), SqL K H a xs ∧ xs[n - 1 - i]? = some x, fun i H x H' => H' = H ∧ ∀ xs, SqL K H a xs → xs[n - 1 - i]? = some x, fun i _ => n ≤ i⟩
def iRev (K : PySem.W.Frag) (ta : TA) : TI := fun σ H R => ta σ H fun vs H1 => ∃ (a : Addr) (xs : List V), vs = [.ref a] ∧ SqL K H1 a xs ∧ R (Itv K a xs.length) H1
section
variable {X : Cx} {tg : Expr}
end

/-! ### a str -/
def Its (x : Str) : It := ⟨fun i _ => i < x.cps.size, fun i H v H' => H' = H ∧ ∃ c, x.cps[i]? = some c ∧ v = .str ⟨#[c]⟩, fun i _ => x.cps.size ≤ i⟩
theorem turn_str {P : Program} {w : World} {K : PySem.W.Frag} {tg : Expr} (it : Addr) (x : Str) (t : Tok) (ty : String) (hty : ty = "str_ascii_iterator" ∨ ty = "str_iterator") :
    Turn P w K tg (Its x) [it] it (fun i h => h.IsStrIter it ty x t i) where
  mem := by simp
  obj := fun i h st b hb => by
    have e : b = it := by simpa using hb
    subst e
    obtain ⟨o, e, c, d⟩ := st
    exact ⟨o, e, fun v z => by rw [d] at z; cases z⟩
  keep := fun i h h' st k => let ⟨o, ho, r⟩ := st; ⟨o, k it (by simp) o ho, r⟩
  item := by
    intro X hP hw hK hc i pins s σ H E I hf st hg
    subst hP hw hK
    obtain ⟨f0, f1, f2, f3, f4, f5⟩ := hf it (by simp)
    have W : Walks X.prog X.w X.A it [it] [it] x.cps.size (SignAt x) (fun i h => h.IsStrIter it ty x t i) := by
      rcases hty with e | e
      · rw [e]; exact Walks.strAscii (I.ok.hd hc) it x t
      · rw [e]; exact Walks.strWide (I.ok.hd hc) it x t
    have hno : ["enumerate", "zip", "dict_itemiterator", "dict_reverseitemiterator", "odict_iterator", "itertools.zip_longest", "itertools.pairwise"].contains ty = false := by
      rcases hty with e | e
      · rw [e]; decide
      · rw [e]; decide
    refine W.item i s _ _ hg st fun v h' tk hv st' kk => ?_
    obtain ⟨c, u, hcx, rfl⟩ := hv
    have I1 : Inv X pins σ H { s with heap := h', toks := tk } := I.turned (fun b o hb e => kk b o (by simpa using hb) e) f0 f1 f3 f4 f5
    obtain ⟨oi, e, cc, dd⟩ := id st'
    exact ⟨_, rfl, go_of (s := { s with heap := h', toks := tk }) e cc dd hno ⟨.str ⟨#[c]⟩, H, I1, ⟨u, rfl⟩, ⟨rfl, c, hcx, rfl⟩, st', fun b hb => (hf b hb).1⟩⟩
  done := by
    intro X hP hw hK hc i pins s σ H E I hf st hg
    subst hP hw hK
    obtain ⟨f0, f1, f2, f3, f4, f5⟩ := hf it (by simp)
    have hx : x.cps[i]? = none := Array.getElem?_eq_none hg
    rcases hty with e | e
    · rw [e] at st
      exact wpAny_pyNext_ascii_end (I.ok.hd hc) st hx fun h' eb => ⟨rfl, I.turned (t' := s.toks) (fun b o hb e => eb b o hb e) f0 f1 f3 f4 f5⟩
    · rw [e] at st
      exact wpAny_pyNext_wide_end (I.ok.hd hc) st hx fun h' eb => ⟨rfl, I.turned (t' := s.toks) (fun b o hb e => eb b o hb e) f0 f1 f3 f4 f5⟩
  self := fun A i s Q E st h => by
    rcases hty with e | e
    · rw [e] at st; exact wpAny_pyIter_striter_ascii st h
    · rw [e] at st; exact wpAny_pyIter_striter_wide st h
def iStr (te : TE) : TI := fun σ H R => te σ H fun v H1 => ∃ x, v = .str x ∧ R (Its x) H1
theorem pi_str {X : Cx} {tg e : Expr} {te : TE} (he : PE X e te) : PI X tg e (iStr te) := by
  intro pins s σ H R I h
  refine thn (he pins s σ H _ I h) fun v s1 ⟨y, H1, I1, r1, x, ex, q⟩ => ?_
  subst ex
  obtain ⟨t, rfl⟩ := r1
  cases ha : x.cps.all (· < 128)
  · exact wpAny_pyIter_wide ha (pi_one (tk := s1.toks) I1 _ (turn_str _ x t "str_iterator" (.inr rfl)) ⟨_, Heap.get?_push_size _ rfl, rfl, rfl⟩ q)
  · exact wpAny_pyIter_ascii ha (pi_one (tk := s1.toks) I1 _ (turn_str _ x t "str_ascii_iterator" (.inl rfl)) ⟨_, Heap.get?_push_size _ rfl, rfl, rfl⟩ q)

/-! ### a dict's keys: any dict's entries -/
section
variable {prog : Program} {w : World} {A : Around} {E : Value → Shared → Prop} {s : Shared}
end

/-! ### a locked dict -/
section
variable {X : Cx} {pins : List (Addr × Obj)} {σ : St} {H : Hp} {s : Shared} {d : Addr} {o : Obj}
end

/-- the keys of the locked dict at d, in their order -/
def Itk (d : Addr) (o : Obj) (kvs : List (Key × V)) : It :=
  ⟨fun i H => H d = some (.frz o (.dK kvs)) ∧ i < kvs.length, fun i H x H' => H' = H ∧ ∃ k v, kvs[i]? = some (k, v) ∧ x = kV k, fun i H => H d = some (.frz o (.dK kvs)) ∧ kvs.length ≤ i⟩
/-- .. of tuple keys: the key's own tuple -/
def Itkt (d : Addr) (o : Obj) (kvs : List (List Key × V)) : It :=
  ⟨fun i H => H d = some (.frz o (.dT kvs)) ∧ i < kvs.length, fun i H x H' => H' = H ∧ ∃ (k : List Key) (v : V) (q : Addr), kvs[i]? = some (k, v) ∧ x = .ref q ∧ H q = some (.tup (k.map kV)), fun i H => H d = some (.frz o (.dT kvs)) ∧ kvs.length ≤ i⟩
/-- the values -/
def Itd (d : Addr) (o : Obj) (kvs : List (Key × V)) : It :=
  ⟨fun i H => H d = some (.frz o (.dK kvs)) ∧ i < kvs.length, fun i H x H' => H' = H ∧ ∃ k, kvs[i]? = some (k, x), fun i H => H d = some (.frz o (.dK kvs)) ∧ kvs.length ≤ i⟩
/-- the pairs, each a new tuple -/
def Iti (d : Addr) (o : Obj) (kvs : List (Key × V)) : It :=
  ⟨fun i H => H d = some (.frz o (.dK kvs)) ∧ i < kvs.length, fun i H x H' => ∃ T k v, kvs[i]? = some (k, v) ∧ x = .ref T ∧ H T = none ∧ H' = upd H T (.tup [kV k, v]), fun i H => H d = some (.frz o (.dK kvs)) ∧ kvs.length ≤ i⟩
section
variable {P : Program} {w : World} {K : PySem.W.Frag} {tg : Expr} {d : Addr} {o : Obj} {es : Array DictEntry} {ep : Nat}
end

/-! ### for k in d, d.keys(), d.values(), d.items() -/
/-- the dict is locked (tLock, or by the caller) -/
def iKeys (td : TE) : TI := fun σ H R => td σ H fun x H1 => ∃ d o, x = .ref d ∧ ((∃ kvs, H1 d = some (.frz o (.dK kvs)) ∧ R (Itk d o kvs) H1) ∨ ∃ kvs, H1 d = some (.frz o (.dT kvs)) ∧ R (Itkt d o kvs) H1)
def iVals (td : TE) : TI := fun σ H R => td σ H fun x H1 => ∃ d o kvs, x = .ref d ∧ H1 d = some (.frz o (.dK kvs)) ∧ R (Itd d o kvs) H1
def iItems (td : TE) : TI := fun σ H R => td σ H fun x H1 => ∃ d o kvs, x = .ref d ∧ H1 d = some (.frz o (.dK kvs)) ∧ R (Iti d o kvs) H1
def iKeysM (td : TE) : TI := fun σ H R => td σ H fun x H1 => ∃ d o kvs, x = .ref d ∧ H1 d = some (.frz o (.dK kvs)) ∧ R (Itk d o kvs) H1
section
variable {X : Cx} {tg e : Expr} {td : TE} {apos cpos : Pos}
end

/-! ### enumerate(list) -/
/-- the list at a as it stands at each turn, each item in a new pair -/
def Ite (K : PySem.W.Frag) (a : Addr) : It :=
  ⟨fun i H => ∃ (xs : List V) (x : V), SqL K H a xs ∧ xs[i]? = some x, fun i H v H' => ∃ T x, v = .ref T ∧ H T = none ∧ H' = upd H T (.tup [.int (i : Nat), x]) ∧ ∀ xs, SqL K H a xs → xs[i]? = some x, fun i H => ∃ xs : List V, SqL K H a xs ∧ xs.length ≤ i⟩
theorem turn_enum {P : Program} {w : World} {K : PySem.W.Frag} {elts : List Expr} {kk : Nat} {tpos : Pos} (a e it : Addr) :
    Turn P w K (.Tuple elts kk tpos) (Ite K a) [e, it] e (fun i h => (∃ old, IsEnum h e it ((i : Nat) : Int) old) ∧ h.IsListIter it a i ∧ e ≠ it) where
  mem := by simp
  obj := fun i h st b hb => by
    obtain ⟨⟨old, he⟩, ⟨o, ho, hc, hd⟩, _⟩ := st
    have e' : b = e ∨ b = it := by simpa using hb
    rcases e' with z | z
    · rw [z]; exact ⟨_, he, fun v q => nomatch q⟩
    · rw [z]; exact ⟨o, ho, fun v q => by rw [hd] at q; cases q⟩
  keep := fun i h h' st k => let ⟨⟨old, he⟩, hi, hne⟩ := st; ⟨⟨old, k e (by simp) _ he⟩, hi.at fun o q => k it (by simp) o q, hne⟩
  item := by
    intro X hP hw hK hc i pins s σ H E I hf st hg
    subst hP hw hK
    obtain ⟨⟨old, he⟩, hit, hne⟩ := st
    obtain ⟨xs, x, hq, hx⟩ := hg
    obtain ⟨its, rv, p, hz⟩ := I.list hq
    obtain ⟨u, hu, ru⟩ := rv.get hx
    have hel : e < s.heap.objs.size := Heap.lt_size he
    have hil : it < s.heap.objs.size := by obtain ⟨_, q, _⟩ := hit; exact Heap.lt_size q
    refine wpAny_pyNext_enum_item he hit p.isList (x := u) (by simpa using hu) hne fun h' ho hit' hT hsz hk => ?_
    refine ⟨_, rfl, wpAny_letOwnedTupleGo_enum (s := { s with heap := h', toks := s.toks + 1 }) ho fun h'' he' sb => ?_⟩
    have hT2 : h''.get? s.heap.objs.size = some { cls := .type "tuple", data := .seq #[.int i s.toks, u] } := (sb.2 _ (Nat.ne_of_gt hel)).trans hT
    have new : ObjOk X.prog X.w (upd H s.heap.objs.size (.tup [.int (i : Nat), x])) h'' s.heap.objs.size (.tup [.int (i : Nat), x]) :=
      ⟨by show 2 ≤ sizeLine; decide, [.int i s.toks, u], .cons ⟨_, rfl⟩ (.cons ru .nil), ⟨_, hT2, rfl, _, rfl⟩⟩
    have I1 : Inv X pins σ (upd H s.heap.objs.size (.tup [.int (i : Nat), x])) { s with heap := h'', toks := s.toks + 1 } :=
      I.turnedNew (ch := [e, it]) (fun b ob hb q => (sb.2 b (fun z => hb (by simp [z]))).trans (hk b ob (fun z => hb (by simp [z])) (fun z => hb (by simp [z])) q)) hf (Nat.le_refl _) new
    refine ⟨.ref s.heap.objs.size, _, I1, rfl, ⟨_, x, rfl, I.hok.fresh (Nat.le_refl _), rfl, fun ys hy => by rw [I.list_inj hy hq]; exact hx⟩, ⟨⟨u, ?_⟩, hit'.at fun o q => (sb.2 it (Ne.symm hne)).trans q, hne⟩, fun b hb => ?_⟩
    · have e1 : ((i + 1 : Nat) : Int) = (i : Int) + 1 := by omega
      rw [e1]; exact he'
    · have hb' : b < s.heap.objs.size := by
        have e' : b = e ∨ b = it := by simpa using hb
        rcases e' with z | z
        · rw [z]; exact hel
        · rw [z]; exact hil
      rw [upd_ne (Nat.ne_of_lt hb')]
      exact (hf b hb).1
  done := by
    intro X hP hw hK hc i pins s σ H E I hf st hg
    subst hP hw hK
    obtain ⟨⟨old, he⟩, hit, hne⟩ := st
    obtain ⟨xs, hq, hx⟩ := hg
    obtain ⟨its, rv, p, hz⟩ := I.list hq
    obtain ⟨f0, f1, f2, f3, f4, f5⟩ := hf it (by simp)
    have hl := rv.length
    exact wpAny_pyNext_enum_end (I.ok.hd hc) he hit p.isList (by simp; omega) fun h' eb => ⟨rfl, I.turned (t' := s.toks) (fun b o hb q => eb b o hb q) f0 f1 f3 f4 f5⟩
  self := fun A i s Q E st h => let ⟨⟨_, he⟩, _⟩ := st; wpAny_pyIter_enum he h
def iEnum (K : PySem.W.Frag) (ta : TA) : TI := fun σ H R => ta σ H fun vs H1 => ∃ a xs, vs = [.ref a] ∧ SqL K H1 a xs ∧ R (Ite K a) H1
theorem pi_enum {X : Cx} {e : Expr} {ta : TA} {p pos tpos : Pos} {elts : List Expr} {kk : Nat} (hg : Gl X "enumerate") (hm : X.mg "enumerate" = none) (ha : PA X [e] ta) (hs : starEach [e] X.env = [(false, eval e X.env)] := by rfl) :
    PI X (.Tuple elts kk tpos) (.Call (.Name "enumerate" p) [e] [] pos) (iEnum X.K ta) := by
  intro pins s σ H R I h
  refine Call_ (ld_blt I hg hm boot_enumerate (PyProof.Rows.callWith_type1 (thn (ha pos pins s σ H _ I h) fun us s1 ⟨vs, H1, I1, r1, q1⟩ => ?_) hs rfl))
  obtain ⟨a, xs, ex, hq, q⟩ := q1
  subst ex
  cases r1 with
  | cons r rr =>
    cases rr
    cases r
    obtain ⟨its, rv, p', hz⟩ := I1.list hq
    refine call_enumerate_list p'.isList fun h' he hit hsz hk => wpAny_pyIter_enum he ?_
    have I2 : Inv X pins σ H1 { s1 with heap := h' } := I1.kept (t' := s1.toks) hk
    refine ⟨s1.heap.objs.size + 1, [s1.heap.objs.size + 1, s1.heap.objs.size], _, _, H1, rfl, I2, turn_enum a (s1.heap.objs.size + 1) s1.heap.objs.size, ⟨⟨.none, he⟩, hit, Nat.succ_ne_self _⟩, fun b hb => ?_, q⟩
    have e' : b = s1.heap.objs.size + 1 ∨ b = s1.heap.objs.size := by simpa using hb
    have hle : s1.heap.objs.size ≤ b := by
      rcases e' with z | z
      · rw [z]; exact Nat.le_add_right _ _
      · rw [z]; exact Nat.le_refl _
    exact I1.fpOk hle (I1.hok.fresh hle)
/-! ### zip(list, list) -/
theorem boot_zip5 : bootBuiltins "zip" = some (.type "zip") := by decide +kernel
/-- the lists at a and b as they stand at each turn, the items in new pairs -/
def Itz (K : PySem.W.Frag) (a b : Addr) : It :=
  ⟨fun i H => ∃ (xs ys : List V) (x y : V), SqL K H a xs ∧ SqL K H b ys ∧ xs[i]? = some x ∧ ys[i]? = some y,
    fun i H v H' => ∃ T x y, v = .ref T ∧ H T = none ∧ H' = upd H T (.tup [x, y]) ∧ (∀ xs, SqL K H a xs → xs[i]? = some x) ∧ ∀ ys, SqL K H b ys → ys[i]? = some y,
    fun i H => ∃ xs ys : List V, SqL K H a xs ∧ SqL K H b ys ∧ (xs.length ≤ i ∨ ys.length ≤ i)⟩
def iZip (K : PySem.W.Frag) (ta : TA) : TI := fun σ H R => ta σ H fun vs H1 => ∃ a b xs ys, vs = [.ref a, .ref b] ∧ SqL K H1 a xs ∧ SqL K H1 b ys ∧ R (Itz K a b) H1
end L2

section 
namespace Bits
open PySem PyProof.Rows








end Bits
end 

section 
namespace TL
open PySem PySem.Builtin PySem.Builtin.Str PySem.StrLaws

abbrev tl (x : Str) : List Nat := x.cps.toList
theorem len_tl (x : Str) : x.length = (tl x).length := by simp [tl, Str.length]
theorem ext_tl {x y : Str} (h : tl x = tl y) : x = y := Str.ext' (Array.toList_inj.mp h)
theorem tl_append (x y : Str) : tl (x ++ y) = tl x ++ tl y := by
  show (x ++ y).cps.toList = _
  rw [Str.cps_append, Array.toList_append]

/-! ### the list functions -/
/-- S stands at the head of l -/
def pre (S l : List Nat) : Bool := l.take S.length == S
/-- l cut at each S from the left; k signs are still to be passed over -/
def spl (S : List Nat) : Nat → List Nat → List Nat → List (List Nat)
  | _, acc, [] => [acc]
  | 0, acc, c :: r => if pre S (c :: r) = true then acc :: spl S (S.length - 1) [] r else spl S 0 (acc ++ [c]) r
  | k + 1, acc, _ :: r => spl S k acc r
/-- what stands before the first S, and behind it -/
def par (S : List Nat) : List Nat → List Nat → Option (List Nat × List Nat)
  | _, [] => none
  | acc, c :: r => if pre S (c :: r) = true then some (acc, (c :: r).drop S.length) else par S (acc ++ [c]) r




/-! ### the model's split and partition are these -/




/-! ### computing spl and par -/

/-- joined lists -/
def joinL (S : List Nat) : List (List Nat) → List Nat
  | [] => []
  | [p] => p
  | p :: q :: r => p ++ (S ++ joinL S (q :: r))
theorem tl_join (y : Str) : ∀ parts : List Str, tl (Str.join y parts) = joinL (tl y) (parts.map tl)
  | [] => rfl
  | [_] => rfl
  | x :: z :: r => by
    show tl (x ++ y ++ Str.join y (z :: r)) = tl x ++ (tl y ++ joinL (tl y) ((z :: r).map tl))
    rw [tl_append, tl_append, tl_join y (z :: r), List.append_assoc]
theorem join_eq (y : Str) (parts : List Str) : Txt.join y parts = Str.join y parts := glued_eq_join y parts

/-! ### digits -/
/-- the signs of a number -/
def numL (n : Nat) : List Nat := (Nat.toDigits 10 n).map Char.toNat

/-! ### words: x.split() -/
def wstep (st : List (List Nat) × List Nat) (c : Nat) : List (List Nat) × List Nat :=
  if Unicode.isSpace c = true then (if st.2 = [] then st else (st.1 ++ [st.2], [])) else (st.1, st.2 ++ [c])
def wfin (st : List (List Nat) × List Nat) : List (List Nat) := if st.2 = [] then st.1 else st.1 ++ [st.2]
end TL
end 

namespace L2
open PySem PySem.Spec PyProof.Rows


/-- a list of texts, of numbered texts -/
theorem vals_strs : ∀ l : List (Str × Tok), Vals ((l.map (·.1)).map V.str) (strValues l)
  | [] => .nil
  | p :: r => .cons ⟨p.2, rfl⟩ (vals_strs r)
theorem strs_of_vals : ∀ {ys : List Str} {us : List Value}, Vals (ys.map V.str) us → StrsAre us ys
  | [], _, .nil => .nil
  | y :: ys, _, .cons r t => by
    obtain ⟨k, rfl⟩ := r
    exact .cons y k (strs_of_vals t)

/-- a new list of texts, tracked -/
def rNewStrs (ys : List Str) : Hp → VK → Prop := fun H Q => ∀ p, H p = none → Q (.ref p) (upd H p (.lst (ys.map V.str)))

section
variable {X : Cx} {pins : List (Addr × Obj)} {σ : St} {H : Hp} {s : Shared} {Q : VK}
theorem laid_strs {l : List (Str × Tok)} {ys : List Str} {k : Nat} (I : Inv X pins σ H s) (e : l.map (·.1) = ys) (hz : ys.length ≤ sizeLine) (h : rNewStrs ys H Q) :
    EP X pins σ Q (.ref s.heap.objs.size) { s with toks := k, heap := s.heap.push { cls := .type "list", data := .seq (strValues l).toArray } } := by
  have hp := I.hok.fresh (Nat.le_refl _)
  refine ⟨.ref s.heap.objs.size, upd H s.heap.objs.size (.lst (ys.map V.str)), I.laid (fun b u q => Heap.get?_push_of_some _ q) (Nat.le_refl _) ⟨by rw [List.length_map]; exact hz, strValues l, _, ?_, Heap.get?_push_size _ rfl⟩, rfl, h _ hp⟩
  rw [← e]
  exact vals_strs l
end

section
variable {X : Cx}

/-- x.split(sep) -/
theorem mt_split : MtR X "str.split" (fun x xs H Q => ∃ a b, x = .str a ∧ xs = [.str b] ∧ (b.length == 0) = false ∧ a.length + 2 ≤ sizeLine ∧ rNewStrs (Txt.split a b) H Q) := by
  intro pins s σ H x xs v us Q I rx rs h
  obtain ⟨a, b, rfl, rfl, hb, hz, h⟩ := h
  obtain ⟨t, rfl⟩ := rx
  cases rs with
  | cons r1 rs =>
    cases rs
    obtain ⟨u, rfl⟩ := r1
    have hl : (Txt.split a b).length ≤ sizeLine := Nat.le_trans (PyProof.Rows.split_le a b) hz
    have hn : (Builtin.Str.partsBetween a (Builtin.Str.occurrences a b 0 a.length (a.length + 1)) b.length).length ≤ sizeLine := by
      have e1 := StrLaws.occ_length_le a b 0 a.length (a.length + 1)
      rw [length_partsBetween]; omega
    cases h1 : (decide (a.length < b.length) || decide (Builtin.Str.strKind a < Builtin.Str.strKind b))
    · cases hf : (Builtin.Str.occurrences a b 0 a.length (a.length + 1)).isEmpty
      · refine call_meets F.slot_str_split (typeIs_str _ _ _) F.entry_str_split (F.args_str_split_2 _ _) (meets_str_split_sep a b t u h1 hb hf (by omega) hn) ?_
        show EP X pins σ Q (.ref s.heap.objs.size) { s with toks := _, heap := s.heap.push { cls := .type "list", data := .seq (strsFrom s.toks (Builtin.Str.partsBetween a (Builtin.Str.occurrences a b 0 a.length (a.length + 1)) b.length)).toArray } }
        rw [strsFrom_eq]
        exact laid_strs (ys := Txt.split a b) I ((numbered_texts _ _).trans ((if_neg (ne_true_of_eq_false h1)).trans (if_neg (ne_true_of_eq_false hf))).symm) hl h
      · refine call_meets F.slot_str_split (typeIs_str _ _ _) F.entry_str_split (F.args_str_split_2 _ _) (meets_str_split_not_found a b t u h1 hb hf) ?_
        exact laid_strs (l := [(a, t)]) (ys := Txt.split a b) (k := s.toks) I ((if_neg (ne_true_of_eq_false h1)).trans (if_pos hf)).symm hl h
    · refine call_meets F.slot_str_split (typeIs_str _ _ _) F.entry_str_split (F.args_str_split_2 _ _) (meets_str_split_cannot_occur a b t u h1) ?_
      exact laid_strs (l := [(a, t)]) (ys := Txt.split a b) (k := s.toks) I (if_pos h1).symm hl h



/-- sep.join(a list | a tuple of texts) -/
theorem mt_join : MtR X "str.join" (fun x xs H Q => ∃ a p, ∃ ys : List Str, x = .str a ∧ xs = [.ref p] ∧ (SqL X.K H p (ys.map V.str) ∨ SqT X.K H p (ys.map V.str)) ∧
    (ys.map (·.length)).sum + ys.length * a.length ≤ 16777216 ∧ Q (.str (Txt.join a ys)) H) := by
  intro pins s σ H x xs v us Q I rx rs h
  obtain ⟨a, p, ys, rfl, rfl, hp, hz, h⟩ := h
  obtain ⟨t, rfl⟩ := rx
  cases rs with
  | cons r1 rs =>
    cases rs
    cases r1
    rcases hp with hp | hp
    · obtain ⟨its, r, ⟨o, n, ho, hc, _, hd⟩, _⟩ := I.list hp
      exact PyProof.Rows.join_list (items := its.toArray) ⟨o, ho, hc, n, hd⟩ (by rw [List.toList_toArray]; exact strs_of_vals r) hz fun t' k => ⟨.str _, H, I.tok k, ⟨t', rfl⟩, h⟩
    · obtain ⟨its, r, ht, _⟩ := I.tuple hp
      exact PyProof.Rows.join_tuple (items := its.toArray) ht (by rw [List.toList_toArray]; exact strs_of_vals r) hz fun t' k => ⟨.str _, H, I.tok k, ⟨t', rfl⟩, h⟩

/-! ### of a text alone -/

/-! ### of a text and a text -/
theorem mt1 {id : String} {g : Str → Str → V} (rule : ∀ (a b : Str) (t u : Tok) (s : Shared) (Q : Value → Shared → Prop), (∀ (v : Value) (k : Nat), RelV (g a b) v → Q v { s with toks := k }) →
    wpAny (model X.prog X.w) X.A (call (.builtin id) [.str a t, .str b u]) Q X.xe s) : MtR X id (fun x xs H Q => ∃ a b, x = .str a ∧ xs = [.str b] ∧ Q (g a b) H) := by
  intro pins s σ H x xs v us Q I rx rs h
  obtain ⟨a, b, rfl, rfl, h⟩ := h
  obtain ⟨t, rfl⟩ := rx
  cases rs with
  | cons r1 rs =>
    cases rs
    obtain ⟨u, rfl⟩ := r1
    exact rule a b t u s _ fun v k r => ⟨g a b, H, I.tok k, r, h⟩
theorem mt_count : MtR X "str.count" (fun x xs H Q => ∃ a b, x = .str a ∧ xs = [.str b] ∧ Q (.int (Txt.count a b)) H) :=
  mt1 (g := fun a b => .int (Txt.count a b)) fun _ _ _ _ s _ h => PySem.SC.count (h _ (s.toks + 1) ⟨_, rfl⟩)

end

section
variable {X : Cx} {o e : Expr} {to te : TE}
def tM0 (r : V → List V → Hp → VK → Prop) (to : TE) : TE := fun σ H Q => to σ H fun x H1 => (∃ a, x = .str a) ∧ r x [] H1 Q
def tM1 (r : V → List V → Hp → VK → Prop) (to te : TE) : TE := fun σ H Q => to σ H fun x H1 => (∃ a, x = .str a) ∧ te σ H1 fun y H2 => r x [y] H2 Q
theorem pe_m1 {id : String} {name : Str} {apos pos : Pos} {r : V → List V → Hp → VK → Prop} (slot : Slot "str" name id) (ty : typeOf (.builtin id) = pure (.type "method_descriptor")) (rule : MtR X id r) (ho : PE X o to) (he : PE X e te)
    (hs : starEach [e] X.env = [(false, eval e X.env)] := by rfl) (hbase : attributeBase o name X.env (eval o X.env) = eval o X.env := by rfl) (hline : (apos.endLine == pos.line) = true := by rfl) :
    PE X (.Call (.Attribute o name apos) [e] [] pos) (tM1 r to te) := by
  intro pins s σ H Q I h
  refine PySem.Call_method1 hbase hs hline (thn (ho pins s σ H _ I h) fun v s1 ⟨x, H1, I1, r1, q1⟩ => ?_)
  obtain ⟨⟨a, rfl⟩, q1⟩ := q1
  obtain ⟨t, rfl⟩ := _root_.id r1
  refine ⟨"str", _, F.plainAttrs_str, slot, ty, typeIs_str _ _ _, (fun _ e => nomatch e), Calls.callWith_builtin rfl (Calls.evalArgs_plain (Calls.spliced_cons ?_))⟩
  exact thn (he pins s1 σ H1 _ I1 q1) fun u s2 ⟨y, H2, I2, r2, q2⟩ => Calls.spliced_nil (rule pins s2 σ H2 _ [y] _ [u] Q I2 r1 (.cons r2 .nil) q2)

theorem pe_split {apos pos : Pos} (ho : PE X o to) (he : PE X e te) (hs : starEach [e] X.env = [(false, eval e X.env)] := by rfl) (hbase : attributeBase o "split" X.env (eval o X.env) = eval o X.env := by rfl) (hline : (apos.endLine == pos.line) = true := by rfl) :
    PE X (.Call (.Attribute o "split" apos) [e] [] pos) (tM1 (fun x xs H Q => ∃ a b, x = .str a ∧ xs = [.str b] ∧ (b.length == 0) = false ∧ a.length + 2 ≤ sizeLine ∧ rNewStrs (Txt.split a b) H Q) to te) :=
  pe_m1 F.slot_str_split F.type_str_split mt_split ho he hs hbase hline
theorem pe_join {apos pos : Pos} (ho : PE X o to) (he : PE X e te) (hs : starEach [e] X.env = [(false, eval e X.env)] := by rfl) (hbase : attributeBase o "join" X.env (eval o X.env) = eval o X.env := by rfl) (hline : (apos.endLine == pos.line) = true := by rfl) :
    PE X (.Call (.Attribute o "join" apos) [e] [] pos) (tM1 (fun x xs H Q => ∃ a p, ∃ ys : List Str, x = .str a ∧ xs = [.ref p] ∧ (SqL X.K H p (ys.map V.str) ∨ SqT X.K H p (ys.map V.str)) ∧
      (ys.map (·.length)).sum + ys.length * a.length ≤ 16777216 ∧ Q (.str (Txt.join a ys)) H) to te) :=
  pe_m1 F.slot_str_join F.type_str_join mt_join ho he hs hbase hline
end
end L2

namespace L2
open PySem PySem.Spec PyProof.Rows

section
variable {X : Cx}
end

/-! ### slices of a text -/
theorem IsPart.raw {v : Value} {o : Option Int} (p : IsPart v o) : ∃ l : Option (Int × Tok), v = partValue l ∧ l.map (·.1) = o := by
  cases p with
  | none => exact ⟨none, rfl, rfl⟩
  | int i t => exact ⟨some (i, t), rfl, rfl⟩

/-- a part, clipped, as the text's slice reckons it -/
def clipS (n d : Nat) : Option Int → Int
  | none => (d : Int)
  | some i => max 0 (min (if i < 0 then i + (n : Int) else i) (n : Int))
theorem clipS_eq (n d : Nat) (o : Option Int) : clipS n d o = ((HT.sIx n d o : Nat) : Int) := by
  cases o with
  | none => rfl
  | some v =>
    show max (0 : Int) (min (if v < 0 then v + (n : Int) else v) (n : Int)) = (((if v < 0 then (v + (n : Int)).toNat else min v.toNat n) : Nat) : Int)
    by_cases hv : v < 0
    · simp only [if_pos hv]
      omega
    · simp only [if_neg hv]
      omega
theorem sidx_clip (a b : Option Int) (n : Nat) : Builtin.Str.strSliceIndices a b 1 n = sliceRange (clipS n 0 a) (clipS n n b) 1 := by
  have h1 : ((1 : Int) > 0) = True := by simp
  cases a <;> cases b <;> first
    | rfl
    | (simp only [Builtin.Str.strSliceIndices, clipS, h1, if_true]; rfl)
    | simp [Builtin.Str.strSliceIndices, clipS]
theorem sidx (a b : Option Int) (n : Nat) : Builtin.Str.strSliceIndices a b 1 n = (List.range (HT.sIx n n b - HT.sIx n 0 a)).map (fun k => HT.sIx n 0 a + k) := by
  rw [sidx_clip, clipS_eq, clipS_eq]
  generalize HT.sIx n 0 a = p
  generalize HT.sIx n n b = q
  simp only [sliceRange, show ((1 : Int) > 0) = True from by simp, if_true]
  by_cases hlt : (p : Int) < q
  · have e3 : (((q : Int) - p + 1 - 1) / 1).toNat = q - p := by first | omega | (simp; done) | (simp; omega)
    simp only [hlt, if_true, e3]
    refine List.map_congr_left fun k _ => ?_
    omega
  · have : q - p = 0 := by omega
    simp [hlt, this]

/-- z[lo:hi] -/
def cutS (z : Str) (lo hi : Option Int) : Str :=
  ⟨((z.cps.toList.drop (HT.sIx z.length 0 lo)).take (HT.sIx z.length z.length hi - HT.sIx z.length 0 lo)).toArray⟩
theorem sliceText_cut (z : Str) (lo hi : Option Int) : PySem.StrLaws.sliceText z lo hi = cutS z lo hi := by
  have h1 : HT.sIx z.length 0 lo ≤ z.length := HT.sIx_le _ _ (Nat.zero_le _) _
  have h2 : HT.sIx z.length z.length hi ≤ z.length := HT.sIx_le _ _ (Nat.le_refl _) _
  have hp : HT.sIx z.length 0 lo ≤ max (HT.sIx z.length 0 lo) (HT.sIx z.length z.length hi) := Nat.le_max_left _ _
  have hq : max (HT.sIx z.length 0 lo) (HT.sIx z.length z.length hi) ≤ z.length := Nat.max_le.mpr ⟨h1, h2⟩
  have hd : max (HT.sIx z.length 0 lo) (HT.sIx z.length z.length hi) - HT.sIx z.length 0 lo = HT.sIx z.length z.length hi - HT.sIx z.length 0 lo := by omega
  have e : Builtin.Str.strSliceIndices lo hi 1 z.length =
      Builtin.Str.strSliceIndices (some ((HT.sIx z.length 0 lo : Nat) : Int)) (some ((max (HT.sIx z.length 0 lo) (HT.sIx z.length z.length hi) : Nat) : Int)) 1 z.length := by
    rw [PySem.StrLaws.strSliceIndices_plain hp hq, hd, sidx]
  have e2 : PySem.StrLaws.sliceText z lo hi =
      PySem.StrLaws.sliceText z (some ((HT.sIx z.length 0 lo : Nat) : Int)) (some ((max (HT.sIx z.length 0 lo) (HT.sIx z.length z.length hi) : Nat) : Int)) := by
    unfold PySem.StrLaws.sliceText
    rw [e]
  rw [e2, PySem.StrLaws.sliceText_nat z hp hq, hd]
  rfl
theorem cutS_length (z : Str) (lo hi : Option Int) : (cutS z lo hi).length ≤ z.length := by
  show (((z.cps.toList.drop (HT.sIx z.length 0 lo)).take (HT.sIx z.length z.length hi - HT.sIx z.length 0 lo)).toArray).size ≤ z.cps.size
  rw [List.size_toArray, List.length_take, List.length_drop, Array.length_toList]
  omega
def rSlS : V → Option Int → Option Int → Hp → VK → Prop := fun x lo hi H Q => ∃ z, x = .str z ∧ z.length ≤ sizeLine ∧ Q (.str (cutS z lo hi)) H
theorem sl_str {X : Cx} : SlR X rSlS := by
  intro pins s σ H x v vl vu lo hi sl Q I rx hs pl pu h
  obtain ⟨z, rfl, hz, q⟩ := h
  obtain ⟨t, rfl⟩ := rx
  obtain ⟨os, hos, hcs, hds⟩ := hs
  obtain ⟨l, rfl, rfl⟩ := IsPart.raw pl
  obtain ⟨u, rfl, rfl⟩ := IsPart.raw pu
  refine ⟨"str", _, F.slot_str_getitem.lookup, typeIs_str _ _ _, ?_⟩
  refine wpAny_getItem_str_slice (l := l) (u := u) (st := none) ⟨os, hos, hcs, hds⟩ rfl ?_
  have hl : (PySem.StrLaws.sliceText z (l.map (·.1)) (u.map (·.1))).length ≤ sizeLine := by
    rw [sliceText_cut]
    exact Nat.le_trans (cutS_length z _ _) hz
  rw [← sliceText_cut] at q
  unfold PySem.StrLaws.sliceText at q hl
  show Made.post (if ((1 : Int) == 1 && (Builtin.Str.strSliceIndices (l.map (·.1)) (u.map (·.1)) 1 z.length).length == z.length) = true then Made.val (.str z t)
    else Made.str ⟨((Builtin.Str.strSliceIndices (l.map (·.1)) (u.map (·.1)) 1 z.length).filterMap (z.cps[·]?)).toArray⟩) (EP X pins σ Q) s
  by_cases c : ((1 : Int) == 1 && (Builtin.Str.strSliceIndices (l.map (·.1)) (u.map (·.1)) 1 z.length).length == z.length) = true
  · rw [if_pos c] at q ⊢
    exact ⟨.str z, H, I, ⟨t, rfl⟩, q⟩
  · rw [if_neg c] at q hl ⊢
    exact ⟨hl, .str _, H, I.tok _, ⟨_, rfl⟩, q⟩
end L2

namespace Att
open PySem PySem.W PySem.Calls PyProof.Rows

/-! ### the script -/
theorem ints_of_wellAll {P : Params} {h : Heap} : ∀ (ns : List Int) (vs : List Value), WellAll P h vs (ns.map WData.int) → IntsAre vs ns := by
  intro ns
  induction ns with
  | nil =>
    intro vs w
    rw [List.map_nil] at w
    cases w
    exact .nil
  | cons n ns ih =>
    intro vs w
    rw [List.map_cons] at w
    cases w with
    | cons a b =>
      cases a
      exact .cons _ _ (ih _ b)

theorem script_of {l : OpenLaw} {n : Nat} (hn : l.most = some n) {P : Params} {h : Heap} {args : List WData} {vals : List Value}
    (hpre : l.row.toRowW.claim.pre args = true) (hwl : WellAll P h vals args) :
    ∃ a vs ns, vals = [Value.ref a] ∧ args = [WData.list (ns.map WData.int)] ∧ h.get? a = some { cls := .type "list", data := .seq vs.toArray } ∧ IntsAre vs ns ∧ ns.length ≤ n := by
  have hsh : WShape.hasAll [] args [.list .int] = true := (pre_splitW hpre).1
  have hc : l.pre.holds [] { args := args } = true := (pre_splitW hpre).2
  obtain ⟨d, r, rfl, h1, h2⟩ := hasAllW_cons hsh
  obtain rfl := hasAllW_nil h2
  obtain ⟨xs, rfl, h3⟩ := hasW_list h1
  obtain ⟨ns, rfl⟩ := items_int h3
  have hlen : ns.length ≤ n := by
    unfold OpenLaw.pre at hc
    have h4 : (WTm.not (.lt (.lit (.int (n : Int))) (.len (.arg 0)))).holds [] { args := [.list (ns.map .int)] } = true := by
      have h4 := (holds_andW hc).1
      rw [hn] at h4
      exact h4
    have h5 := condW_of h4 (w_not (w_lt w_lit (w_len_list (w_arg rfl))))
    rw [List.length_map] at h5
    refine Nat.le_of_not_lt fun q => ?_
    have q' : (n : Int) < ((ns.length : Nat) : Int) := by omega
    first
      | (rw [decide_eq_true q'] at h5; exact absurd h5 (by decide))
      | (simp at h5; omega)
  cases hwl with
  | cons w1 w2 =>
    cases w2
    cases w1 with
    | list ho hall => exact ⟨_, _, ns, rfl, rfl, ho, ints_of_wellAll ns _ hall, hlen⟩

theorem post_true (l : OpenLaw) (args : List WData) : l.row.toRowW.claim.post args (.bool true) args = true :=
  postW_of (r := l.row.toRowW) (X := (true == true))
    (show WShape.has [] (.bool true) .bool = true by first | rfl | decide | simp [WShape.has, WShape.arms, WShape.armsAll])
    (show (WTm.eq .res (.lit (.bool true))).value [] { args := args, res := some (.bool true), after := args } = some (.bool (true == true)) from w_eq_bool (w_res rfl) w_lit) rfl

/-! ### the attachment: holds_open's last premise (the goal 'hc' behind k_head) from a wpAny of the law's body -/

/-- the same from a codeAny of the CALL (for a layer whose function contracts speak of calls) -/
theorem attach_call {l : OpenLaw} {n : Nat} {q : Program} {loose : List Str} {XP : (Str → Option Value) → Heap → Prop} {YP : World → Heap → Prop} {d : DefRec}
    (hn : l.most = some n) (hdf : d.params.defaults = [])
    (call : ∀ (w : World) (s₀ s₁ : Shared) (mg mb : Str → Option Value) (fa : Addr) (o : Obj) (pm cd doc : Value) (a : Addr) (vs : List Value) (ns : List Int),
      Ground q loose [] XP w s₀ mg mb s₁.heap → YP w s₁.heap →
      s₁.heap.get? fa = some o → o.data = .func (docDef d.name d.params d.body d.scope pm cd doc) → s₁.heap.CodeRec cd d.name → mg d.name = some (.ref fa) →
      s₁.heap.get? a = some { cls := .type "list", data := .seq vs.toArray } → IntsAre vs ns → ns.length ≤ n → s₁.gens = #[] →
      codeAny (model l.prog w) callerA (.call (.ref fa) ⟨[.ref a], []⟩) (fun r s' => r = .ok (.ret (.bool true)) ∧ OldK s₁.heap s'.heap ∧ s'.os = s₁.os ∧ AllBare s'.gens) s₁) :
    WalkO q loose XP YP l.row.toRowW d [] (fun f vs => PySem.call f vs) := by
  intro w s₀ s₁ mg mb G Y fa o pm cd doc dV kV ho hd hcd hD hmg hg args vals as hpre hlay hrd hwl hlo
  obtain rfl : dV = .none := Dflts.none hD hdf
  obtain rfl : kV = .none := Dflts.noKw hD
  obtain ⟨a, vs, ns, rfl, rfl, hobj, hints, hlen⟩ := script_of hn hpre hwl
  refine enter_call (codeAny_mono (call w s₀ s₁ mg mb fa o pm cd doc a vs ns G Y ho (fd_plain hd) hcd hmg hobj hints hlen hg) fun r s' hq => ?_)
  obtain ⟨rfl, h2, h3, h4⟩ := hq
  exact ⟨.inl ⟨.bool true, .bool true, [], rfl, fun _ => rfl, .bool true, post_true l _, fun _ => ⟨List.Pairwise.nil, fun _ hm => (nomatch hm)⟩⟩, h2, h3, h4⟩


/-! ### rules over ANY heap (no ledger) from facts about the written part K: the library's own take a ledger (News) for what they write -/
section
variable {prog : Program} {w : World} {A : Around} {E : Value → Shared → Prop} {s : Shared} {K : Frag}





/-! the whole heap as the ledger: makes every rule that writes through a ledger a rule over any heap -/
def noObjs (h : Heap) : Heap := { h with objs := #[] }
def ledger (h : Heap) (L d : Addr) : List (Addr × Obj) := (List.range h.objs.size).filterMap fun a => if a = L ∨ a = d then none else (h.get? a).map fun o => (a, o)

end
end Att

namespace L2
open PySem PySem.Spec PyProof.Rows

theorem vals_ints : ∀ {vs : List Value} {ns : List Int}, IntsAre vs ns → Vals (ns.map V.int) vs
  | _, _, .nil => .nil
  | _, _, .cons n t h => .cons ⟨t, rfl⟩ (vals_ints h)

/-- nothing is tracked but the script, known to the object (or it is an object of the module) -/
def Only (H : Hp) : Prop := ∀ b, H b = none ∨ ∃ o xs, H b = some (.frz o (.lst xs))

/-- THE HEAD: the law's promise, at the heap behind the top. F, the promise of the law's def, may use that base is part of the heap (so K.In base, base.Ns mainGlobals mg stand in Mod) -/
theorem law_call {P : Program} {w : World} {K : PySem.W.Frag} {mg mb : Str → Option Value} {CX : CXT} {k : Nat} {fa a : Addr} {fd : FuncData} {x : Str} {sp : Sp} {s₁ : Shared} {vs : List Value} {ns : List Int}
    (KX : K.In s₁.heap) (hns : s₁.heap.Ns mainGlobals mg) (hb : s₁.heap.Ns builtinsNs mb) (hbb : ∀ x : Str, x ≠ "__name__" → mb x = bootBuiltins x) (hlim : s₁.heap.NoLimit) (hg : s₁.gens = #[])
    (ha : s₁.heap.get? a = some { cls := .type "list", data := .seq vs.toArray }) (hi : IntsAre vs ns) (hl : ns.length ≤ sizeLine) (hr : Room k callerA)
    (F : ∀ base : Heap, K.In base → base.Ns mainGlobals mg → FnOk P w K mg base CX k fa fd [x] sp) (hbind : ∀ (s : Shared) (u : Value), BindsTo s fd ⟨[u], []⟩ [(x, u)])
    (hsp : ∀ H : Hp, Only H → SqL K H a (ns.map V.int) → sp [.ref a] H (fun v _ => v = .bl true) fun _ _ _ => False)
    (hCX : ∀ H e s', CX [] H s₁ (fun _ _ _ => False) e s' → False) :
    codeAny (model P w) callerA (.call (.ref fa) ⟨[.ref a], []⟩) (fun r s' => r = .ok (.ret (.bool true)) ∧ OldK s₁.heap s'.heap ∧ s'.os = s₁.os ∧ AllBare s'.gens) s₁ := by
  have rv := vals_ints hi
  have lenV := hi.length
  -- from an abstract heap in which nothing but the script may be tracked
  have core : ∀ H : Hp, Only H → SqL K H a (ns.map V.int) → HOk P w H s₁.heap → (∀ b, H b ≠ none → b = a) → (H a ≠ none → K.lookup a = none) →
      codeAny (model P w) callerA (.call (.ref fa) ⟨[.ref a], []⟩) (fun r s' => r = .ok (.ret (.bool true)) ∧ OldK s₁.heap s'.heap ∧ s'.os = s₁.os ∧ AllBare s'.gens) s₁ := by
    intro H hO hS hok hA hK
    have base_of : ∀ {b : Addr} {o : Obj}, s₁.heap.get? b = some o → H b = none → (hidT s₁.heap H).get? b = some o := fun e n => hidT_get e n
    have noA : ∀ {b : Addr} {o : Obj} {es : Array DictEntry} {ep : Nat}, s₁.heap.get? b = some o → o.data = .dict es ep → H b = none := fun {b o es ep} e d => by
      cases q : H b with
      | none => rfl
      | some u =>
        have e' : b = a := hA b (by rw [q]; simp)
        subst e'
        rw [ha] at e; cases e
        have d' : Data.seq vs.toArray _ = Data.dict es ep := d
        cases d'
    have nsK : ∀ {b : Addr} {m : Str → Option Value}, s₁.heap.Ns b m → (hidT s₁.heap H).Ns b m := fun {b m} ⟨o, es, ep, e, d, r⟩ => ⟨o, es, ep, base_of e (noA e d), d, r⟩
    have hKb : K.In (hidT s₁.heap H) := fun b o e => base_of (KX b o e) (by
      cases q : H b with
      | none => rfl
      | some u =>
        have e' : b = a := hA b (by rw [q]; simp)
        subst e'
        rw [hK (by rw [q]; simp)] at e; cases e)
    have hM : Mod K mg (hidT s₁.heap H) := ⟨hKb, nsK hns, ⟨mb, nsK hb, hbb⟩, let ⟨mc, h1, h2⟩ := hlim; ⟨mc, nsK h1, h2⟩⟩
    have e0 : Env0 P w K mg (hidT s₁.heap H) callerA [] s₁ H := ⟨rfl, hM, fun b o e => of_hidT e, Nat.le_of_eq (hidT_size _ _), trivial, fun b hb => absurd (show b ∈ ([] : List Addr) from hb) (by simp), hok, .of_eq hg⟩
    refine codeAny_mono ((F _ hKb (nsK hns)).run callerA [] s₁ H ⟨[.ref a], []⟩ [.ref a] [.ref a] _ _ hr e0 (hbind s₁ (.ref a)) (.cons rfl .nil) (hsp H hO hS)) fun r s' h => ?_
    cases r with
    | error e => exact (hCX H e s' h).elim
    | ok fl =>
      cases fl with
      | next => exact False.elim h
      | brk => exact False.elim h
      | cont => exact False.elim h
      | ret u =>
        obtain ⟨v, H', os, bare, un, hok', r', q⟩ := h
        have q' : v = .bl true := q
        subst q'
        obtain rfl : u = Value.bool true := r'
        refine ⟨rfl, OldK.of_keep fun b o e => ?_, os, bare⟩
        cases q : H b with
        | none => exact un.keep b o e q (by intro z; exact absurd (show b ∈ ([] : List Addr) from z) (by simp)) (by simp)
        | some u =>
          rcases hO b with z | ⟨ob, xs, z⟩
          · rw [q] at z; cases z
          · have z2 := un.frzs b ob _ z
            obtain ⟨e1, _⟩ := hok b _ z
            obtain ⟨e2, _⟩ := hok' b _ z2
            rw [e] at e1; cases e1
            exact e2
  cases hk : K.lookup a with
  | some o =>
    -- the script is one of the module's own objects
    have e := KX a o hk
    rw [ha] at e
    cases e
    refine core (fun _ => none) (fun _ => .inl rfl) (.inr ⟨_, vs.toArray, _, hk, rfl, rfl, rfl, by rw [List.size_toArray, lenV]; exact hl, by simpa using rv⟩) (fun b u z => by have z' : (none : Option HO) = some u := z; cases z') (fun b z => absurd rfl z) fun z => absurd rfl z
  | none =>
    refine core (fun b => if b = a then some (.frz { cls := .type "list", data := .seq vs.toArray } (.lst (ns.map V.int))) else none) (fun b => ?_) (.inl (.inr ⟨{ cls := .type "list", data := .seq vs.toArray }, if_pos rfl⟩)) (fun b u z => ?_) (fun b z => ?_) fun _ => hk
    · by_cases hb : b = a
      · exact .inr ⟨_, _, if_pos hb⟩
      · exact .inl (if_neg hb)
    · by_cases hb : b = a
      · have z' := (if_pos hb).symm.trans z
        cases z'
        subst hb
        exact ⟨ha, by rw [List.length_map]; exact hl, vs, _, rv, ha⟩
      · have z' := (if_neg hb).symm.trans z
        cases z'
    · by_cases hb : b = a
      · exact hb
      · exact absurd (if_neg hb) z
end L2

namespace L2
open PySem PySem.Spec PyProof.Rows

abbrev KOf {K : PySem.W.Frag} {h : Heap} (_ : K.In h) : PySem.W.Frag := K

/-- the goal that k_head leaves (case hc), from the law's promise. F gives the function object fd (K's own) once, then the promise over every base -/
theorem walk_of {l : PySem.W.OpenLaw} {n k : Nat} {q : Program} {loose : List Str} {XP : (Str → Option Value) → Heap → Prop} {YP : World → Heap → Prop} {d : DefRec} {K : Params → PySem.W.Frag} {CX : World → CXT} {sp : World → Sp} {x : Str}
    (hn : l.most = some n) (hn2 : n ≤ sizeLine) (hdf : d.params.defaults = []) (hr : Room k callerA)
    (hY : ∀ (w : World) (h : Heap), YP w h → (K w.params).In h)
    (F : ∀ (w : World) (mg : Str → Option Value) (fa : Addr) (h : Heap), (K w.params).In h → h.Ns mainGlobals mg → mg d.name = some (.ref fa) →
      ∃ fd : FuncData, (∀ (s : Shared) (u : Value), BindsTo s fd ⟨[u], []⟩ [(x, u)]) ∧
        ∀ base : Heap, (K w.params).In base → base.Ns mainGlobals mg → FnOk l.prog w (K w.params) mg base (CX w) k fa fd [x] (sp w))
    (hsp : ∀ (w : World) (H : Hp) (a : Addr) (ns : List Int), ns.length ≤ n → Only H → SqL (K w.params) H a (ns.map V.int) → sp w [.ref a] H (fun v _ => v = .bl true) fun _ _ _ => False)
    (hCX : ∀ (w : World) (H : Hp) (s : Shared) (e : Value) (s' : Shared), CX w [] H s (fun _ _ _ => False) e s' → False) :
    PySem.W.WalkO q loose XP YP l.row.toRowW d [] (fun f vs => PySem.call f vs) := by
  refine Att.attach_call hn hdf fun w s₀ s₁ mg mb fa o pm cd doc a vs ns G Y ho hd hcd hmg hobj hints hlen hg => ?_
  have KX := hY w _ Y
  obtain ⟨fd, hb, hF⟩ := F w mg fa _ KX G.T.g hmg
  exact law_call KX G.T.g G.T.b G.T.builtins G.T.nolimit hg hobj hints (Nat.le_trans hlen hn2) hr hF hb (fun H hO hS => hsp w H a ns hlen hO hS) fun H e s' => hCX w H s₁ e s'
end L2

/- THE LAST THEOREM (shape; LID, My.* are yours):
   My.Adr: a structure of the addresses that your layer names (classes, functions); My.Txt K t: a structure (Prop) of the equations over K;
   My.txt_mk : {K} {implicit addresses ..} (e1 : nsIn K mainGlobals "law" = some (some (.ref f))) (e2 : K.lookup f = some ⟨oc, od, .func (fnOf "law" "law" params body scope dV kV doc pm an cdv ct), sl⟩) (e3 : codeIn K cdv "law" = true) .. : ∃ t, My.Txt K t

set_option maxRecDepth 100000 in
set_option maxHeartbeats 0 in
theorem PySem.Challenge.cw_LID_holds : PySem.Challenge.rw_LID.Holds := by
  w_on; o_law; k_head; (case hw => w_witness2)
  k_fill
  refine L2.walk_of (l := PySem.Challenge.rw_LID) (n := 63) (k := 40) (x := "script") (CX := fun w => ..) (sp := fun _ => My.sp_law) rfl (by decide) rfl ⟨rfl, by decide, by decide⟩ (fun w h Y => PySem.W.kIn_of Y) ?F ?S ?C
  case F =>
    intro w mg fa h KX G hmg
    have T : ∃ t, My.Txt (L2.KOf KX) t := by
      dsimp only [L2.KOf]                          -- K must stand as «<heap const> w.params» for k_is
      refine' My.txt_mk ?e1 ?e2 ?e3 ..
      (case e1 => PySem.W.k_is)                    -- in the order: a name -> its address -> its object -> its parts
      (case e2 => PySem.W.k_is)
      ..
    obtain ⟨t, T⟩ := T
    have e0 := hmg.symm.trans (PySem.W.mg_of KX G T.law)
    cases e0                                       -- fa is the law's own address
    exact ⟨_, fun s u => .of_eq rfl, fun base kb nb => My.law_fn T kb nb⟩     -- if «.of_eq rfl» comes too early: refine' ⟨_, ?b, fun base kb nb => My.law_fn T kb nb⟩; exact fun s u => .of_eq rfl
  case S => exact fun w H a ns hl hO hS => ..
  case C => exact ..
(the tactic k_is has no namespace: write k_is) -/

/-! SHORT WORDS over the layer: a def of the text, its body, what a loop and a test want. -/
namespace L2
open PySem PySem.Spec PyProof.Rows

/-! ### the text by places -/
/-- the j-th statement of a class's body -/
def inClass (s : Stmt) (j : Nat) : Stmt := match s with
  | .ClassDef _ _ _ body _ _ _ _ _ _ _ => body.getD j (.Pass ⟨0, 0, 0, 0⟩)
  | _ => .Pass ⟨0, 0, 0, 0⟩
def defArgs (s : Stmt) : Arguments := match s with
  | .FunctionDef _ a _ _ _ _ _ _ _ _ => a
  | _ => { posonlyargs := [], args := [], vararg := none, kwonlyargs := [], kw_defaults := [], kwarg := none, defaults := [] }
def defBody (s : Stmt) : List Stmt := match s with
  | .FunctionDef _ _ b _ _ _ _ _ _ _ => b
  | _ => []
def defScope (s : Stmt) : Scope := match s with
  | .FunctionDef _ _ _ _ _ _ sc _ _ _ => sc
  | _ => { kind := .function, names := [], isGenerator := false, isCoroutine := false }

/-! ### no exception leaves a def -/
abbrev CX0 : CXT := fun _ _ _ _ _ _ => False
abbrev E0 : XK := fun _ _ _ => False
theorem pass0 {X : Cx} : Passes CX0 X E0 := fun _ _ _ _ _ _ _ h => h.elim

/-! ### a def (or method) of the text as it stands behind the top -/
structure Fun (K : PySem.W.Frag) (x qual : Str) (st : Stmt) (f : Addr) (fd : FuncData) : Prop where
  ex : ∃ (oc : Value) (od : Option Addr) (kV doc pm : Value) (an : Option Addr) (cdv ct : Value) (osl : Array (Option Value)),
    fd = PySem.W.fnOf x qual (defArgs st) (defBody st) (defScope st) .none kV doc pm an cdv ct ∧ K.lookup f = some ⟨oc, od, .func fd, osl⟩ ∧ PySem.W.codeIn K cdv qual = true
  kp : PySem.W.keepIn K (.ref f) = true
section
variable {P : Program} {w : World} {K : PySem.W.Frag} {mg : Str → Option Value} {base : Heap}
/-- THE RULE for a def: its body as a term of rules, and the reading of that term -/
theorem Fun.ok {x qual : Str} {st : Stmt} {f : Addr} {fd : FuncData} {N ps : List Str} {k : Nat} {sp : Sp} (F : Fun K x qual st f fd) (S : FnScope N ps (defScope st)) (len : ∀ vs H Q E, sp vs H Q E → vs.length = ps.length)
    (hbody : ∀ (cdv : Value) (A : Around) (outer : List Env) (s : Shared) (H : Hp) (vs : List V) (Q : VK) (E : XK), Room k (A.deeper (envOfC qual (defScope st) s.heap.objs.size f cdv)) → sp vs H Q E →
      ∃ t, PSs (cxOf CX0 P w K mg base N qual (defScope st) f cdv A outer s H E).nox (defBody st) t ∧ t { nx := fun _ H' => Q .non H', rt := Q } (start N vs) H) : FnOk P w K mg base CX0 (k + 1) f fd ps sp := by
  obtain ⟨oc, od, kV, doc, pm, an, cdv, ct, osl, rfl, lk, hcd⟩ := F.ex
  refine fn_of lk hcd S len fun A outer s H vs Q E hr hsp => ?_
  obtain ⟨t, h, q⟩ := hbody cdv A outer s H vs Q E hr hsp
  exact ⟨t, h.nox, q⟩
/-- how its arguments bind (no defaults): h is «fun _ _ _ _ _ _ us hl => match us, hl with | [_, _], _ => rfl», one _ a parameter -/
theorem Fun.binds {x qual : Str} {st : Stmt} {f : Addr} {fd : FuncData} {ps : List Str} (F : Fun K x qual st f fd)
    (h : ∀ (kV doc pm : Value) (an : Option Addr) (cdv ct : Value) (us : List Value), us.length = ps.length → bindArgs (PySem.W.fnOf x qual (defArgs st) (defBody st) (defScope st) .none kV doc pm an cdv ct) ⟨us, []⟩ = pure (ps.zip us)) : Binds K fd ps [] := by
  obtain ⟨oc, od, kV, doc, pm, an, cdv, ct, osl, rfl, lk, hcd⟩ := F.ex
  exact .all (h kV doc pm an cdv ct)
theorem fun_mk {x qual : Str} {st : Stmt} {f : Addr} {oc : Value} {od an : Option Addr} {osl : Array (Option Value)} {kV doc pm cdv ct : Value} (l : K.lookup f = some ⟨oc, od, .func (PySem.W.fnOf x qual (defArgs st) (defBody st) (defScope st) .none kV doc pm an cdv ct), osl⟩)
    (c : PySem.W.codeIn K cdv qual = true) (k : PySem.W.keepIn K (.ref f) = true) : Fun K x qual st f (PySem.W.fnOf x qual (defArgs st) (defBody st) (defScope st) .none kV doc pm an cdv ct) := ⟨⟨oc, od, kV, doc, pm, an, cdv, ct, osl, rfl, l, c⟩, k⟩
end
theorem small1000 {n : Nat} (h : n ≤ 1000) : n < sizeLine := Nat.lt_of_le_of_lt h (by decide)

/-! ### expressions in short: the name that stands in the i-th slot -/
section
variable {X : Cx}
theorem pv (i : Nat) {x : Str} {pos : Pos} (hN : X.N[i]? = some x := by rfl) (hv : Vis X.env.scope x := by first | exact Or.inl rfl | exact Or.inr (Or.inl rfl) | exact Or.inr (Or.inr rfl)) (hd : (x == ("__debug__" : Str)) = false := by decide)
    (hcd : (x == ("__classdict__" : Str)) = false := by decide) : PE X (.Name x pos) (tVar i) := pe_var hN hv hd hcd
end

/-! ### tests -/
theorem iteF {A B : Prop} (h : B) : if false = true then A else B := by
  rw [if_neg Bool.false_ne_true]
  exact h
theorem iteT {A B : Prop} (h : A) : if true = true then A else B := by
  rw [if_pos rfl]
  exact h
theorem ite2 {c A B : Prop} [Decidable c] (h1 : c → A) (h2 : ¬ c → B) : if c then A else B := by
  by_cases h : c
  · rw [if_pos h]
    exact h1 h
  · rw [if_neg h]
    exact h2 h
theorem iteNS {c A B : Prop} [Decidable c] (hc : c) (h : B) : if (!decide c) = true then A else B := by
  rw [decide_eq_true hc]
  exact iteF h

/-! ### heaps -/
/-- all that was tracked is as it was -/
def Same (H H' : Hp) : Prop := ∀ b o, H b = some o → H' b = some o
theorem Same.refl (H : Hp) : Same H H := fun _ _ h => h
theorem Same.trans {H H1 H2 : Hp} (a : Same H H1) (b : Same H1 H2) : Same H H2 := fun c o h => b c o (a c o h)
theorem Same.free {H H' : Hp} (e : Same H H') {l : Addr} (h : H' l = Option.none) : H l = Option.none := by
  cases q : H l with
  | none => rfl
  | some o =>
    rw [e l o q] at h
    cases h
theorem Same.seq {K : PySem.W.Frag} {H H' : Hp} {a : Addr} {xs : List V} (e : Same H H') (h : SqL K H a xs) : SqL K H' a xs := by
  rcases h with (h | ⟨o, h⟩) | h
  · exact .inl (.inl (e _ _ h))
  · exact .inl (.inr ⟨o, e _ _ h⟩)
  · exact .inr h

/-! ### a dict's pairs: keys that differ -/
section
variable {κ : Type} [DecidableEq κ]
end
/-! ### lists -/
theorem at_of {xs : List V} {z : Int} {j : Nat} {v : V} (e : z = (j : Int)) (h : xs[j]? = some v) : atI xs z = some v := by
  rw [e]
  exact atI_nat h
end L2

end
section
set_option maxHeartbeats 4000000
namespace HdT
open PySem PySem.W
def topRunT (tb : String → Option Builtin) (p : Program) (w : World) (n₀ : Nat) (ann : Option Value) : Nat → SharedT → Thread → Option SharedT
  | 0, _, _ => none
  | n + 1, s, t => match through t with
    | true => some s
    | false => match stepOk n₀ ann t with
      | false => none
      | true => match stepT (denote tb) p w s t with
        | some (s', t') => topRunT tb p w n₀ ann n s' t'
        | none => none
theorem topRun_of {tb : String → Option Builtin} {p : Program} {w : World} {n₀ : Nat} {ann : Option Value} : ∀ {n : Nat} {s s' : SharedT} {t : Thread}, topRunT tb p w n₀ ann n s t = some s' → topRun tb p w n₀ ann n s.abs t = some s'.abs
  | 0, _, _, _, h => by cases h
  | n + 1, s, s', t, h => by
    unfold topRunT at h
    unfold topRun
    cases he : through t with
    | true => rw [he] at h; cases h; rfl
    | false =>
      rw [he] at h
      cases hk : stepOk n₀ ann t with
      | false => rw [hk] at h; cases h
      | true =>
        rw [hk] at h
        cases hs : stepT (denote tb) p w s t with
        | none => rw [hs] at h; cases h
        | some r => obtain ⟨s₂, t₂⟩ := r; rw [hs] at h; rw [stepT_spec hs]; exact topRun_of h
noncomputable def bootTree (P : Params) : BT :=
  .node (boot_o_0 P) (.node (boot_o_1 P) (.node (boot_o_3 P) (.node (boot_o_7 P) .nil .nil) .nil) (.node (boot_o_5 P) (.node (boot_o_9 P) .nil .nil) .nil))
    (.node (boot_o_2 P) (.node (boot_o_4 P) (.node (boot_o_8 P) .nil .nil) .nil) (.node (boot_o_6 P) (.node (boot_o_10 P) .nil .nil) .nil))
noncomputable def bootLife (P : Params) : Life := (boot_heap P).life
theorem boot_is (P : Params) : absHeap (bootTree P) 11 (bootLife P) = boot_heap P := rfl
end HdT
namespace HdT
open PySem PySem.W
/-! an own run of the top: one recursor for a step, its branches closed words -/
structure Cx where
  p : Program
  w : World
  life : Life
  os : OsState
  n₀ : Nat
  ann : Option Value
abbrev RunF := BT → Nat → Drawn → Nat → Sem Fin → Code → Pos → List Frame → Option SharedT
abbrev Mo := RunF → Cx → BT → Nat → Drawn → Nat → Code → Pos → List Frame → Option SharedT
noncomputable def getN (v : Obj) (_l _r : BT) (gl gr : Nat → Option Obj) (i : Nat) : Option Obj :=
  @Bool.rec (fun _ => Option Obj) (@Bool.rec (fun _ => Option Obj) (gr (Nat.sub (Nat.div i 2) 1)) (gl (Nat.div i 2)) (Nat.beq (Nat.mod i 2) 1)) (some v) (Nat.beq i 0)
noncomputable def getO (_i : Nat) : Option Obj := none
noncomputable def getR (T : BT) : Nat → Option Obj := @BT.rec (fun _ => Nat → Option Obj) getO getN T
theorem getR_eq : ∀ (T : BT) (i : Nat), getR T i = T.get i
  | .nil, _ => rfl
  | .node v l r, i => by
    show getN v l r (getR l) (getR r) i = _
    unfold getN BT.get
    rw [getR_eq l, getR_eq r]
    cases h : Nat.beq i 0 with
    | true => rfl
    | false =>
      cases h2 : Nat.beq (Nat.mod i 2) 1 with
      | true => rfl
      | false => rfl
noncomputable def setN (v : Obj) (l r : BT) (gl gr : Nat → (Obj → Obj) → BT) (i : Nat) (f : Obj → Obj) : BT :=
  @Bool.rec (fun _ => BT) (@Bool.rec (fun _ => BT) (.node v l (gr (Nat.sub (Nat.div i 2) 1) f)) (.node v (gl (Nat.div i 2) f) r) (Nat.beq (Nat.mod i 2) 1)) (.node (f v) l r) (Nat.beq i 0)
noncomputable def setO (_i : Nat) (_f : Obj → Obj) : BT := .nil
noncomputable def setR (T : BT) : Nat → (Obj → Obj) → BT := @BT.rec (fun _ => Nat → (Obj → Obj) → BT) setO setN T
theorem setR_eq : ∀ (T : BT) (i : Nat) (f : Obj → Obj), setR T i f = T.set i f
  | .nil, _, _ => rfl
  | .node v l r, i, f => by
    show setN v l r (setR l) (setR r) i f = _
    unfold setN BT.set
    rw [setR_eq l, setR_eq r]
    cases h : Nat.beq i 0 with
    | true => rfl
    | false =>
      cases h2 : Nat.beq (Nat.mod i 2) 1 with
      | true => rfl
      | false => rfl
noncomputable def insN (v : Obj) (l r : BT) (gl gr : Nat → Obj → BT) (i : Nat) (o : Obj) : BT :=
  @Bool.rec (fun _ => BT) (@Bool.rec (fun _ => BT) (.node v l (gr (Nat.sub (Nat.div i 2) 1) o)) (.node v (gl (Nat.div i 2) o) r) (Nat.beq (Nat.mod i 2) 1)) (.node o l r) (Nat.beq i 0)
noncomputable def insO (_i : Nat) (o : Obj) : BT := .node o .nil .nil
noncomputable def insR (T : BT) : Nat → Obj → BT := @BT.rec (fun _ => Nat → Obj → BT) insO insN T
theorem insR_eq : ∀ (T : BT) (i : Nat) (o : Obj), insR T i o = T.ins i o
  | .nil, _, _ => rfl
  | .node v l r, i, o => by
    show insN v l r (insR l) (insR r) i o = _
    unfold insN BT.ins
    rw [insR_eq l, insR_eq r]
    cases h : Nat.beq i 0 with
    | true => rfl
    | false =>
      cases h2 : Nat.beq (Nat.mod i 2) 1 with
      | true => rfl
      | false => rfl
def keptOf : Step → List Value
  | .go _ ⟨_, _, _, .ret _ _ _ _ _ _ kept :: _⟩ => kept
  | _ => []
noncomputable def stepC (C : Cx) (d : Drawn) (k : Nat) (t : Thread) : Step := step (denote treeTable) C.p C.w ⟨{}, Array.mk [], d, k, C.os⟩ t
noncomputable def doneN (f : Flow) (run : RunF) (T : BT) (n : Nat) (d : Drawn) (k : Nat) (fr : Frame) (rest : List Frame) : Option SharedT :=
  @Frame.rec (fun _ => Option SharedT) (fun kk _ _ _ cd p _ => run T n d k (kk (.ok f)) cd p rest) (fun _ _ _ _ _ => none) fr
noncomputable def mDone (f : Flow) : Mo := fun run C T n d k _ _ stack =>
  @List.rec Frame (fun _ => Option SharedT) (some ⟨T, n, C.life, Array.mk [], d, k, C.os⟩) (fun fr rest _ => doneN f run T n d k fr rest) stack
noncomputable def agStack (C : Cx) (d : Drawn) (k : Nat) (c : Code) (code : Code) (pos : Pos) (stack : List Frame) : List Frame :=
  @List.rec Frame (fun _ => List Frame) [] (fun fr rest _ => @Frame.rec (fun _ => List Frame) (fun kk h g l cd p _ => .ret kk h g l cd p (keptOf (stepC C d k ⟨.pure (.again c), code, pos, stack⟩)) :: rest) (fun g kk l cd p => .gen g kk l cd p :: rest) fr) stack
noncomputable def agOk (c : Code) : Bool := match c with
  | .builtin id _ => !(id.startsWith "lifetime.")
  | _ => true
noncomputable def mAgain (c : Code) : Mo := fun run C T n d k code pos stack =>
  @Bool.rec (fun _ => Option SharedT) none (run T n d k (denote treeTable c) c pos (agStack C d k c code pos stack)) (agOk c)
noncomputable def mPure (a : Fin) : Mo := @PySem.Fin.rec (fun _ => Mo) mDone mAgain a
noncomputable def raiseN (e : Value) (run : RunF) (T : BT) (n : Nat) (d : Drawn) (k : Nat) (fr : Frame) (rest : List Frame) : Option SharedT :=
  @Frame.rec (fun _ => Option SharedT) (fun kk _ _ _ cd p _ => run T n d k (kk (.error e)) cd p rest) (fun _ _ _ _ _ => none) fr
noncomputable def mRaise (e : Value) : Mo := fun run _ T n d k _ _ stack =>
  @List.rec Frame (fun _ => Option SharedT) none (fun fr rest _ => raiseN e run T n d k fr rest) stack
noncomputable def mNo : Mo := fun _ _ _ _ _ _ _ _ _ => none
noncomputable def mUns (_ : String) : Mo := mNo
noncomputable def mFin (_ : Ending) : Mo := mNo
noncomputable def mRule (_ : String) (kk : Unit → Sem Fin) (_ : Unit → Mo) : Mo := fun run _ T n d k code pos stack => run T n d k (kk ()) code pos stack
noncomputable def mAt (p : Pos) (kk : Unit → Sem Fin) (_ : Unit → Mo) : Mo := fun run _ T n d k code _ stack => run T n d k (kk ()) code p stack
noncomputable def mLoad (a : Addr) (_ : Option Value) (kk : Obj → Sem Fin) (_ : Obj → Mo) : Mo := fun run _ T n d k code pos stack =>
  @Bool.rec (fun _ => Option SharedT) none
    (@Option.rec Obj (fun _ => Option SharedT) none (fun o => @Option.rec Obj (fun _ => Option SharedT) none (fun o' => run T n d k (kk o') code pos stack) (alive o)) (getR T a)) (Nat.blt a n)
noncomputable def okAt (n₀ : Nat) (ann : Option Value) (a : Addr) : Bool := Nat.ble n₀ a || a == mainNs || a == cStatics || ann == some (.ref a)
noncomputable def mUpd (a : Addr) (_ : Option Value) (f : Obj → Obj) (kk : Unit → Sem Fin) (_ : Unit → Mo) : Mo := fun run C T n d k code pos stack =>
  @Bool.rec (fun _ => Option SharedT) none
    (@Bool.rec (fun _ => Option SharedT) none
      (@Option.rec Obj (fun _ => Option SharedT) none (fun o => @Option.rec Obj (fun _ => Option SharedT) none (fun _ => run (setR T a f) n d k (kk ()) code pos stack) (alive o)) (getR T a)) (Nat.blt a n))
    (okAt C.n₀ C.ann a)
noncomputable def mAlloc (o : Obj) (kk : Addr → Sem Fin) (_ : Addr → Mo) : Mo := fun run _ T n d k code pos stack =>
  @Option.rec Obj (fun _ => Option SharedT) none (fun _ => run (insR T n o) (Nat.succ n) d k (kk n) code pos stack) (getR (insR T n o) n)
noncomputable def mLia (a : Addr) (kk : Option Obj → Sem Fin) (_ : Option Obj → Mo) : Mo := fun run _ T n d k code pos stack =>
  @Bool.rec (fun _ => Option SharedT) (run T n d k (kk none) code pos stack)
    (@Option.rec Obj (fun _ => Option SharedT) none (fun o => run T n d k (kk (alive o)) code pos stack) (getR T a)) (Nat.blt a n)
noncomputable def mPoint (_ : List Value) (kk : Unit → Sem Fin) (_ : Unit → Mo) : Mo := fun run _ T n d k code pos stack => run T n d k (kk ()) code pos stack
noncomputable def mReg (_ : Addr) (_ : Unit → Sem Fin) (_ : Unit → Mo) : Mo := mNo
noncomputable def mFresh (kk : Tok → Sem Fin) (_ : Tok → Mo) : Mo := fun run _ T n d k code pos stack => run T n d (Nat.succ k) (kk k) code pos stack
noncomputable def mAsk (kk : Setting → Sem Fin) (_ : Setting → Mo) : Mo := fun run C T n d k code pos stack => run T n d k (kk ⟨C.p, C.w.params⟩) code pos stack
noncomputable def mChoose (_ : Source) (_ : Nat) (_ : Nat → Sem Fin) (_ : Nat → Mo) : Mo := mNo
noncomputable def mOs (_ : OsRequest) (_ : List Value) (_ : OsReply → Sem Fin) (_ : OsReply → Mo) : Mo := mNo
noncomputable def mCall (c : Code) (h : Option Value) (g : Bool) (l : List Value) (kk : Result → Sem Fin) (_ : Result → Mo) : Mo := fun run C T n d k code pos stack =>
  run T n d k (denote treeTable c) c pos (.ret kk h g l code pos (keptOf (stepC C d k ⟨.call c h g l kk, code, pos, stack⟩)) :: stack)
noncomputable def mHandled (own : Bool) (kk : Option Value → Sem Fin) (_ : Option Value → Mo) : Mo := fun run _ T n d k code pos stack =>
  run T n d k (kk (topHandled (if own then (match splitAtGen stack with | some (fs, _, _) => fs | none => stack) else stack))) code pos stack
noncomputable def mNewGen (_ : Code) (_ : Nat → Sem Fin) (_ : Nat → Mo) : Mo := mNo
noncomputable def mGenState (_ : Nat) (_ : GenStatus × Option (List (Code × Pos)) → Sem Fin) (_ : GenStatus × Option (List (Code × Pos)) → Mo) : Mo := mNo
noncomputable def mResume (_ : Nat) (_ : Resume) (_ : List Value) (_ : GenResult → Sem Fin) (_ : GenResult → Mo) : Mo := mNo
noncomputable def mYield (_ : Value) (_ : Bool) (_ : List Value) (_ : Resume → Sem Fin) (_ : Resume → Mo) : Mo := mNo
noncomputable def mStack (kk : List (Code × Pos) → Sem Fin) (_ : List (Code × Pos) → Mo) : Mo := fun run _ T n d k code pos stack => run T n d k (kk ((code, pos) :: stack.map Frame.where_)) code pos stack
noncomputable def mFork (_ : Code) (_ : Nat → Sem Fin) (_ : Nat → Mo) : Mo := mNo
noncomputable def mThread (kk : Nat → Sem Fin) (_ : Nat → Mo) : Mo := fun run _ T n d k code pos stack => run T n d k (kk 0) code pos stack
noncomputable def mAwait (_ : Addr) (_ : Obj → Option Obj) (_ : Bool) (_ : List Value) (_ : Bool → Sem Fin) (_ : Bool → Mo) : Mo := mNo
noncomputable def moOf (s : Sem Fin) : Mo := @Sem.rec Fin (fun _ => Mo) mPure mRaise mUns mFin mRule mAt mLoad mUpd mAlloc mLia mPoint mReg mFresh mAsk mChoose mOs mCall mHandled mNewGen mGenState mResume mYield mStack mFork mThread mAwait s
noncomputable def runS (C : Cx) (_ : Nat) (run : RunF) : RunF := fun T n d k cur code pos stack => moOf cur run C T n d k code pos stack
noncomputable def runO : RunF := fun _ _ _ _ _ _ _ _ => none
noncomputable def runF (C : Cx) (N : Nat) : RunF := @Nat.rec (fun _ => RunF) runO (runS C) N
theorem topRunT_succ {tb : String → Option Builtin} {p : Program} {w : World} {n₀ : Nat} {ann : Option Value} {n : Nat} {s s' : SharedT} {t t' : Thread} (h : through t = false) (hk : stepOk n₀ ann t = true) (hs : stepT (denote tb) p w s t = some (s', t')) : topRunT tb p w n₀ ann (n + 1) s t = topRunT tb p w n₀ ann n s' t' := by
  conv => lhs; unfold topRunT
  rw [h]
  dsimp only
  rw [hk]
  dsimp only
  rw [hs]
theorem thr_no {cur : Sem Fin} {code : Code} {pos : Pos} {stack : List Frame} (h : through ⟨cur, code, pos, []⟩ = false) : through ⟨cur, code, pos, stack⟩ = false := by
  cases stack with
  | nil => exact h
  | cons a b => rfl
section
variable {C : Cx} {N : Nat} {T : BT} {n : Nat} {d : Drawn} {k : Nat} {code : Code} {pos : Pos} {stack : List Frame} {r : SharedT}
abbrev TR (C : Cx) (N : Nat) (T : BT) (n : Nat) (d : Drawn) (k : Nat) (t : Thread) : Option SharedT := topRunT treeTable C.p C.w C.n₀ C.ann N ⟨T, n, C.life, Array.mk [], d, k, C.os⟩ t
def Good (C : Cx) (N : Nat) (run : RunF) : Prop := ∀ (T : BT) (n : Nat) (d : Drawn) (k : Nat) (cur : Sem Fin) (code : Code) (pos : Pos) (stack : List Frame) (r : SharedT), run T n d k cur code pos stack = some r → TR C N T n d k ⟨cur, code, pos, stack⟩ = some r
theorem mo_of {run : RunF} (g : Good C N run) (cur : Sem Fin) (h : moOf cur run C T n d k code pos stack = some r) : TR C (N + 1) T n d k ⟨cur, code, pos, stack⟩ = some r := by
  cases cur with
  | unsupported | finish | register | choose | os | newGen | genState | resume | «yield» | fork | await => cases h
  | rule | point | fresh | thread => exact (topRunT_succ (thr_no rfl) rfl rfl).trans (g _ _ _ _ _ _ _ _ _ h)
  | «at» p kk => exact (topRunT_succ (thr_no rfl) rfl rfl).trans (g _ _ _ _ _ _ _ _ _ h)
  | ask kk => exact (topRunT_succ (thr_no rfl) rfl rfl).trans (g _ _ _ _ _ _ _ _ _ h)
  | handled own kk => exact (topRunT_succ (thr_no rfl) rfl rfl).trans (g _ _ _ _ _ _ _ _ _ h)
  | stack kk => exact (topRunT_succ (thr_no rfl) rfl rfl).trans (g _ _ _ _ _ _ _ _ _ h)
  | call c hd gd l kk =>
    refine (topRunT_succ (thr_no rfl) rfl ?_).trans (g _ _ _ _ _ _ _ _ _ h)
    cases c <;> cases code <;> rfl
  | load a q kk =>
    change mLoad a q kk (fun x => moOf (kk x)) run C T n d k code pos stack = some r at h
    unfold mLoad at h
    cases e : Nat.blt a n with
    | false => rw [e] at h; cases h
    | true =>
      rw [e, getR_eq] at h
      cases e2 : T.get a with
      | none => rw [e2] at h; cases h
      | some o =>
        rw [e2] at h
        cases e3 : alive o with
        | none => dsimp only at h; rw [e3] at h; cases h
        | some o' =>
          dsimp only at h; rw [e3] at h
          exact (topRunT_succ (thr_no rfl) rfl (by simp only [stepT, e, e2, e3])).trans (g _ _ _ _ _ _ _ _ _ h)
  | update a q f kk =>
    change mUpd a q f kk (fun x => moOf (kk x)) run C T n d k code pos stack = some r at h
    unfold mUpd at h
    cases e0 : okAt C.n₀ C.ann a with
    | false => rw [e0] at h; cases h
    | true =>
    rw [e0] at h
    dsimp only at h
    cases e : Nat.blt a n with
    | false => rw [e] at h; cases h
    | true =>
      rw [e, getR_eq] at h
      cases e2 : T.get a with
      | none => rw [e2] at h; cases h
      | some o =>
        rw [e2] at h
        cases e3 : alive o with
        | none => dsimp only at h; rw [e3] at h; cases h
        | some o' =>
          dsimp only at h; rw [e3, setR_eq] at h
          exact (topRunT_succ (thr_no rfl) (show stepOk C.n₀ C.ann ⟨.update a q f kk, code, pos, stack⟩ = true from e0) (by simp only [stepT, e, e2, e3])).trans (g _ _ _ _ _ _ _ _ _ h)
  | alloc o kk =>
    change mAlloc o kk (fun x => moOf (kk x)) run C T n d k code pos stack = some r at h
    unfold mAlloc at h
    rw [getR_eq, insR_eq] at h
    cases e : (T.ins n o).get n with
    | none => rw [e] at h; cases h
    | some x => rw [e] at h; exact (topRunT_succ (thr_no rfl) rfl (by simp only [stepT, e]; rfl)).trans (g _ _ _ _ _ _ _ _ _ h)
  | loadIfAlive a kk =>
    change mLia a kk (fun x => moOf (kk x)) run C T n d k code pos stack = some r at h
    unfold mLia at h
    cases e : Nat.blt a n with
    | false => rw [e] at h; exact (topRunT_succ (thr_no rfl) rfl (by simp only [stepT, e])).trans (g _ _ _ _ _ _ _ _ _ h)
    | true =>
      rw [e, getR_eq] at h
      cases e2 : T.get a with
      | none => rw [e2] at h; cases h
      | some o => rw [e2] at h; exact (topRunT_succ (thr_no rfl) rfl (by simp only [stepT, e, e2])).trans (g _ _ _ _ _ _ _ _ _ h)
  | raise e =>
    cases stack with
    | nil => cases h
    | cons fr rest =>
      cases fr with
      | gen => cases h
      | ret kk a b c cd p kp => exact (topRunT_succ (thr_no rfl) rfl rfl).trans (g _ _ _ _ _ _ _ _ _ h)
  | pure a =>
    cases a with
    | done f =>
      cases stack with
      | nil => exact h
      | cons fr rest =>
        cases fr with
        | gen => cases h
        | ret kk a b c cd p kp => exact (topRunT_succ rfl rfl rfl).trans (g _ _ _ _ _ _ _ _ _ h)
    | again c =>
      change mAgain c run C T n d k code pos stack = some r at h
      unfold mAgain at h
      cases e : agOk c with
      | false => rw [e] at h; cases h
      | true =>
        rw [e] at h
        refine (topRunT_succ (thr_no rfl) ?_ ?_).trans (g _ _ _ _ _ _ _ _ _ h)
        · cases c with
          | builtin id a =>
            show ((((!(id.startsWith "lifetime.") || _) && _) && _) && _) = true
            rw [show (!(id.startsWith "lifetime.")) = true from e]; rfl
          | _ => rfl
        · cases stack with
          | nil => cases c <;> cases code <;> rfl
          | cons fr rest => cases fr <;> cases c <;> cases code <;> rfl
theorem run_of : ∀ N : Nat, Good C N (runF C N)
  | 0 => fun _ _ _ _ _ _ _ _ _ h => by cases h
  | N + 1 => fun _ _ _ _ cur _ _ _ _ h => mo_of (run_of N) cur h
end
end HdT
namespace HdT
open PySem PySem.W
noncomputable def obsN (s : SharedT) (a : Addr) : Option Obj := @Bool.rec (fun _ => Option Obj) none (@Option.rec Obj (fun _ => Option Obj) none alive (getR s.tree a)) (Nat.blt a s.n)
noncomputable def obsT (as : List Addr) (s : SharedT) : List (Option Obj) := @List.rec Addr (fun _ => List (Option Obj)) [] (fun a _ ih => obsN s a :: ih) as
theorem obsN_eq {s : SharedT} {a : Addr} {o' : Obj} (h : obsN s a = some o') : s.abs.heap.get? a = some o' := by
  unfold obsN at h
  cases e : Nat.blt a s.n with
  | false => rw [e] at h; cases h
  | true =>
    rw [e, getR_eq] at h
    cases g : s.tree.get a with
    | none => rw [g] at h; cases h
    | some x => rw [g] at h; exact (abs_get (Nat.le_of_ble_eq_true e) g).trans h
theorem obsT_eq {s : SharedT} : ∀ {as : List Addr} {os : List (Addr × Obj)}, obsT as s = os.map (fun p => some p.2) → as.map s.abs.heap.get? = os.map fun p => some p.2
  | [], [], _ => rfl
  | [], _ :: _, h => by cases h
  | _ :: _, [], h => by cases h
  | a :: as, o :: os, h => by
    injection h with h1 h2
    rw [List.map_cons, List.map_cons, obsN_eq h1, obsT_eq h2]
end HdT
namespace HdT
open PySem PySem.W
def chkE (p : Program) (h₀ : Heap) (s : Shared) : Bool := staticsOk (importedModules p.main.body) h₀ s.heap && namesBound p s.heap && gensDone s && laidKept h₀ s.heap
theorem left_one {p q : Program} {loose : List Str} {Xt : Shared → Bool} {β1 β2 β3 : Type} {as : List Addr} {KF : Params → Frag} {N : Nat} {g0 : Bool} {E : World → OsState → Option SharedT} {L1 : Params → Shared → β1} {G1 : β1} {L2 : Params → Shared → β2} {G2 : β2} {L3 : Params → Shared → β3} {G3 : β3}
    (e : opening p = plainProg p.main.scope.names) (hN : Nat.ble 600 N = true) (f : ∀ s, fenceModules? p s = some s)
    (size : ∀ w : World, ((boot_heap w.params).isNs mainGlobals && (Array.mk [] : Array GenState).size == 0, (boot_heap w.params).objs.size, (boot_heap w.params).nsMap mainGlobals "__annotations__") = (true, 11, some (.ref 6)))
    (hE : ∀ w os s, E w os = some s → topRunT treeTable p w 11 (some (.ref 6)) N ⟨bootTree w.params, 11, bootLife w.params, Array.mk [], boot_drawn, boot_toks, os⟩ (topStub p) = some s)
    (hG : ∀ P s, L1 P s = G1 → L2 P s = G2 → L3 P s = G3 → chkE p (boot_heap P) s = true ∧ openSeen q loose (importedModules p.main.body) Xt g0 s = openGood q loose)
    (h1 : ∀ w os, (E w os).map (fun s => L1 w.params s.abs) = some G1) (h11 : ∀ w os, (E w os).map (fun s => L2 w.params s.abs) = some G2) (h12 : ∀ w os, (E w os).map (fun s => L3 w.params s.abs) = some G3) (h2 : ∀ w os, (E w os).map (fun s => obsT as s) = some ((KF w.params).map fun p => some p.2)) : LeftO p q loose Xt (fun s => as.map s.heap.get?) (fun w => (KF w.params).map fun p => some p.2) N g0 := fun w => by
  obtain ⟨⟨hp, gs, d, k, os⟩, e1, e'⟩ := Option.map_eq_some_iff.mp (boot_open e hN f w)
  obtain ⟨rfl, rfl, rfl, rfl⟩ : hp = boot_heap w.params ∧ gs = Array.mk [] ∧ d = boot_drawn ∧ k = boot_toks := by simpa using e'
  obtain ⟨z1, z2, z3⟩ : _ ∧ _ ∧ _ := by simpa only [Prod.mk.injEq] using size w
  obtain ⟨s, hs, l1⟩ := Option.map_eq_some_iff.mp (h1 w os)
  obtain ⟨s1, hs1, m1⟩ := Option.map_eq_some_iff.mp (h11 w os)
  obtain rfl : s = s1 := Option.some.inj (hs.symm.trans hs1)
  obtain ⟨s2, hs2, m2⟩ := Option.map_eq_some_iff.mp (h12 w os)
  obtain rfl : s = s2 := Option.some.inj (hs.symm.trans hs2)
  obtain ⟨s', hs', l3⟩ := Option.map_eq_some_iff.mp (h2 w os)
  obtain rfl : s = s' := Option.some.inj (hs.symm.trans hs')
  obtain ⟨l1, l2⟩ := hG _ _ l1 m1 m2
  have r := topRun_of (hE w os _ hs)
  have t : topFrom treeTable p w N ⟨boot_heap w.params, Array.mk [], boot_drawn, boot_toks, os⟩ = some s.abs := by
    unfold topFrom
    dsimp only
    rw [z1, z2, z3]
    have r' : topRun treeTable p w 11 (some (.ref 6)) N ⟨boot_heap w.params, Array.mk [], boot_drawn, boot_toks, os⟩ (topStub p) = some s.abs := by
      rw [← boot_is]; exact r
    rw [r']
    show (match chkE p (boot_heap w.params) s.abs with | true => _ | false => _) = _
    rw [l1]
  unfold openEnds
  rw [e1]
  show (topFrom treeTable p w N _).map _ = _
  rw [t]
  exact congrArg some (Prod.ext l2 (obsT_eq l3))
theorem boot_size (w : World) : ((boot_heap w.params).isNs mainGlobals && (Array.mk [] : Array GenState).size == 0, (boot_heap w.params).objs.size, (boot_heap w.params).nsMap mainGlobals "__annotations__") = (true, 11, some (.ref 6)) := by kernel_rfl
end HdT

end
section
set_option maxHeartbeats 4000000
namespace L2
open PySem PySem.Spec PyProof.Rows
/-- an exception's object: its class, its dict, its trace; no context -/
def ExAt (h : Heap) (e C : Addr) (d : Option Addr) (v1 : Value) : Prop :=
  ∃ oe vs, h.get? e = some oe ∧ oe.cls = .ref C ∧ oe.dict = d ∧ oe.data = .fields vs ∧ vs.size = 6 ∧ vs[1]? = some v1 ∧ vs[2]? = some .none
def TrAt (h : Heap) (T : Addr) (fl : Value) : Prop := ∃ oT ts, h.get? T = some oT ∧ oT.data = .fields ts ∧ ts[3]? = some fl
def Fl (h : Heap) (e C : Addr) (d : Option Addr) : Option Addr → Prop
  | none => ExAt h e C d .none
  | some T => ExAt h e C d (.ref T) ∧ TrAt h T .none ∧ T ≠ e
theorem ExAt.keep {h h' : Heap} {e C : Addr} {d : Option Addr} {v : Value} (x : ExAt h e C d v) (k : ∀ o, h.get? e = some o → h'.get? e = some o) : ExAt h' e C d v := by
  obtain ⟨oe, vs, a, b⟩ := x
  exact ⟨oe, vs, k _ a, b⟩
theorem ExAt.set1 {h : Heap} {e C : Addr} {d : Option Addr} {v v' : Value} {h' : Heap} {oe : Obj} (he : h.get? e = some oe) (x : ExAt h e C d v) (e' : h'.get? e = some (oe.mapFields (·.setIfInBounds 1 v'))) : ExAt h' e C d v' := by
  obtain ⟨o2, vs, a, c1, c2, c3, c4, c5, c6⟩ := x
  rw [he] at a; cases a
  refine ⟨_, _, e', (Obj.cls_mapFields _ _).trans c1, ?_, Obj.data_mapFields c3 _, by simp [c4], by simp [c4], ?_⟩
  · obtain ⟨k, dd, dt, sl⟩ := oe
    cases dt <;> first | exact c2 | cases c3
  · rw [Array.getElem?_setIfInBounds_ne (by decide)]; exact c6
section
variable {M : Model} {A : Around} {E : Value → Shared → Prop} {s : Shared}
theorem note_entry {base : Heap} {env : Env} {outer : List Env} {L e C : Addr} {d : Option Addr} {v1 head : Value} {nx : Bool} {Q : Unit → Shared → Prop}
    (hfr : A.frames = some (env :: outer)) (hl : s.heap.FunFrames base (env :: outer)) (hf : env.frame = some L) (hx : ExAt s.heap e C d v1)
    (k : ∀ h' T, s.heap.objs.size = T → (∀ b o, s.heap.get? b = some o → b ∉ frs (env :: outer) → b ≠ e → h'.get? b = some o) →
      (∀ b o, s.heap.get? b = some o → b ≠ e → ∃ sl, h'.get? b = some { o with slots := sl }) → ExAt h' e C d (.ref T) → TrAt h' T (rawInt L) → T ≠ e → Q () { s with heap := h' }) :
    wpAny M A (do let a ← frameOf env; let pl ← entryPlaceOf L nx; let b ← EntryCells.newEntry head a .none (rawInt L) .none pl; setField (.ref e) 1 b) Q E s := by
  obtain ⟨oe, vs, he, hx2⟩ := id hx
  have hd := hx2.2.2.1
  have hsz : 1 < vs.size := by rw [hx2.2.2.2.1]; decide
  have out : e ∉ (env :: outer).filterMap (·.frame) := fun hm => by
    obtain ⟨_, o, ho, nf⟩ := hl.mem hm
    rw [he] at ho
    cases ho
    exact nf vs hd
  refine wpAny_bind (wpAny_frameOf_fun hfr hl hf fun h1 sl1 => ?_)
  refine wpAny_bind (wpAny_entryPlaceOf fun pl hpl => ?_)
  unfold EntryCells.newEntry newFields
  refine wpAny_bind (wpAny_newObj_type ?_ (hpl.sizeOk5 _ _ _ _ _))
  have e1 : h1.get? e = some oe := (sl1.2.1 e out).trans he
  generalize hob : ({ cls := .type "traceback", dict := none, data := .fields ([head, .ref L, .none, rawInt L, .none] ++ (if pl.isEmpty then List.replicate 6 Value.none else pl)).toArray } : Obj) = ob
  have odat : ∃ ts, ob.data = .fields ts ∧ ts[3]? = some (rawInt L) ∧ ob.isFreed = false := by
    subst hob
    exact ⟨_, rfl, by simp, rfl⟩
  have e2 := Heap.get?_push_of_some (h := h1) ob e1
  refine wpAny_setField e2 hd hsz ?_
  have tne : h1.objs.size ≠ e := Nat.ne_of_gt (Heap.lt_size e1)
  have e3 := Heap.get?_update_self (Obj.mapFields (·.setIfInBounds 1 (Value.ref h1.objs.size))) e2 (Obj.isFreed_of_fields (Obj.data_mapFields hd _))
  have t3 := (Heap.get?_update_other (h1.push ob) (Obj.mapFields (·.setIfInBounds 1 (Value.ref h1.objs.size))) (Ne.symm tne)).trans (Heap.get?_push_size h1 odat.choose_spec.2.2)
  have kp : ∀ b o, b ≠ e → h1.get? b = some o → ((h1.push ob).update e (Obj.mapFields (·.setIfInBounds 1 (Value.ref h1.objs.size)))).get? b = some o := fun b o hb q => by
    rw [Heap.get?_update_other _ _ (Ne.symm hb)]
    exact Heap.get?_push_of_some _ q
  refine k _ h1.objs.size ?_ (fun b o q nf hb => kp b o hb ((sl1.2.1 b nf).trans q)) (fun b o q hb => ?_) (ExAt.set1 he hx e3) ?_ tne
  · exact sl1.1.symm
  · obtain ⟨sl, q2⟩ := sl1.2.2 b o q
    exact ⟨sl, kp b _ hb q2⟩
  · obtain ⟨ts, d1, d2, _⟩ := odat
    exact ⟨_, ts, t3, d1, d2⟩
theorem note_any {base : Heap} {env : Env} {outer : List Env} {L e C : Addr} {d old : Option Addr} {Q : Unit → Shared → Prop}
    (hfr : A.frames = some (env :: outer)) (hl : s.heap.FunFrames base (env :: outer)) (hf : env.frame = some L) (hx : Fl s.heap e C d old)
    (k : ∀ h' T, s.heap.objs.size = T → (∀ b o, s.heap.get? b = some o → b ∉ frs (env :: outer) → b ≠ e → some b ≠ old → h'.get? b = some o) →
      (∀ b o, s.heap.get? b = some o → b ≠ e → some b ≠ old → ∃ sl, h'.get? b = some { o with slots := sl }) → ExAt h' e C d (.ref T) → TrAt h' T (rawInt L) → T ≠ e → Q () { s with heap := h' }) :
    wpAny M A (noteFrame (.ref e) env) Q E s := by
  unfold noteFrame
  simp only [hf]
  cases old with
  | none =>
    obtain ⟨oe, vs, he, c1, c2, c3, c4, c5, c6⟩ := id (show ExAt s.heap e C d .none from hx)
    refine wpAny_bind (wpAny_field he c3 c5 ?_)
    rw [if_neg (by decide)]
    exact note_entry hfr hl hf hx fun h' T a b c => k h' T a (fun x o q nf hb _ => b x o q nf hb) fun x o q hb _ => c x o q hb
  | some T0 =>
    obtain ⟨hx1, ⟨oT, ts, hT, dT, fT⟩, hne⟩ := hx
    obtain ⟨oe, vs, he, c1, c2, c3, c4, c5, c6⟩ := id hx1
    refine wpAny_bind (wpAny_field he c3 c5 ?_)
    rw [if_pos (show (Value.ref T0 != Value.none) = true from by simp)]
    refine wpAny_bind (wpAny_field hT dT fT ?_)
    rw [if_neg (show ¬ ((Value.none == rawInt L) = true) from by simp [rawInt])]
    refine wpAny_bind (wpAny_setField hT dT (Array.getElem?_eq_some_iff.mp fT).1 ?_)
    have oth : ∀ b, b ≠ T0 → (s.heap.update T0 (Obj.mapFields (·.setIfInBounds 3 Value.none))).get? b = s.heap.get? b := fun b hb => Heap.get?_update_other _ _ (Ne.symm hb)
    have nrec : ∀ b o, s.heap.get? b = some o → (∀ vs, o.data ≠ .fields vs) → b ≠ T0 := fun b o hb nf q => by
      rw [q, hT] at hb
      cases hb
      exact nf ts dT
    have lt0 : (s.heap.update T0 (Obj.mapFields (·.setIfInBounds 3 Value.none))).objs.size = s.heap.objs.size := by
      first | exact Heap.size_update _ _ _ | simp [Heap.update]
    refine note_entry hfr (hl.of_keeps fun b o hb nf => ⟨o, (oth b (nrec b o hb nf)).trans hb, rfl⟩) hf (hx1.keep fun o q => (oth e (Ne.symm hne)).trans q) fun h' T a b c => k h' T (lt0.symm.trans a) (fun x o q nf hb ho => b x o ((oth x fun z => ho (by rw [z])).trans q) nf hb)
      fun x o q hb ho => c x o ((oth x fun z => ho (by rw [z])).trans q) hb
theorem flight_any {e C T : Addr} {d : Option Addr} {fl : Value} {Q : Unit → Shared → Prop} (hx : ExAt s.heap e C d (.ref T)) (ht : TrAt s.heap T fl) (hne : T ≠ e)
    (k : ∀ h', (∀ b, b ≠ T → h'.get? b = s.heap.get? b) → Fl h' e C d (some T) → Q () { s with heap := h' }) : wpAny M A (setFlight (.ref e) none) Q E s := by
  obtain ⟨oe, vs, he, c1, c2, c3, c4, c5, c6⟩ := id hx
  obtain ⟨oT, ts, hT, dT, fT⟩ := ht
  have hsz : 3 < ts.size := (Array.getElem?_eq_some_iff.mp fT).1
  have oth : ∀ b, b ≠ T → (s.heap.update T (Obj.mapFields (·.setIfInBounds 3 ((none : Option Addr).elim Value.none fun f => rawInt f)))).get? b = s.heap.get? b := fun b hb => Heap.get?_update_other _ _ (Ne.symm hb)
  unfold setFlight
  refine wpAny_bind (wpAny_field he c3 c5 ?_)
  rw [if_pos (show (Value.ref T != Value.none) = true from by simp)]
  refine wpAny_setField hT dT hsz (k _ oth ⟨hx.keep fun o q => (oth e (Ne.symm hne)).trans q, ⟨_, _, Heap.get?_update_self _ hT (Obj.isFreed_of_fields (Obj.data_mapFields dT _)), Obj.data_mapFields dT _, by simp [hsz]⟩, hne⟩)
end
end L2

end
section
set_option maxHeartbeats 4000000
namespace L2
open PySem PySem.Spec PyProof.Rows
theorem ObjOk.there {P : Program} {w : World} {H : Hp} {h : Heap} {a : Addr} {o : HO} (x : ObjOk P w H h a o) : ∃ u, h.get? a = some u := by
  cases o with
  | lst xs => obtain ⟨_, _, _, _, e⟩ := x; exact ⟨_, e⟩
  | tup xs => obtain ⟨_, _, _, _, e, _⟩ := x; exact ⟨_, e⟩
  | dK kvs => obtain ⟨_, _, _, _, o, _, _, e, _⟩ := x; exact ⟨_, e⟩
  | dT kvs => obtain ⟨_, _, _, _, o, _, _, e, _⟩ := x; exact ⟨_, e⟩
  | set S n => obtain ⟨o, _, _, _, e, _⟩ := x; exact ⟨_, e⟩
  | ins C dx fs => obtain ⟨_, _, _, e, _⟩ := x; exact ⟨_, e⟩
  | own y => exact x
  | xd fs => obtain ⟨_, ⟨_, _, _, e, _⟩, _⟩ := x; exact ⟨_, e⟩
  | rng lo hi => obtain ⟨_, _, _, e⟩ := x; exact ⟨_, e⟩
  | frz ob u => obtain ⟨e, _⟩ := x; exact ⟨_, e⟩
  | tbl ps => exact ⟨_, x⟩
  | met f y => exact ⟨_, x⟩
  | ext φ => obtain ⟨_, e, _⟩ := x; exact e
theorem HOk.un {P : Program} {w : World} {H : Hp} {h : Heap} {a : Addr} (x : HOk P w H h) (e : h.get? a = none) : H a = none := by
  cases q : H a with
  | none => rfl
  | some o =>
    obtain ⟨u, z⟩ := (x a o q).there
    rw [e] at z; cases z
/-- the tracked objects are kept -/
theorem HOk.calm {P : Program} {w : World} {H : Hp} {h h' : Heap} (x : HOk P w H h) (k : ∀ b u o, H b = some o → h.get? b = some u → h'.get? b = some u) : HOk P w H h' := fun a o e =>
  (x a o e).stay (fun b u hb q => by
    rcases hb with z | z
    · subst z; exact k b u o e q
    · exact k b u _ z q) (fun _ q => q) fun _ _ q => q
/-- how an exception lies behind a call -/
def CX1 (P : Program) (w : World) : CXT := fun outer H s E e s' => ∃ (ea C : Addr) (d old : Option Addr) (H' : Hp), e = .ref ea ∧ s'.os = s.os ∧ AllBare s'.gens ∧ Un (frs outer) [] H H' s.heap s'.heap ∧ HOk P w H' s'.heap ∧
  Fl s'.heap ea C d old ∧ s.heap.get? ea = none ∧ H' ea = none ∧ (∀ T, old = some T → s.heap.get? T = none ∧ H' T = none) ∧ E (.ref C) d H'
/-- .. in a body -/
structure FlX (X : Cx) (H : Hp) (s : Shared) (ea C : Addr) (d old : Option Addr) : Prop where
  fl : Fl s.heap ea C d old
  new : X.s_0.heap.get? ea = none
  un : H ea = none
  tr : ∀ T, old = some T → X.s_0.heap.get? T = none ∧ H T = none
  pn : ∀ p ∈ X.pn, p.1 ≠ ea ∧ some p.1 ≠ old
/-- an exception that E is told of meets what this body wants of exceptions -/
def XOk (X : Cx) (E : XK) : Prop := ∀ (pins : List (Addr × Obj)) (σ : St) (H : Hp) (s : Shared) (ea C : Addr) (d old : Option Addr), Inv X pins σ H s → FlX X H s ea C d old → E (.ref C) d H → X.xe (.ref ea) s
theorem Un.gone {fs : List Addr} {H H' : Hp} {h h' : Heap} {a : Addr} (u : Un fs [] H H' h h') (e : h'.get? a = none) : h.get? a = none := by
  cases q : h.get? a with
  | none => rfl
  | some o =>
    obtain ⟨o', z⟩ := u.there a o q (by simp)
    rw [e] at z; cases z
section
variable {X : Cx} {pins : List (Addr × Obj)} {σ : St} {H : Hp} {s : Shared} {ea C : Addr} {d old : Option Addr} {E : XK}
theorem Inv.gone (I : Inv X pins σ H s) (hx : X.ex = []) {a : Addr} (e : s.heap.get? a = none) : X.s_0.heap.get? a = none := by
  have u := I.base
  rw [hx] at u
  exact u.gone e
/-- the exception leaves the def's frame -/
theorem leave_ok {E' : Value → Shared → Prop} (I : Inv X pins σ H s) (hx : X.ex = []) (hst : X.stack = X.env :: X.outer) (hfr : X.env.frame = some X.env.locals) (F : FlX X H s ea C d old) (hE : E (.ref C) d H) :
    wpAny (model X.prog X.w) X.A (leaving X.env (.ref ea)) (fun _ s2 => CX1 X.prog X.w X.outer X.H_0 X.s_0 E (.ref ea) s2) E' s := by
  have hl : s.heap.FunFrames X.base (X.env :: X.outer) := by rw [← hst]; exact I.stack
  unfold leaving
  refine wpAny_bind (note_any (by rw [I.ok.frames, hst]) hl hfr F.fl fun h1 T hT k1 k2 x1 t1 ne => ?_)
  refine flight_any x1 t1 ne fun h2 k3 fl2 => ?_
  have fsE : frs (X.env :: X.outer) = X.env.locals :: X.fs := by simp [frs, hfr]
  have bs := I.base
  rw [hx] at bs
  -- an object of the entry
  have old_ne : ∀ b o, X.s_0.heap.get? b = some o → b ≠ ea ∧ some b ≠ old ∧ b ≠ X.env.locals := fun b o q => by
    refine ⟨fun z => ?_, fun z => ?_, Nat.ne_of_lt (Nat.lt_of_lt_of_le (Heap.lt_size q) I.ok.above)⟩
    · rw [z, F.new] at q; cases q
    · rw [(F.tr b z.symm).1] at q; cases q
  have nT : ∀ b o, s.heap.get? b = some o → b ≠ T := fun b o q z => by
    have q2 := Heap.lt_size q
    rw [z, ← hT] at q2
    exact Nat.lt_irrefl _ q2
  refine ⟨ea, C, d, some T, H, rfl, I.os, I.bare, ⟨fun b o q n hb he => ?_, fun b o q n hb he => ?_, fun b o q n he => bs.free b o q n he, fun b o q he => ?_, bs.tups, bs.frzs, bs.tbls⟩, I.hok.calm fun b u o q e => ?_, fl2, F.new, F.un, fun T' e => ?_, hE⟩
  · have q1 := bs.keep b o q n hb he
    obtain ⟨n1, n2, n3⟩ := old_ne b o q
    show h2.get? b = some o
    rw [k3 b (nT b o q1)]
    refine k1 b o q1 (fun z => ?_) n1 n2
    rw [fsE] at z
    rcases List.mem_cons.mp z with z | z
    · exact n3 z
    · exact hb z
  · obtain ⟨sl, q1⟩ := bs.slot b o q n hb he
    obtain ⟨n1, n2, n3⟩ := old_ne b o q
    obtain ⟨sl2, q2⟩ := k2 b _ q1 n1 n2
    exact ⟨sl2, (k3 b (nT b _ q1)).trans q2⟩
  · obtain ⟨o1, q1⟩ := bs.there b o q he
    obtain ⟨n1, n2, n3⟩ := old_ne b o q
    obtain ⟨sl2, q2⟩ := k2 b _ q1 n1 n2
    exact ⟨_, (k3 b (nT b _ q1)).trans q2⟩
  · show h2.get? b = some u
    rw [k3 b (nT b u e)]
    refine k1 b u e (fun z => ?_) (fun z => ?_) fun z => ?_
    · rw [← hst] at z
      rw [I.stkFree b z] at q; cases q
    · rw [z, F.un] at q; cases q
    · rw [(F.tr b z.symm).2] at q; cases q
  · cases e
    have hn : s.heap.get? T = none := Heap.get?_none_of_le (Nat.le_of_eq hT)
    exact ⟨bs.gone hn, I.hok.un hn⟩
/-- behind a callee that raised -/
theorem passes1 (hx : XOk X E) (he : X.ex = [] := by rfl) : Passes (CX1 X.prog X.w) X E := by
  intro pins σ H s e s' I c
  obtain ⟨ea, C, d, old, H', rfl, os, bare, un, hok, fl, n1, n2, n3, hE⟩ := c
  refine hx pins σ H' s' ea C d old (I.call' (ch := []) os un hok bare fun b z => absurd z (by simp)) ⟨fl, I.gone he n1, n2, fun T e => ⟨I.gone he (n3 T e).1, (n3 T e).2⟩, fun p hp => ?_⟩ hE
  have z := (I.pin p (List.mem_append_left _ hp)).1
  refine ⟨fun q => ?_, fun q => ?_⟩
  · rw [q, n1] at z; cases z
  · rw [(n3 p.1 q.symm).1] at z; cases z
end
theorem xok_def {P : Program} {w : World} {K : PySem.W.Frag} {mg : Str → Option Value} {base : Heap} {N : List Str} {qual : Str} {scope : Scope} {f : Addr} {cd : Value} {A : Around} {outer : List Env} {s : Shared} {H : Hp} {E : XK} :
    XOk (cxOf (CX1 P w) P w K mg base N qual scope f cd A outer s H E) E := fun pins σ H1 s1 ea C d old I F hE =>
  leave_ok I rfl rfl rfl F hE
/-! ### raise X(..), X a class of the text without __init__ -/
theorem exc_obj {K : PySem.W.Frag} {h : Heap} {C : Addr} {bmB : List Value} {newId : String} (X : K.In h) (q : PySem.W.excIn K C bmB newId = true) :
    ∃ bm N nm qn bs hdct sn sub ab col dd k0 k1 k2 k3 k5 mN, h.get? C = some (excClassObj nm qn C N bs bm hdct sn sub ab col dd k0 k1 k2 k3 k5 newId) ∧ h.Ns N mN ∧ mN "__init__" = none ∧ OwnTail h bmB bm := by
  unfold PySem.W.excIn at q
  split at q
  · rename_i dd cd sl ho
    split at q
    · rename_i C2 bm k0 k1 k2 k3 n k5 hm hs
      simp only [Bool.and_eq_true, beq_iff_eq, Bool.not_eq_true'] at q
      obtain ⟨⟨⟨⟨⟨rfl, rfl⟩, hdel⟩, ht⟩, hok⟩, hni⟩ := q
      obtain ⟨nm, bs, mro, ns, qn, hd, sn, sub, ab, col, del⟩ := cd
      dsimp only at hm hdel hok hni
      subst hm hdel
      have hsl : sl = #[k0, k1, k2, k3, some (.builtin n), k5] := by
        obtain ⟨l⟩ := sl
        simp only at hs
        rw [hs]
      subst hsl
      exact ⟨bm, ns, nm, qn, bs, hd, sn, sub, ab, col, dd, k0, k1, k2, k3, k5, _, X _ _ ho, .of_isNs (PySem.W.isNs_of_in X hok), PySem.W.nsMap_none_of_in X hok hni, PySem.W.tail_of_in X ht⟩
    · cases q
  · cases q
section
variable {X : Cx} {E : XK} {x : Str} {C : Addr} {B newId initId : String} {bmB : List Value} {e : Expr} {es : List Expr} {t : TA} {np cpos pos : Pos}
def tRaise (C : Addr) (E : XK) (t : TA) : TS := fun _ σ H => t σ H fun vs H1 => vs.length ≤ sizeLine ∧ E (.ref C) none H1
theorem ps_raise (hx : XOk X E) (hh : X.A.handled = none) (hg : Gl X x) (hm : X.mg x = some (.ref C)) (q : PySem.W.excIn X.K C bmB newId = true) (FB : ExcBaseFacts B newId initId bmB) (ha : PA X (e :: es) t) (hex : X.ex = [] := by rfl) (hdb : (x == ("__debug__" : Str)) = false := by decide)
    (he : starEach (e :: es) X.env = (false, eval e X.env) :: starEach es X.env := by rfl) (hpl : (backTo cpos (starEach es X.env)).any (·.1) = false := by rfl) :
    PS X (.Raise (some (.Call (.Name x np) (e :: es) [] cpos)) none pos) (tRaise C E t) := by
  intro pins s σ H D I h
  obtain ⟨bm, N, nm, qn, bs, hdct, sn, sub, ab, col, dd, k0, k1, k2, k3, k5, mN, hC, hN, hni, T⟩ := exc_obj I.ok.mod.kin q
  refine wpAny_Raise_call_subT (C := C) (nm := nm) (q := qn) (N := N) (bs := bs) (bm := bm) (hdct := hdct) (sn := sn) (sub := sub) (ab := ab) (col := col) (dd := dd) (k0 := k0) (k1 := k1) (k2 := k2) (k3 := k3) (k5 := k5)
    FB (mN := mN) (T.hasType FB.hasBase) hh (by rw [he]; show (false || (backTo cpos (starEach es X.env)).any (·.1)) = false; rw [hpl]; rfl) hni (ld_glob I hg hm ⟨rfl, ?_⟩ hdb)
  have ha' := ha cpos pins s σ H _ I h
  rw [he] at ha' ⊢
  refine Calls.evalArgs_plain (wpAny_mono ha' (fun us s2 h2 => ?_) fun _ _ y => y)
  obtain ⟨vs, H2, I2, r2, hz, hE⟩ := h2
  refine ⟨rfl, by rw [← r2.length]; exact hz, I2.bk _ _ hC, hN.keeps I2.bk, T.keeps I2.bk, fun h' ea mk => ?_⟩
  obtain ⟨t, g1, g2, g3⟩ := mk.there
  have n0 : s2.heap.get? ea = none := mk.new
  refine hx pins σ H2 _ ea C none none (I2.kept (t' := s2.toks) mk.keeps) ⟨⟨_, _, g1, rfl, rfl, rfl, rfl, rfl, rfl⟩, I2.gone hex n0, I2.hok.un n0, fun T z => (nomatch z), fun p hp => ⟨fun q => ?_, fun q => (nomatch q)⟩⟩ hE
  have z := (I2.pin p (List.mem_append_left _ hp)).1
  rw [q, n0] at z; cases z
end
end L2

end
section
set_option maxHeartbeats 4000000
namespace L2
open PySem PySem.Spec PyProof.Rows
/-! ### classes of the text -/
def clsIn (K : PySem.W.Frag) (C : Addr) (bm : List Value) : Bool := match K.lookup C with
  | some ⟨.type "type", _, .cls cd, _⟩ => cd.mro == .ref C :: bm
  | _ => false
def ClsAt (h : Heap) (C : Addr) (bm : List Value) : Prop := ∃ o cd, h.get? C = some o ∧ o.cls = .type "type" ∧ o.data = .cls cd ∧ cd.mro = .ref C :: bm
theorem cls_at {K : PySem.W.Frag} {h : Heap} {C : Addr} {bm : List Value} (X : K.In h) (q : clsIn K C bm = true) : ClsAt h C bm := by
  unfold clsIn at q
  split at q
  · rename_i ho
    exact ⟨_, _, X _ _ ho, rfl, rfl, by simpa using q⟩
  · cases q
section
variable {M : Model} {A : Around} {E : Value → Shared → Prop} {s : Shared}
theorem sub_cls {C : Addr} {bm : List Value} {b : Value} {Q : Bool → Shared → Prop} (hC : ClsAt s.heap C bm) (h : Q ((Value.ref C :: bm).contains b) s) : wpAny M A (isSubtype (.ref C) b) Q E s := by
  obtain ⟨o, cd, ho, hc, hd, hm⟩ := hC
  unfold isSubtype mroOf classData
  refine wpAny_bind (wpAny_bind (wpAny_bind (wpAny_load ho ?_)))
  rw [hd]
  refine wpAny_pure (wpAny_pure ?_)
  rw [hm]
  simp only [List.isEmpty_cons, Bool.false_eq_true, if_false]
  exact wpAny_pure h
theorem type_of {a : Addr} {o : Obj} {Q : Value → Shared → Prop} (ho : s.heap.get? a = some o) (h : Q o.cls s) : wpAny M A (typeOf (.ref a)) Q E s := by
  obtain ⟨hp, g, d, tk, os⟩ := s
  unfold typeOf
  repeat (first | with_reducible refine wpAny_loadPart_at ho ?_ | wp_step)
  exact h
theorem exc_cls {C : Addr} {bm : List Value} {Q : Bool → Shared → Prop} (hC : ClsAt s.heap C bm) (hb : bm.contains (.type "BaseException") = true) (h : Q true s) : wpAny M A (isExcClass (.ref C)) Q E s := by
  have hC' := hC
  obtain ⟨o, cd, ho, hc, hd, hm⟩ := hC
  unfold isExcClass isType
  obtain ⟨hp, g, d, tk, os⟩ := s
  have e : (Value.ref C :: bm).contains (.type "BaseException") = true := by rw [List.contains_cons, hb, Bool.or_true]
  repeat (first | (with_reducible refine wpAny_loadPart_at ho ?_; rw [hd]) | (with_reducible refine wpAny_load ho ?_; rw [hd]) | (with_reducible refine sub_cls hC' ?_; rw [e]) | wp_step)
  all_goals exact h
theorem exc_two {ea tp C C1 C2 : Addr} {bm b1 b2 : List Value} {oe : Obj} {Q : Bool → Shared → Prop} (ht : IsTup s.heap tp #[.ref C1, .ref C2]) (he : s.heap.get? ea = some oe) (hc : oe.cls = .ref C) (hC : ClsAt s.heap C bm) (h1 : ClsAt s.heap C1 b1) (h2 : ClsAt s.heap C2 b2)
    (e1 : b1.contains (.type "BaseException") = true) (e2 : b2.contains (.type "BaseException") = true)
    (hm : ((Value.ref C :: bm).contains (.ref C1) || (Value.ref C :: bm).contains (.ref C2)) = true) (h : Q true s) : wpAny M A (excMatches (.ref ea) (.ref tp)) Q E s := by
  obtain ⟨o, ho, hoc, n, hd⟩ := ht
  unfold excMatches
  refine wpAny_bind (wpAny_isInstance ⟨o, ho, hoc⟩ isSubtype_tuple_tuple ?_)
  dsimp only
  rw [if_pos rfl]
  refine wpAny_bind (wpAny_seqItems ho hd ?_)
  dsimp only [Option.getD_some, Option.getD]
  refine wpAny_bind (wpAny_pure ?_)
  simp only [List.forIn_cons, List.forIn_nil]
  refine wpAny_bind (wpAny_bind (wpAny_bind (exc_cls h1 e1 ?_)))
  simp only [Bool.not_true, Bool.false_eq_true, if_false]
  refine wpAny_pure ?_
  refine wpAny_bind (wpAny_bind (exc_cls h2 e2 ?_))
  simp only [Bool.not_true, Bool.false_eq_true, if_false]
  refine wpAny_pure (wpAny_pure ?_)
  refine wpAny_bind (type_of he ?_)
  rw [hc]
  refine wpAny_bind (wpAny_bind (wpAny_bind (sub_cls hC ?_)))
  cases q1 : (Value.ref C :: bm).contains (.ref C1) with
  | true =>
    simp only [if_true]
    exact wpAny_pure (wpAny_pure (wpAny_pure h))
  | false =>
    rw [q1, Bool.false_or] at hm
    simp only [Bool.false_eq_true, if_false]
    refine wpAny_pure (wpAny_bind (wpAny_bind (sub_cls hC ?_)))
    rw [hm]
    simp only [if_true]
    exact wpAny_pure (wpAny_pure (wpAny_pure h))
end
end L2

end
section
set_option maxHeartbeats 4000000
namespace L2
open PySem PySem.Spec PyProof.Rows
/-- what is known of a caught exception's object -/
def ExO (C : Addr) (d : Option Addr) (oe : Obj) : Prop := oe.cls = .ref C ∧ oe.dict = d ∧ ∃ vs, oe.data = .fields vs ∧ vs[2]? = some .none
/-- records that an exception turns have turned; the frames' slots may have -/
theorem Inv.exc {X : Cx} {pins : List (Addr × Obj)} {σ : St} {H : Hp} {s : Shared} {h' : Heap} {t' : Nat} {ch : Addr → Prop} (I : Inv X pins σ H s)
    (hch : ∀ b, ch b → X.s_0.heap.get? b = none ∧ H b = none ∧ b ≠ X.env.locals ∧ (∀ x c, X.env.cells.lookup x = some c → c ≠ b) ∧ ∀ p ∈ X.pn ++ pins, p.1 ≠ b)
    (keep : ∀ b o, s.heap.get? b = some o → b ∉ frs X.stack → ¬ ch b → h'.get? b = some o) (slot : ∀ b o, s.heap.get? b = some o → ¬ ch b → ∃ sl, h'.get? b = some { o with slots := sl }) : Inv X pins σ H { s with heap := h', toks := t' } := by
  have nch : ∀ b o, X.s_0.heap.get? b = some o → ¬ ch b := fun b o q z => by rw [(hch b z).1] at q; cases q
  have cellK : ∀ x c, X.env.cells.lookup x = some c → ∀ v, s.heap.IsCell c v → h'.IsCell c v := fun x c e v ⟨o, ho, hd⟩ => by
    obtain ⟨sl, q⟩ := slot c o ho fun z => (hch c z).2.2.2.1 x c e rfl
    exact ⟨_, q, hd⟩
  refine ⟨I.ok, I.os, I.bare, ⟨fun b o e n hb hx => ?_, fun b o e n hb hx => ?_, I.base.free, fun b o e hx => ?_, I.base.tups, I.base.frzs, I.base.tbls⟩, ?_, fun x c e => ?_, I.free, I.freeC, fun p hp => ?_, I.hok.calm fun b u o q e => ?_, I.len⟩
  · refine keep b o (I.base.keep b o e n hb hx) (fun z => ?_) (nch b o e)
    rcases List.mem_cons.mp (I.stkSub b z) with q | q
    · exact Nat.ne_of_lt (Nat.lt_of_lt_of_le (Heap.lt_size e) I.ok.above) q
    · exact hb q
  · obtain ⟨sl, e1⟩ := I.base.slot b o e n hb hx
    obtain ⟨sl2, e2⟩ := slot b _ e1 (nch b o e)
    exact ⟨sl2, e2⟩
  · obtain ⟨o1, e1⟩ := I.base.there b o e hx
    obtain ⟨sl2, e2⟩ := slot b _ e1 (nch b o e)
    exact ⟨_, e2⟩
  · obtain ⟨m, ⟨o, es, ep, ho, hd, r⟩, hl⟩ := I.loc
    obtain ⟨sl, q⟩ := slot _ o ho fun z => (hch _ z).2.2.1 rfl
    refine ⟨m, ⟨_, es, ep, q, hd, r⟩, fun i x v e1 e2 e3 => ?_⟩
    obtain ⟨u, ru, l⟩ := hl i x v e1 e2 e3
    refine ⟨u, ru, ?_⟩
    rcases l with l | ⟨k, c, e, z⟩
    · exact .inl l
    · exact .inr ⟨k, c, e, cellK x c e _ z⟩
  · obtain ⟨v, z⟩ := I.cell x c e
    exact ⟨v, cellK x c e v z⟩
  · obtain ⟨e, n, ne, nf, d⟩ := I.pin p hp
    refine ⟨keep p.1 p.2 e (fun z => ?_) fun z => (hch _ z).2.2.2.2 p hp rfl, n, ne, nf, d⟩
    rcases List.mem_cons.mp (I.stkSub _ z) with q | q
    · exact ne q
    · exact nf q
  · refine keep b u e (fun z => ?_) fun z => ?_
    · rw [I.stkFree b z] at q; cases q
    · rw [(hch b z).2.1] at q; cases q
abbrev Cx.tri (X : Cx) (xe : Value → Shared → Prop) (pins : List (Addr × Obj)) : Cx := { X with xe := xe, pn := X.pn ++ pins }
abbrev Cx.hot (X : Cx) (ea : Addr) : Cx := { X with A := X.A.mark (some (.ref ea)), calm := false, xe := fun _ _ => False }
abbrev Cx.suite (X : Cx) (ea : Addr) (oe : Obj) : Cx := { X with A := X.A.mark (some (.ref ea)), calm := false, xe := fun _ _ => False, pn := (ea, oe) :: X.pn }
section
variable {X : Cx} {pins pins' : List (Addr × Obj)} {σ : St} {H : Hp} {s : Shared} {ea : Addr} {oe : Obj} {xe : Value → Shared → Prop}
theorem Cx.Ok.tri (ok : X.Ok) : (X.tri xe pins).Ok := ⟨ok.mod, ok.kind, ok.glob, ok.blt, ok.above, ok.inj, ok.has, ok.cab, ok.hd, ok.frames, ok.stk, ok.exf, ok.bs, ok.bsz, ok.noex, ok.exfs, ok.funs, ok.frf⟩
theorem Cx.Ok.untri (ok : (X.tri xe pins).Ok) : X.Ok := ⟨ok.mod, ok.kind, ok.glob, ok.blt, ok.above, ok.inj, ok.has, ok.cab, ok.hd, ok.frames, ok.stk, ok.exf, ok.bs, ok.bsz, ok.noex, ok.exfs, ok.funs, ok.frf⟩
theorem Cx.Ok.hot (ok : X.Ok) : (X.hot ea).Ok := ⟨ok.mod, ok.kind, ok.glob, ok.blt, ok.above, ok.inj, ok.has, ok.cab, fun z => (nomatch z), ok.frames, ok.stk, ok.exf, ok.bs, ok.bsz, ok.noex, ok.exfs, ok.funs, ok.frf⟩
theorem Cx.Ok.suite (ok : X.Ok) : (X.suite ea oe).Ok := ⟨ok.mod, ok.kind, ok.glob, ok.blt, ok.above, ok.inj, ok.has, ok.cab, fun z => (nomatch z), ok.frames, ok.stk, ok.exf, ok.bs, ok.bsz, ok.noex, ok.exfs, ok.funs, ok.frf⟩
theorem Inv.tri (I : Inv X pins σ H s) : Inv (X.tri xe pins) [] σ H s := ⟨I.ok.tri, I.os, I.bare, I.base, I.loc, I.cell, I.free, I.freeC, fun p hp => I.pin p (by simpa using hp), I.hok, I.len⟩
theorem Inv.untri (I : Inv (X.tri xe pins) pins' σ H s) : Inv X pins σ H s := ⟨I.ok.untri, I.os, I.bare, I.base, I.loc, I.cell, I.free, I.freeC, fun p hp => I.pin p (List.mem_append_left _ hp), I.hok, I.len⟩
theorem Inv.hot (I : Inv X pins σ H s) : Inv (X.hot ea) pins σ H s := ⟨I.ok.hot, I.os, I.bare, I.base, I.loc, I.cell, I.free, I.freeC, I.pin, I.hok, I.len⟩
theorem Inv.unhot (I : Inv (X.hot ea) pins σ H s) (ok : X.Ok) : Inv X pins σ H s := ⟨ok, I.os, I.bare, I.base, I.loc, I.cell, I.free, I.freeC, I.pin, I.hok, I.len⟩
theorem Inv.suite (I : Inv X pins σ H s) (hp : s.heap.get? ea = some oe ∧ H ea = none ∧ ea ≠ X.env.locals ∧ ea ∉ X.fs ∧ ∀ v, oe.data ≠ .cell v) : Inv (X.suite ea oe) pins σ H s :=
  ⟨I.ok.suite, I.os, I.bare, I.base, I.loc, I.cell, I.free, I.freeC, fun p hq => by
    rcases List.mem_cons.mp (show p ∈ (ea, oe) :: (X.pn ++ pins) from hq) with z | z
    · subst z; exact hp
    · exact I.pin p z, I.hok, I.len⟩
theorem Inv.unsuite (I : Inv (X.suite ea oe) pins σ H s) (ok : X.Ok) : Inv X pins σ H s := ⟨ok, I.os, I.bare, I.base, I.loc, I.cell, I.free, I.freeC, fun p hp => I.pin p (List.mem_cons.mpr (.inr hp)), I.hok, I.len⟩
/-- the frame's own names have changed -/
theorem Inv.renamed {h' : Heap} {t' : Nat} {m : Str → Option Value} (I : Inv X pins σ H s) (hn : h'.Ns X.env.locals m) (k : ∀ b, b ≠ X.env.locals → h'.get? b = s.heap.get? b) : Inv X pins (List.replicate σ.length none) H { s with heap := h', toks := t' } := by
  refine ⟨I.ok, I.os, I.bare, ⟨fun b o e n hb hx => ?_, fun b o e n hb hx => ?_, I.base.free, fun b o e hx => ?_, I.base.tups, I.base.frzs, I.base.tbls⟩, ⟨m, hn, fun i x v _ e2 _ => ?_⟩, fun x c e => ?_, I.free, I.freeC, fun p hp => ?_, I.hok.calm fun b u o q e => ?_, by rw [List.length_replicate]; exact I.len⟩
  · show h'.get? b = _
    rw [k b (Nat.ne_of_lt (Nat.lt_of_lt_of_le (Heap.lt_size e) I.ok.above))]
    exact I.base.keep b o e n hb hx
  · obtain ⟨sl, q⟩ := I.base.slot b o e n hb hx
    exact ⟨sl, (k b (Nat.ne_of_lt (Nat.lt_of_lt_of_le (Heap.lt_size e) I.ok.above))).trans q⟩
  · obtain ⟨o1, q⟩ := I.base.there b o e hx
    exact ⟨o1, (k b (Nat.ne_of_lt (Nat.lt_of_lt_of_le (Heap.lt_size e) I.ok.above))).trans q⟩
  · rw [List.getElem?_replicate] at e2
    split at e2 <;> cases e2
  · obtain ⟨v, o, ho, hd⟩ := I.cell x c e
    exact ⟨v, o, (k c (I.cne x c e)).trans ho, hd⟩
  · obtain ⟨e, n, ne, nf, d⟩ := I.pin p hp
    exact ⟨(k p.1 ne).trans e, n, ne, nf, d⟩
  · show h'.get? b = _
    rw [k b fun z => by rw [z, I.free] at q; cases q]
    exact e
end
theorem Inv.rec_ne {X : Cx} {pins : List (Addr × Obj)} {σ : St} {H : Hp} {s : Shared} {b : Addr} {o : Obj} {vs : Array Value} (I : Inv X pins σ H s) (e : s.heap.get? b = some o) (d : o.data = .fields vs) :
    b ≠ X.env.locals ∧ (∀ x c, X.env.cells.lookup x = some c → c ≠ b) ∧ b ∉ X.fs := by
  refine ⟨fun z => ?_, fun x c q z => ?_, fun z => ?_⟩
  · obtain ⟨m, ⟨o2, es, ep, ho, hd, _⟩, _⟩ := I.loc
    rw [← z, e] at ho; cases ho
    rw [d] at hd; cases hd
  · obtain ⟨v, o2, ho, hd⟩ := I.cell x c q
    rw [z, e] at ho; cases ho
    rw [d] at hd; cases hd
  · obtain ⟨_, o2, ho, nf⟩ := I.funs.mem z
    rw [e] at ho; cases ho
    exact nf vs d
/-! ### try: .. except (C1, C2) as n: .. -/
def Dsu (N : Nat) (D : Ends) : Ends := { nx := fun _ H => D.nx (List.replicate N none) H, rt := D.rt, bk := fun _ H => D.bk (List.replicate N none) H, ct := fun _ H => D.ct (List.replicate N none) H }
def Esu (K : PySem.W.Frag) (C1 C2 : Addr) (N i : Nat) (ts : Addr → Obj → TS) (D : Ends) : XK := fun Cv d H => ∃ C bm, Cv = .ref C ∧ clsIn K C bm = true ∧ ((Value.ref C :: bm).contains (.ref C1) || (Value.ref C :: bm).contains (.ref C2)) = true ∧
  ∀ ea oe tp, H ea = none → ExO C d oe → H tp = none → tp ≠ ea → ts ea oe (Dsu N D) ((List.replicate N none).set i (some (.ref ea))) (upd H tp (.tup [.ref C1, .ref C2]))
def tTry (K : PySem.W.Frag) (C1 C2 : Addr) (N i : Nat) (tb : XK → TS) (ts : Addr → Obj → TS) : TS := fun D σ H => tb (Esu K C1 C2 N i ts D) D σ H
theorem ps_try {X : Cx} {body suite : List Stmt} {b0 : Stmt} {c1 c2 n : Str} {i : Nat} {C1 C2 : Addr} {b1 b2 : List Value} {tb : XK → TS} {ts : Addr → Obj → TS} {p1 p2 tp hp pos : Pos} {kt : Nat}
    (hN : X.N.Nodup) (hi : X.N[i]? = some n) (hlo : X.env.scope.names.lookup n = some .local) (hfr : X.env.frame = some X.env.locals) (hst : X.stack = X.env :: X.outer)
    (hg1 : Gl X c1) (hm1 : X.mg c1 = some (.ref C1)) (q1 : clsIn X.K C1 b1 = true) (e1 : b1.contains (.type "BaseException") = true)
    (hg2 : Gl X c2) (hm2 : X.mg c2 = some (.ref C2)) (q2 : clsIn X.K C2 b2 = true) (e2 : b2.contains (.type "BaseException") = true)
    (hb : ∀ (xe : Value → Shared → Prop) (pins : List (Addr × Obj)) (E : XK), XOk (X.tri xe pins) E → PSs (X.tri xe pins) body (tb E))
    (hs : ∀ (ea : Addr) (oe : Obj), PSs (X.suite ea oe) (b0 :: suite) (ts ea oe)) (hd1 : (c1 == ("__debug__" : Str)) = false := by decide) (hd2 : (c2 == ("__debug__" : Str)) = false := by decide) :
    PS X (.Try body [.ExceptHandler (some (.Tuple [.Name c1 p1, .Name c2 p2] kt tp)) (some n) (b0 :: suite) hp] [] [] pos) (tTry X.K C1 C2 X.N.length i tb ts) := by
  intro pins s σ H D I h
  rw [arm_exec_Try]
  refine wpAny_bind (wpAny_standAt (wpAny_tryStmt_except ?_))
  refine wpAny_mono (hb _ pins (Esu X.K C1 C2 X.N.length i ts D) ?_ [] s σ H D I.tri h) (fun f s1 h1 => ?_) fun e s1 h1 => h1
  rotate_left
  · cases f with
    | next => obtain ⟨σ1, H1, I1, q⟩ := h1; exact wpAny_execs_nil ⟨σ1, H1, I1.untri, q⟩
    | brk => obtain ⟨σ1, H1, I1, q⟩ := h1; exact ⟨σ1, H1, I1.untri, q⟩
    | cont => obtain ⟨σ1, H1, I1, q⟩ := h1; exact ⟨σ1, H1, I1.untri, q⟩
    | ret u => obtain ⟨v, σ1, H1, I1, r, q⟩ := h1; exact ⟨v, σ1, H1, I1.untri, r, q⟩
  -- caught
  intro pins1 σ1 H1 s1 ea C d old I1 F hE
  obtain ⟨C', bm, eC, hcl, hmt, hk⟩ := hE
  cases eC
  have I1 := I1.untri
  have hl : s1.heap.FunFrames X.base (X.env :: X.outer) := by rw [← hst]; exact I1.stack
  refine note_any (by rw [I1.ok.frames, hst]) hl hfr F.fl fun h2 T hT k1 k2 x1 t1 ne => ?_
  refine flight_any x1 t1 ne fun h3 k3 fl3 => ?_
  have hT1 : s1.heap.get? T = none := Heap.get?_none_of_le (Nat.le_of_eq hT)
  have ltT : ∀ b o, s1.heap.get? b = some o → b ≠ T := fun b o q z => by rw [z, hT1] at q; cases q
  obtain ⟨v0, oe0, vs0, g0, gc0, gd0, gf0, gs0⟩ : ∃ v, ExAt s1.heap ea C d v := by
    cases old with
    | none => exact ⟨_, F.fl⟩
    | some T0 => exact ⟨_, F.fl.1⟩
  have I3 : Inv X pins σ1 H1 { s1 with heap := h3 } := by
    refine I1.exc (t' := s1.toks) (ch := fun b => b = ea ∨ some b = old) (fun b hb => ?_) (fun b o q nf nc => ?_) fun b o q nc => ?_
    · rcases hb with z | z
      · subst z
        obtain ⟨n1, n2, _⟩ := I1.rec_ne g0 gf0
        exact ⟨F.new, F.un, n1, n2, fun p hp => (F.pn p hp).1⟩
      · subst z
        obtain ⟨_, ⟨oT, ts', gT, dT, _⟩, _⟩ := F.fl
        obtain ⟨n1, n2, _⟩ := I1.rec_ne gT dT
        exact ⟨(F.tr b rfl).1, (F.tr b rfl).2, n1, n2, fun p hp z => (F.pn p hp).2 (by rw [z])⟩
    · rw [k3 b (ltT b o q)]
      exact k1 b o q (by rw [← hst]; exact nf) (fun z => nc (.inl z)) fun z => nc (.inr z)
    · rw [k3 b (ltT b o q)]
      exact k2 b o q (fun z => nc (.inl z)) fun z => nc (.inr z)
  obtain ⟨⟨oe, vs, g1, gc, gd, gf, g6, g7, g8⟩, ⟨oT, ts', gT, dT, fT⟩, _⟩ := id fl3
  have uT : H1 T = none := I1.hok.un hT1
  have pe : h3.get? ea = some oe ∧ H1 ea = none ∧ ea ≠ X.env.locals ∧ ea ∉ X.fs ∧ ∀ v, oe.data ≠ .cell v := by
    obtain ⟨n1, n2, n3⟩ := I3.rec_ne g1 gf
    exact ⟨g1, F.un, n1, n3, fun v z => by rw [gf] at z; cases z⟩
  have pT : h3.get? T = some oT ∧ H1 T = none ∧ T ≠ X.env.locals ∧ T ∉ X.fs ∧ ∀ v, oT.data ≠ .cell v := by
    obtain ⟨n1, n2, n3⟩ := I3.rec_ne gT dT
    exact ⟨gT, uT, n1, n3, fun v z => by rw [dT] at z; cases z⟩
  have I3p : Inv X (pins ++ [(ea, oe), (T, oT)]) σ1 H1 { s1 with heap := h3 } := I3.pins_of fun p hp => by
    rcases List.mem_append.mp hp with z | z
    · exact I3.pin p (List.mem_append_right _ z)
    · rcases List.mem_cons.mp z with z | z
      · subst z; exact pe
      · rw [List.mem_singleton.mp z]; exact pT
  refine wpAny_handleBy_cons (codeAny_handlers_test ?_) (by intro q; cases q)
  have ev := pe_tup (X := X.hot ea) (pos := tp) (x1 := kt) (pa_cons (pe_glob (pos := p1) (v := .ref C1) hg1 hm1 rfl hd1) (pa_cons (pe_glob (pos := p2) (v := .ref C2) hg2 hm2 rfl hd2) pa_nil)) _ _ σ1 H1 (fun v H2 => ∃ a, v = .ref a ∧ H1 a = none ∧ H2 = upd H1 a (.tup [.ref C1, .ref C2])) (I3p.hot (ea := ea))
    ⟨by show 2 ≤ sizeLine; decide, fun p hp => ⟨p, rfl, hp, rfl⟩⟩
  refine wpAny_mono ev (fun u s4 h4 => ?_) fun _ _ z => z.elim
  obtain ⟨v, H4, I4, rv, a, ev4, ha, eH4⟩ := h4
  subst ev4
  cases rv
  subst eH4
  have I4 := I4.unhot I3.ok
  have pe4 := I4.pin (ea, oe) (by simp)
  have pT4 := I4.pin (T, oT) (by simp)
  obtain ⟨_, its, rvs, itup⟩ := I4.hok a _ upd_same
  have eits : its = [.ref C1, .ref C2] := by
    cases rvs with
    | cons r1 rr =>
      cases rr with
      | cons r2 rr => cases rr; cases r1; cases r2; rfl
  subst eits
  have nae : a ≠ ea := fun z => by
    have q := pe4.2.1
    rw [← z, upd_same] at q; cases q
  refine exc_two itup pe4.1 gc (cls_at I4.kIn hcl) (cls_at I4.kIn q1) (cls_at I4.kIn q2) e1 e2 hmt ?_
  show codeAny _ _ _ _ _
  refine codeAny_handlers_suite_as ?_
  have x4 : ExAt s4.heap ea C d (.ref T) := ⟨oe, vs, pe4.1, gc, gd, gf, g6, g7, g8⟩
  refine flight_any x4 ⟨oT, ts', pT4.1, dT, fT⟩ ne fun h5 k5 fl5 => ?_
  have I4a : Inv X pins σ1 (upd H1 a (.tup [.ref C1, .ref C2])) s4 := I4.pins_of fun p hp => I4.pin p (List.mem_append_right _ (List.mem_append_left _ hp))
  have I5 : Inv X pins σ1 (upd H1 a (.tup [.ref C1, .ref C2])) { s4 with heap := h5 } := by
    refine I4a.exc (t' := s4.toks) (ch := fun b => b = T) (fun b hb => ?_) (fun b o q nf nc => (k5 b nc).trans q) fun b o q nc => ⟨o.slots, (k5 b nc).trans q⟩
    subst hb
    obtain ⟨n1, n2, n3⟩ := I4a.rec_ne pT4.1 dT
    refine ⟨?_, pT4.2.1, n1, n2, fun p hp z => ?_⟩
    · cases q : X.s_0.heap.get? b with
      | none => rfl
      | some o =>
        have := Nat.lt_of_lt_of_le (Heap.lt_size q) I1.sz
        rw [hT] at this
        exact absurd this (Nat.lt_irrefl _)
    · exact ltT p.1 p.2 (I1.pin p hp).1 z
  have I5s : Inv (X.suite ea oe) pins σ1 (upd H1 a (.tup [.ref C1, .ref C2])) { s4 with heap := h5 } := I5.suite ⟨(k5 ea (Ne.symm ne)).trans pe4.1, pe4.2.1, pe4.2.2.1, pe4.2.2.2.1, pe4.2.2.2.2⟩
  have I5w : Inv (X.suite ea oe) pins (List.replicate X.N.length none) (upd H1 a (.tup [.ref C1, .ref C2])) { s4 with heap := h5 } := I5s.weak (by rw [List.length_replicate]; exact I5s.len.symm) fun j v e => by
    rw [List.getElem?_replicate] at e
    split at e <;> cases e
  refine store_ok (X := X.suite ea oe) I5w hN hi (.inl hlo) (v := .ref ea) (u := .ref ea) rfl (fun s6 I6 => ?_) (.inr hlo)
  refine wpAny_mono (hs ea oe pins s6 _ _ (Dsu X.N.length D) I6 (hk ea oe a F.un ⟨gc, gd, vs, gf, g8⟩ ha nae)) (fun f s7 h7 => ?_) fun _ _ z => z.elim
  have fin : ∀ {σ7 : St} {H7 : Hp} {Qf : Unit → Shared → Prop}, Inv (X.suite ea oe) pins σ7 H7 s7 → (∀ s8, Inv X pins (List.replicate X.N.length none) H7 s8 → Qf () s8) → wpAny (model X.prog X.w) X.A (do bindName X.env n .none; unbindBehindTheSuite X.env n hp) Qf X.xe s7 := fun {σ7 H7 Qf} I7 k => by
    have I8 := I7.unsuite I3.ok
    obtain ⟨m, hn, _⟩ := I8.loc
    refine wpAny_nameGoes hlo hn (by rw [I8.ok.kind]; rfl) fun h9 m9 hn9 sb => k _ ?_
    have I9 := I8.renamed (t' := s7.toks + 1) hn9 fun b hb => sb.2 b hb
    rw [I8.len] at I9
    exact I9
  cases f with
  | next => obtain ⟨σ7, H7, I7, q⟩ := h7; exact fin I7 fun s8 I8 => ⟨_, H7, I8, q⟩
  | brk => obtain ⟨σ7, H7, I7, q⟩ := h7; exact fin I7 fun s8 I8 => ⟨_, H7, I8, q⟩
  | cont => obtain ⟨σ7, H7, I7, q⟩ := h7; exact fin I7 fun s8 I8 => ⟨_, H7, I8, q⟩
  | ret u => obtain ⟨v, σ7, H7, I7, r, q⟩ := h7; exact fin I7 fun s8 I8 => ⟨v, _, H7, I8, r, q⟩
end L2

end
section
set_option maxHeartbeats 4000000
namespace L2
open PySem PySem.Spec PyProof.Rows
/-! ### within an except suite: a new exception gets the handled one as its context -/
theorem entry_unchain : entryFor table "proto.unchain" = some Builtin.«proto.unchain» := entryFor_of_tree (by kernel_rfl)
structure Hot (A : Around) (h : Heap) : Prop where
  ex : ∃ x ox vx, A.handled = some (.ref x) ∧ h.get? x = some ox ∧ ox.data = .fields vx ∧ vx[2]? = some .none
theorem Hot.keep {A : Around} {h h' : Heap} (z : Hot A h) (k : ∀ b o, h.get? b = some o → A.handled = some (.ref b) → h'.get? b = some o) : Hot A h' := by
  obtain ⟨x, ox, vx, a, b, c⟩ := z.ex
  exact ⟨x, ox, vx, a, k x ox b a, c⟩
theorem Hot.apart {A : Around} {h : Heap} (z : Hot A h) {b : Addr} {o : Obj} (e : h.get? b = some o) (d : ∀ vs : Array Value, o.data = .fields vs → vs[2]? ≠ some .none) : A.handled ≠ some (.ref b) := fun q => by
  obtain ⟨x, ox, vx, a, b', c, c2⟩ := z.ex
  rw [q] at a
  cases a
  rw [e] at b'
  cases b'
  exact d vx c c2
section
variable {prog : Program} {w : World} {A : Around} {E : Value → Shared → Prop} {s : Shared}
theorem raise_hot {α : Type} {a : Addr} {o : Obj} {fs : Array Value} {Q : α → Shared → Prop} (hh : Hot A s.heap) (hne : A.handled ≠ some (.ref a)) (ho : s.heap.get? a = some o) (hd : o.data = .fields fs) (h2 : 2 < fs.size)
    (k : ∀ h' o', h'.get? a = some o' → o'.cls = o.cls → (∀ b, b ≠ a → h'.get? b = s.heap.get? b) → E (.ref a) { s with heap := h' }) : wpAny (model prog w) A (raiseNew (.ref a) : Sem α) Q E s := by
  obtain ⟨x, ox, vx, hA, gx, dx, cx⟩ := hh.ex
  have nxa : x ≠ a := fun z => hne (by rw [hA, z])
  unfold raiseNew
  refine wpAny_bind (wpAny_handled ?_)
  rw [hA]
  dsimp only
  have hb : ((Value.ref x != Value.ref a) = true) := by
    rw [bne_iff_ne]
    intro z
    cases z
    exact nxa rfl
  rw [if_pos hb]
  refine wpAny_bind (wpAny_holding (wpAny_runValue (codeAny_builtin entry_unchain ?_)))
  unfold Builtin.«proto.unchain»
  dsimp only
  refine wpAny_bind (wpAny_field gx dx cx ?_)
  rw [if_pos (show (Value.none == Value.none) = true from by decide)]
  refine wpAny_pure ?_
  refine wpAny_bind ?_
  unfold updateField
  refine wpAny_bind (wpAny_load ho ?_)
  rw [hd]
  dsimp only
  rw [if_pos h2]
  refine wpAny_update ho ?_
  refine wpAny_throw (k _ _ (Heap.get?_update_self _ ho (Obj.isFreed_of_fields (Obj.data_mapFields hd _))) (Obj.cls_mapFields _ _) fun b hb => Heap.get?_update_other _ _ (Ne.symm hb))
theorem stop_hot {α : Type} {Q : α → Shared → Prop} (hh : Hot A s.heap)
    (k : ∀ h' e, (∀ b o, s.heap.get? b = some o → h'.get? b = some o) → (∃ o, h'.get? e = some o ∧ o.cls = .type "StopIteration") → E (.ref e) { s with heap := h' }) :
    wpAny (model prog w) A (newExc (.type "StopIteration") [] >>= fun e => (raiseNew e : Sem α)) Q E s := by
  refine wpAny_bind ?_
  simp only [newExc, newTuple]
  refine wpAny_bind (wpAny_newObj_type ?_ (by size_fits))
  refine wpAny_bind (m := firstArgMember _ _) (wpAny_of_eq (a := Value.none) (by first | rfl | (simp only [firstArgMember]; rfl)) (wpAny_newObj_type ?_ (by size_fits)))
  have kp : ∀ b o, s.heap.get? b = some o → ∀ u v : Obj, ((s.heap.push u).push v).get? b = some o := fun b o e u v => Heap.get?_push_of_some _ (Heap.get?_push_of_some _ e)
  have zz : (s.heap.push { cls := Value.type "tuple", data := Data.seq #[] }).get? (s.heap.push { cls := Value.type "tuple", data := Data.seq #[] }).objs.size = none := Heap.get?_none_of_le (Nat.le_refl _)
  refine raise_hot (hh.keep fun b o e _ => kp b o e _ _) (fun q => ?_) (Heap.get?_push_size _ rfl) rfl (by rw [Array.size_append]; show 2 < 6 + _; omega) fun h' o' e1 e2 e3 => k h' _ (fun b o e => ?_) ⟨o', e1, e2⟩
  · obtain ⟨x, ox, vx, hA, gx, _⟩ := hh.ex
    rw [hA] at q
    cases q
    have := Heap.get?_push_of_some { cls := Value.type "tuple", data := Data.seq #[] } gx
    rw [zz] at this
    cases this
  · rw [e3 b fun z => ?_]
    · exact kp b o e _ _
    · have := Heap.get?_push_of_some { cls := Value.type "tuple", data := Data.seq #[] } e
      rw [z, zz] at this
      cases this
theorem it_data {vs : Array Value} {v : Value} {n : Int} {t : Tok} (e : (Data.fields #[v, .int n t]) = .fields vs) : vs[2]? ≠ some .none := by
  cases e
  simp
theorem nextOf_hot {it l : Addr} {i : Nat} {items : Array Value} {Q : Value → Shared → Prop} (hh : Hot A s.heap) (hit : s.heap.IsListIter it l i) (hl : s.heap.IsList l items) (hx : items[i]? = none)
    (k : ∀ h' e, Heap.ExtBut it s.heap h' → (∃ o, h'.get? e = some o ∧ o.cls = .type "StopIteration") → E (.ref e) { s with heap := h' }) : wpAny (model prog w) A (Builtin.SmallTypes.nextOf (.ref it)) Q E s := by
  obtain ⟨oi, gi, ci, di⟩ := id hit
  obtain ⟨ol, gl, _, nl, dl⟩ := hl
  unfold Builtin.SmallTypes.nextOf
  refine wpAny_bind (wpAny_callSpecial?_slot (name := Str.ofString "__next__") hit.typeIs slot_listiter_next (wpAny_call_entry slot_listiter_next hit.typeIs entry_listiter_next ?_ (args_listiter_next _)))
  show wpAny _ _ (field (.ref it) 0 >>= _) _ _ s
  refine wpAny_bind (wpAny_field gi di (x := .ref l) rfl ?_)
  rw [if_neg (show ¬ ((Value.ref l == Value.none) = true) from Bool.false_ne_true)]
  refine wpAny_bind (wpAny_field gi di (x := .int i 0) rfl ?_)
  refine wpAny_bind (wpAny_seqItems gl dl ?_)
  simp only [Int.toNat_natCast, hx]
  refine wpAny_bind (wpAny_rule (wpAny_bind (wpAny_setField gi di (by simp) ?_)))
  have sb := Heap.SameBut.update s.heap it (Obj.mapFields (·.setIfInBounds 0 Value.none))
  have nit : A.handled ≠ some (.ref it) := hh.apart gi fun vs e => it_data (by rw [← di]; exact e)
  refine stop_hot (A := A.in1) ⟨(hh.keep fun b o e q => (sb.2 b fun z => nit (by rw [q, z])).trans e).ex⟩ fun h' e k1 k2 => k h' e (fun b o hb e => k1 b o ((sb.2 b hb).trans e)) k2
theorem zip_hot {z TI TO i1 i2 l1 l2 : Addr} {k1 k2 : Nat} {xs ys : Array Value} {a b : Value} {Q : Fin → Shared → Prop} (hh : Hot A s.heap) (D : ZipApart z TI TO i1 i2 l1 l2)
    (hz : IsZip s.heap z TI TO .none) (hTI : IsPair s.heap TI (.ref i1) (.ref i2)) (hTO : IsPair s.heap TO a b)
    (h1 : s.heap.IsListIter i1 l1 k1) (h2 : s.heap.IsListIter i2 l2 k2) (hl1 : s.heap.IsList l1 xs) (hl2 : s.heap.IsList l2 ys) (hend : xs[k1]? = none ∨ ys[k2]? = none)
    (hE : ∀ h' e, (∀ c o, c ≠ z → c ≠ TO → c ≠ i1 → c ≠ i2 → s.heap.get? c = some o → h'.get? c = some o) → (∃ o, h'.get? e = some o ∧ o.cls = .type "StopIteration") → E (.ref e) { s with heap := h' }) :
    wpAny (model prog w) A (Builtin.«zip.__next__» ⟨[.ref z], []⟩) Q E s := by
  have nz : A.handled ≠ some (.ref z) := hh.apart hz fun vs e => by cases e; simp
  have nTO : A.handled ≠ some (.ref TO) := hh.apart hTO fun vs e => by cases e
  have ni1 : A.handled ≠ some (.ref i1) := by
    obtain ⟨oi, gi, ci, di⟩ := id h1
    exact hh.apart gi fun vs e => it_data (by rw [← di]; exact e)
  show wpAny _ A (field (.ref z) 2 >>= _) _ _ s
  refine wpAny_bind (wpAny_field hz rfl (x := .bool false) rfl ?_)
  show wpAny _ A (field (.ref z) 3 >>= _) _ _ s
  refine wpAny_bind (wpAny_field hz rfl (x := .ref TI) rfl ?_)
  refine wpAny_bind (wpAny_seqItems hTI rfl ?_)
  show wpAny _ _ (Builtin.SmallTypes.ownedTupleIsFree (.ref z) >>= _) _ _ _
  refine wpAny_bind ?_
  unfold Builtin.SmallTypes.ownedTupleIsFree
  refine wpAny_bind (wpAny_field hz rfl (x := .none) rfl (wpAny_pure ?_))
  simp only [if_true]
  refine wpAny_bind (wpAny_rule (wpAny_bind (wpAny_field hz rfl (x := .ref TO) rfl ?_)))
  refine wpAny_bind (wpAny_setField_rec hz (by simp) fun g1 hz1 sb1 => ?_)
  replace hz1 : IsZip g1 z TI TO .ellipsis := hz1
  refine wpAny_bind ?_
  simp only [List.zipIdx_cons, List.zipIdx_nil, List.forIn_cons, List.forIn_nil]
  refine wpAny_bind (wpAny_bind (wpAny_onRaise ?_))
  show wpAny _ _ (Builtin.SmallTypes.nextOf (.ref i1) >>= _) _ _ _
  have hh1 : Hot A g1 := hh.keep fun c o e q => sb1.extBut _ _ (fun w => nz (by rw [q, w])) e
  cases hx : xs[k1]? with
  | none =>
    refine wpAny_bind (nextOf_hot hh1 (h1.extBut sb1.extBut D.i1z) (hl1.extBut sb1.extBut D.l1z) hx fun g2 e sb2 he => ?_)
    obtain ⟨oe, goe, ce⟩ := he
    have hz2 : IsZip g2 z TI TO .ellipsis := sb2 _ _ D.i1z.symm hz1
    have nez : e ≠ z := fun x => by subst x; rw [hz2] at goe; cases goe; simp at ce
    refine wpAny_setField_rec hz2 (by simp) fun g3 _ sb3 => hE g3 e (fun c o c1 _ c3 _ x => sb3.extBut _ _ c1 (sb2 _ _ c3 (sb1.extBut _ _ c1 x))) ⟨oe, sb3.extBut _ _ nez goe, ce⟩
  | some x =>
    have hy : ys[k2]? = none := by
      rcases hend with q | q
      · rw [hx] at q; cases q
      · exact q
    refine wpAny_bind (wpAny_nextOf_list_item (h1.extBut sb1.extBut D.i1z) (hl1.extBut sb1.extBut D.l1z) hx fun g2 h12 sb2 => wpAny_pure ?_)
    have hTO2 : IsPair g2 TO a b := sb2.extBut _ _ D.TOi1 (sb1.extBut _ _ D.TOz hTO)
    refine wpAny_bind (wpAny_seqItems hTO2 rfl ?_)
    refine wpAny_bind (wpAny_updateSeq_pair hTO2 fun g3 hTO3 sb3 => ?_)
    refine wpAny_bind (wpAny_letGo (wpAny_pure ?_))
    refine wpAny_bind (wpAny_bind (wpAny_onRaise ?_))
    show wpAny _ _ (Builtin.SmallTypes.nextOf (.ref i2) >>= _) _ _ _
    have hh3 : Hot A g3 := hh1.keep fun c o e q => sb3.extBut _ _ (fun w => nTO (by rw [q, w])) (sb2.extBut _ _ (fun w => ni1 (by rw [q, w])) e)
    refine wpAny_bind (nextOf_hot hh3 (((h2.extBut sb1.extBut D.i2z).extBut sb2.extBut D.i12.symm).extBut sb3.extBut D.TOi2.symm) (((hl2.extBut sb1.extBut D.l2z).extBut sb2.extBut D.l2i1).extBut sb3.extBut D.l2TO) hy fun g4 e sb4 he => ?_)
    obtain ⟨oe, goe, ce⟩ := he
    have hz4 : IsZip g4 z TI TO .ellipsis := sb4 _ _ D.i2z.symm (sb3.extBut _ _ D.TOz.symm (sb2.extBut _ _ D.i1z.symm hz1))
    have nez : e ≠ z := fun x => by subst x; rw [hz4] at goe; cases goe; simp at ce
    refine wpAny_setField_rec hz4 (by simp) fun g5 _ sb5 => hE g5 e (fun c o c1 c2 c3 c4 x => sb5.extBut _ _ c1 (sb4 _ _ c4 (sb3.extBut _ _ c2 (sb2.extBut _ _ c3 (sb1.extBut _ _ c1 x))))) ⟨oe, sb5.extBut _ _ nez goe, ce⟩
theorem zip_end_hot {z TI TO i1 i2 l1 l2 : Addr} {k1 k2 : Nat} {xs ys : Array Value} {a b : Value} {Q : Option Value → Shared → Prop} (hh : Hot A s.heap) (D : ZipApart z TI TO i1 i2 l1 l2)
    (hz : IsZip s.heap z TI TO .none) (hTI : IsPair s.heap TI (.ref i1) (.ref i2)) (hTO : IsPair s.heap TO a b)
    (h1 : s.heap.IsListIter i1 l1 k1) (h2 : s.heap.IsListIter i2 l2 k2) (hl1 : s.heap.IsList l1 xs) (hl2 : s.heap.IsList l2 ys) (hend : xs[k1]? = none ∨ ys[k2]? = none)
    (hQ : ∀ h', (∀ c o, c ≠ z → c ≠ TO → c ≠ i1 → c ≠ i2 → s.heap.get? c = some o → h'.get? c = some o) → Q none { s with heap := h' }) : wpAny (model prog w) A (pyNext (.ref z)) Q E s := by
  have hT : s.TypeIs (.ref z) "zip" := ⟨_, hz, rfl⟩
  unfold pyNext
  refine wpAny_bind (wpAny_attempt (wpAny_callSpecial?_slot (name := Str.ofString "__next__") hT F.slot_zip_next (wpAny_call_entry F.slot_zip_next hT F.entry_zip_next (zip_hot (A := A.in1) ⟨hh.ex⟩ D hz hTI hTO h1 h2 hl1 hl2 hend fun h' e hk he => ?_) (F.args_zip_next_1 _))))
  obtain ⟨oe, goe, ce⟩ := he
  refine wpAny_bind (wpAny_isInstance (T := "StopIteration") (b := true) ⟨oe, goe, ce⟩ isSubtype_stop (wpAny_pure (hQ _ hk)))
theorem tup_end_hot {it t : Addr} {i : Nat} {items : Array Value} {Q : Option Value → Shared → Prop} (hh : Hot A s.heap) (hit : IsTupIter s.heap it t i) (ht : IsTup s.heap t items) (hx : items[i]? = none)
    (hQ : ∀ h', Heap.ExtBut it s.heap h' → Q none { s with heap := h' }) : wpAny (model prog w) A (pyNext (.ref it)) Q E s := by
  obtain ⟨oi, gi, ci, di⟩ := id hit
  obtain ⟨ol, gl, _, nl, dl⟩ := ht
  unfold pyNext
  refine wpAny_bind (wpAny_attempt (wpAny_callSpecial?_slot (name := Str.ofString "__next__") hit.typeIs slot_tupleiter_next (wpAny_call_entry slot_tupleiter_next hit.typeIs entry_tupleiter_next ?_ (args_tupleiter_next _))))
  show wpAny _ _ (field (.ref it) 0 >>= _) _ _ s
  refine wpAny_bind (wpAny_field gi di (x := .ref t) rfl ?_)
  rw [if_neg (show ¬ ((Value.ref t == Value.none) = true) from Bool.false_ne_true)]
  refine wpAny_bind (wpAny_field gi di (x := .int i 0) rfl ?_)
  refine wpAny_bind (wpAny_seqItems gl dl ?_)
  simp only [Int.toNat_natCast, hx]
  refine wpAny_bind (wpAny_rule (wpAny_bind (wpAny_setField gi di (by simp) ?_)))
  have sb := Heap.SameBut.update s.heap it (Obj.mapFields (·.setIfInBounds 0 Value.none))
  have nit : A.handled ≠ some (.ref it) := hh.apart gi fun vs e => it_data (by rw [← di]; exact e)
  refine stop_hot (A := A.in1) ⟨(hh.keep fun b o e q => (sb.2 b fun z => nit (by rw [q, z])).trans e).ex⟩ fun h' e k1 k2 => ?_
  obtain ⟨oe, goe, ce⟩ := k2
  exact wpAny_bind (wpAny_isInstance (T := "StopIteration") (b := true) ⟨oe, goe, ce⟩ isSubtype_stop (wpAny_pure (hQ _ fun b o hb e => k1 b o ((sb.2 b hb).trans e))))
theorem unpack_hot {t : Addr} {items : Array Value} {Q : List Value → Shared → Prop} (hh : Hot A s.heap) (ht : IsTup s.heap t items)
    (hQ : ∀ h', Heap.ExtBut s.heap.objs.size s.heap h' → Q items.toList { s with heap := h' }) : wpAny (model prog w) A (unpackItems (.ref t) items.size none) Q E s := by
  have tlt : t ≠ s.heap.objs.size := by obtain ⟨o, ho, _⟩ := ht; exact Nat.ne_of_lt (Heap.lt_size ho)
  unfold unpackItems
  refine wpAny_bind ?_
  unfold notIterableAtAll
  refine wpAny_bind (wpAny_specialOf ht.typeIs slot_tuple_iter.lookup (wpAny_pure ?_))
  simp only [Bool.false_eq_true, if_false]
  refine wpAny_bind (wpAny_holding (iter_tuple ht ?_))
  refine wpAny_bind (wpAny_holding (draw_tuple tlt items.size 0 _ _ ⟨_, Heap.get?_push_size _ rfl, rfl, rfl⟩ (ht.push _) (by omega) fun g1 it1 sb1 => ?_))
  rw [show List.take items.size (List.drop 0 items.toList) = items.toList by rw [List.drop_zero]; exact List.take_of_length_le (by simp)]
  rw [if_neg (by simp)]
  have ht1 : IsTup g1 t items := (ht.push _).extBut sb1.extBut tlt
  have hh1 : Hot A g1 := hh.keep fun b o e _ => sb1.extBut b o (Nat.ne_of_lt (Heap.lt_size e)) (Heap.get?_push_of_some _ e)
  refine wpAny_bind (wpAny_holding (tup_end_hot hh1 it1 ht1 (by simp) fun g2 he2 => ?_))
  simp only [Option.isSome_none, Bool.false_eq_true, if_false]
  exact wpAny_pure (hQ g2 fun b o hb e => he2 b o hb (sb1.extBut b o hb (Heap.get?_push_of_some _ e)))
theorem assign_hot {env : Env} {elts : List Expr} {x1 : Nat} {pos : Pos} {t : Addr} {items : Array Value} {Q : Unit → Shared → Prop} (hh : Hot A s.heap) (ht : IsTup s.heap t items)
    (hn : (assignEach elts env).length = items.size) (hstar : (assignEach elts env).findIdx? (·.1) = none)
    (h : ∀ h', Heap.ExtBut s.heap.objs.size s.heap h' → wpAny (model prog w) A (assignInOrder ((assignEach elts env).map (·.2)) items.toList) Q E { s with heap := h' }) :
    wpAny (model prog w) A (assign (.Tuple elts x1 pos) env (.ref t)) Q E s := by
  rw [assign_Tuple]
  refine wpAny_bind (wpAny_standAt ?_)
  unfold unpack
  rw [hn, hstar]
  exact wpAny_bind (wpAny_holding (unpack_hot hh ht h))
end
end L2

end
section
set_option maxHeartbeats 4000000
namespace L2
open PySem PySem.Spec PyProof.Rows
/-! ### a def that runs within an except suite: the handled exception is an object of its entry -/
def Qu (X : Cx) : Prop := ∃ ea oe vs, X.A.handled = some (.ref ea) ∧ X.s_0.heap.get? ea = some oe ∧ X.H_0 ea = none ∧ ea ∉ X.fs ∧ ea ∉ X.ex ∧ oe.data = .fields vs ∧ vs[2]? = some .none
theorem Qu.hot {X : Cx} {pins : List (Addr × Obj)} {σ : St} {H : Hp} {s : Shared} (q : Qu X) (I : Inv X pins σ H s) : Hot X.A s.heap := by
  obtain ⟨ea, oe, vs, a, b, c, d, e, f⟩ := q
  exact ⟨ea, oe, vs, a, I.base.keep ea oe b c d e, f⟩
theorem Qu.blk {X : Cx} {pins : List (Addr × Obj)} {σ : St} {H : Hp} {s : Shared} {scope : Scope} {ce : Env} {fp : List Addr} (q : Qu X) (I : Inv X pins σ H s) (f : ∀ b ∈ fp, FpOk X pins H b) : Qu (X.blk s H scope ce fp) := by
  obtain ⟨ea, oe, vs, a, b, c, d, e, g⟩ := q
  have k := I.base.keep ea oe b c d e
  refine ⟨ea, oe, vs, a, k, I.base.free ea oe b c e, fun z => ?_, fun z => ?_, g⟩
  · obtain ⟨_, o2, ho, nf⟩ := I.stack.mem z
    rw [k] at ho; cases ho
    exact nf vs g.1
  · rcases (f ea z).2.2.2.1 with w | w
    · exact e w
    · exact absurd (Nat.lt_of_lt_of_le (Heap.lt_size b) w) (Nat.lt_irrefl _)

structure TurnQ (P : Program) (w : World) (K : PySem.W.Frag) (tg : Expr) (J : It) (fp : List Addr) (it : Addr) (tn : Nat → Heap → Prop) : Prop where
  mem : it ∈ fp
  obj : ∀ i h, tn i h → ∀ b ∈ fp, ∃ o, h.get? b = some o ∧ ∀ v, o.data ≠ .cell v
  keep : ∀ i h h', tn i h → (∀ b ∈ fp, ∀ o, h.get? b = some o → h'.get? b = some o) → tn i h'
  item : ∀ (X : Cx), X.prog = P → X.w = w → X.K = K → Qu X → ∀ (i : Nat) (pins : List (Addr × Obj)) (s : Shared) (σ : St) (H : Hp) (E : Value → Shared → Prop), Inv X pins σ H s → (∀ b ∈ fp, FpOk X pins H b) → tn i s.heap → J.go i H →
    wpAny (model P w) X.A (pyNext (.ref it)) (fun r s1 => ∃ u, r = some u ∧
      wpAny (model P w) X.A (letOwnedTupleGo tg (.ref it) u) (fun _ s2 => ∃ x H', Inv X pins σ H' s2 ∧ RelV x u ∧ J.yld i H x H' ∧ tn (i + 1) s2.heap ∧ ∀ b ∈ fp, H' b = none) E s1) E s
  done : ∀ (X : Cx), X.prog = P → X.w = w → X.K = K → Qu X → ∀ (i : Nat) (pins : List (Addr × Obj)) (s : Shared) (σ : St) (H : Hp) (E : Value → Shared → Prop), Inv X pins σ H s → (∀ b ∈ fp, FpOk X pins H b) → tn i s.heap → J.stop i H →
    wpAny (model P w) X.A (pyNext (.ref it)) (fun r s1 => r = none ∧ Inv X pins σ H s1) E s
  self : ∀ (A : Around) (i : Nat) (s : Shared) (Q : Value → Shared → Prop) (E : Value → Shared → Prop), tn i s.heap → Q (.ref it) s → wpAny (model P w) A (pyIter (.ref it)) Q E s
def PIEQ (X : Cx) (pins : List (Addr × Obj)) (σ : St) (tg : Expr) (R : It → Hp → Prop) (itv : Value) (s2 : Shared) : Prop :=
  ∃ (it : Addr) (fp : List Addr) (tn : Nat → Heap → Prop) (J : It) (H' : Hp), itv = .ref it ∧ Inv X pins σ H' s2 ∧ TurnQ X.prog X.w X.K tg J fp it tn ∧ tn 0 s2.heap ∧ (∀ b ∈ fp, FpOk X pins H' b) ∧ R J H'
def PIQ (X : Cx) (tg iter : Expr) (wi : TI) : Prop :=
  ∀ (pins : List (Addr × Obj)) (s : Shared) (σ : St) (H : Hp) (R : It → Hp → Prop), Inv X pins σ H s → wi σ H R →
    wpAny (model X.prog X.w) X.A (eval iter X.env) (fun v s1 => wpAny (model X.prog X.w) X.A (pyIter v) (PIEQ X pins σ tg R) X.xe s1) X.xe s

theorem turn_zipQ {P : Program} {w : World} {K : PySem.W.Frag} {elts : List Expr} {kk : Nat} {tpos : Pos} {a b z TI TO i1 i2 : Addr} (D : ZipApart z TI TO i1 i2 a b) :
    TurnQ P w K (.Tuple elts kk tpos) (Itz K a b) [z, TI, TO, i1, i2] z (fun i h => IsZip h z TI TO .none ∧ IsPair h TI (.ref i1) (.ref i2) ∧ (∃ x y, IsPair h TO x y) ∧ h.IsListIter i1 a i ∧ h.IsListIter i2 b i) where
  mem := by simp
  obj := fun i h st c hc => by
    obtain ⟨hz, hTI, ⟨x, y, hTO⟩, ⟨o1, e1, _, d1⟩, ⟨o2, e2, _, d2⟩⟩ := st
    have e' : c = z ∨ c = TI ∨ c = TO ∨ c = i1 ∨ c = i2 := by simpa using hc
    rcases e' with q | q | q | q | q
    · rw [q]; exact ⟨_, hz, fun v q => nomatch q⟩
    · rw [q]; exact ⟨_, hTI, fun v q => nomatch q⟩
    · rw [q]; exact ⟨_, hTO, fun v q => nomatch q⟩
    · rw [q]; exact ⟨o1, e1, fun v q => by rw [d1] at q; cases q⟩
    · rw [q]; exact ⟨o2, e2, fun v q => by rw [d2] at q; cases q⟩
  keep := fun i h h' st k => by
    obtain ⟨hz, hTI, ⟨x, y, hTO⟩, h1, h2⟩ := st
    exact ⟨k z (by simp) _ hz, k TI (by simp) _ hTI, ⟨x, y, k TO (by simp) _ hTO⟩, h1.at fun o q => k i1 (by simp) o q, h2.at fun o q => k i2 (by simp) o q⟩
  item := by
    intro X hP hw hK hc i pins s σ H E I hf st hg
    subst hP hw hK
    obtain ⟨hz, hTI, ⟨x0, y0, hTO⟩, h1, h2⟩ := st
    obtain ⟨xs, ys, x, y, hqx, hqy, hx, hy⟩ := hg
    obtain ⟨its, rv, p, _⟩ := I.list hqx
    obtain ⟨its2, rv2, p2, _⟩ := I.list hqy
    obtain ⟨u, hu, ru⟩ := rv.get hx
    obtain ⟨u2, hu2, ru2⟩ := rv2.get hy
    have hzl : z < s.heap.objs.size := Heap.lt_size hz
    refine wpAny_pyNext_zip_item D hz hTI hTO h1 h2 p.isList p2.isList (x := u) (y := u2) (by simpa using hu) (by simpa using hu2) fun h' z' TO' h1' h2' hT hsz hk => ?_
    refine ⟨_, rfl, wpAny_letOwnedTupleGo_zip (s := { s with heap := h' }) z' fun h'' z'' sb => ?_⟩
    have hT2 : h''.get? s.heap.objs.size = some { cls := .type "tuple", data := .seq #[u, u2] } := (sb.2 _ (Nat.ne_of_gt hzl)).trans hT
    have new : ObjOk X.prog X.w (upd H s.heap.objs.size (.tup [x, y])) h'' s.heap.objs.size (.tup [x, y]) :=
      ⟨by show 2 ≤ sizeLine; decide, [u, u2], .cons ru (.cons ru2 .nil), ⟨_, hT2, rfl, _, rfl⟩⟩
    have I1 : Inv X pins σ (upd H s.heap.objs.size (.tup [x, y])) { s with heap := h'' } :=
      I.turnedNew (t' := s.toks) (ch := [z, TI, TO, i1, i2]) (fun c o hb q => (sb.2 c (fun q' => hb (by simp [q']))).trans (hk c o (fun q' => hb (by simp [q'])) (fun q' => hb (by simp [q'])) (fun q' => hb (by simp [q'])) (fun q' => hb (by simp [q'])) q)) hf (Nat.le_refl _) new
    refine ⟨.ref s.heap.objs.size, _, I1, rfl, ⟨_, x, y, rfl, I.hok.fresh (Nat.le_refl _), rfl, fun l hl => by rw [I.list_inj hl hqx]; exact hx, fun l hl => by rw [I.list_inj hl hqy]; exact hy⟩, ⟨z'', ?_, ⟨u, u2, ?_⟩, ?_, ?_⟩, fun c hcm => ?_⟩
    · exact (sb.2 _ D.TIz).trans (hk _ _ D.TIz D.TITO D.TIi1 D.TIi2 hTI)
    · exact (sb.2 _ D.TOz).trans TO'
    · exact h1'.at fun o q => (sb.2 _ D.i1z).trans q
    · exact h2'.at fun o q => (sb.2 _ D.i2z).trans q
    · have hlt : c < s.heap.objs.size := by
        have e' : c = z ∨ c = TI ∨ c = TO ∨ c = i1 ∨ c = i2 := by simpa using hcm
        rcases e' with q | q | q | q | q
        · rw [q]; exact hzl
        · rw [q]; exact Heap.lt_size hTI
        · rw [q]; exact Heap.lt_size hTO
        · rw [q]; obtain ⟨_, e1, _⟩ := h1; exact Heap.lt_size e1
        · rw [q]; obtain ⟨_, e2, _⟩ := h2; exact Heap.lt_size e2
      rw [upd_ne (Nat.ne_of_lt hlt)]
      exact (hf c hcm).1
  done := by
    intro X hP hw hK hc i pins s σ H E I hf st hg
    subst hP hw hK
    obtain ⟨hz, hTI, ⟨x0, y0, hTO⟩, h1, h2⟩ := st
    obtain ⟨xs, ys, hqx, hqy, hend⟩ := hg
    obtain ⟨its, rv, p, _⟩ := I.list hqx
    obtain ⟨its2, rv2, p2, _⟩ := I.list hqy
    have l1 := rv.length
    have l2 := rv2.length
    have he : its.toArray[i]? = none ∨ its2.toArray[i]? = none := by
      rcases hend with q | q
      · exact .inl (by simp; omega)
      · exact .inr (by simp; omega)
    exact zip_end_hot (hc.hot I) D hz hTI hTO h1 h2 p.isList p2.isList he fun h' hk => ⟨rfl, I.turnedL (t' := s.toks) (ch := [z, TI, TO, i1, i2]) (fun c o hb q =>
      hk c o (fun q' => hb (by simp [q'])) (fun q' => hb (by simp [q'])) (fun q' => hb (by simp [q'])) (fun q' => hb (by simp [q'])) q) hf⟩
  self := fun A i s Q E st h => wpAny_pyIter_zip st.1 h
theorem pi_zipQ {X : Cx} {e e2 : Expr} {ta : TA} {p pos tpos : Pos} {elts : List Expr} {kk : Nat} (hg : Gl X "zip") (hm : X.mg "zip" = none) (ha : PA X [e, e2] ta)
    (hs : starEach [e, e2] X.env = (false, eval e X.env) :: starEach [e2] X.env := by rfl) (hpl : (backTo pos (starEach [e2] X.env)).any (·.1) = false := by rfl) :
    PIQ X (.Tuple elts kk tpos) (.Call (.Name "zip" p) [e, e2] [] pos) (iZip X.K ta) := by
  intro pins s σ H R I h
  refine Call_ (ld_blt I hg hm boot_zip5 (PyProof.Rows.callWith_type1 (thn (ha pos pins s σ H _ I h) fun us s1 ⟨vs, H1, I1, r1, q1⟩ => ?_) hs hpl))
  obtain ⟨a, b, xs, ys, ex, hqx, hqy, q⟩ := q1
  subst ex
  cases r1 with
  | cons r rr =>
    cases rr with
    | cons r' rr =>
      cases rr
      cases r
      cases r'
      obtain ⟨its, rv, p1, _⟩ := I1.list hqx
      obtain ⟨its2, rv2, p2, _⟩ := I1.list hqy
      have la : a < s1.heap.objs.size := p1.lt
      have lb : b < s1.heap.objs.size := p2.lt
      refine call_zip_2 p1.isList p2.isList fun h' hz hTI hTO h1 h2 hsz hk => wpAny_pyIter_zip hz ?_
      have I2 : Inv X pins σ H1 { s1 with heap := h' } := I1.kept (t' := s1.toks) hk
      refine ⟨s1.heap.objs.size + 4, [s1.heap.objs.size + 4, s1.heap.objs.size + 2, s1.heap.objs.size + 3, s1.heap.objs.size, s1.heap.objs.size + 1], _, _, H1, rfl, I2, turn_zipQ (PySem.W.ktu_apart s1.heap.objs.size a b la lb), ⟨hz, hTI, ⟨_, _, hTO⟩, h1, h2⟩, fun c hcm => ?_, q⟩
      have e' : c = s1.heap.objs.size + 4 ∨ c = s1.heap.objs.size + 2 ∨ c = s1.heap.objs.size + 3 ∨ c = s1.heap.objs.size ∨ c = s1.heap.objs.size + 1 := by simpa using hcm
      have hle : s1.heap.objs.size ≤ c := by
        rcases e' with z | z | z | z | z
        · rw [z]; exact Nat.le_add_right _ _
        · rw [z]; exact Nat.le_add_right _ _
        · rw [z]; exact Nat.le_add_right _ _
        · rw [z]; exact Nat.le_refl _
        · rw [z]; exact Nat.le_add_right _ _
      exact I1.fpOk hle (I1.hok.fresh hle)
theorem lc_coreQ {X : Cx} {pins : List (Addr × Obj)} {s : Shared} {σ : St} {H : Hp} {Q : VK} {elt tg iter : Expr} {ifs : List Expr} {scope : Scope} {own : List (Str × Nat)} {pos pos' : Pos} {wi : TI} {g : TG} {tt : TT} {te : TE} {use : Option (Value → Sem Unit)} {Qf : Value → Shared → Prop}
    (hc : Qu X) (hN : X.N.Nodup) (I : Inv X pins σ H s) (hi : PIQ X tg iter wi) (ok : BlkOk X.N X.env.scope scope own)
    (hg : ∀ (s : Shared) (H : Hp) (C : Addr) (cl : List (Str × Addr)) (fp : List Addr), Qu (X.blk s H scope (compEnvC scope cl C X.env) fp) → PG (X.blk s H scope (compEnvC scope cl C X.env) fp) tg g) (ht : ∀ (s : Shared) (H : Hp) (C : Addr) (cl : List (Str × Addr)) (fp : List Addr), PTs (X.blk s H scope (compEnvC scope cl C X.env) fp) ifs tt)
    (he : ∀ (s : Shared) (H : Hp) (C : Addr) (cl : List (Str × Addr)) (fp : List Addr), PE (X.blk s H scope (compEnvC scope cl C X.env) fp) elt te) (hs : ∀ x, foldedSetIterable iter X.env x = pure x)
    (h : tLc wi g tt te (own.map (·.2)) σ H Q)
    (hRR : ∀ D C s' m H', Inv X pins σ H' s' → Q (.ref D) H' → s'.heap.Ns C m → FpOk X pins H' C → compPost (model X.prog X.w) X.A X.xe use Qf (.ref D) C (.ok .next) s') :
    wpAny (model X.prog X.w) X.A (comprehension (.ListComp elt [⟨tg, iter, ifs, 0⟩] scope pos) scope X.env pos' (newList []) false (eval iter X.env) use) Qf X.xe s := by
  have hfree : ∀ y ∈ scope.names, y.2 = .free → ∃ c, X.env.cells.lookup y.1 = some c := fun y hy e => by
    rcases ok.free y hy e with k | k
    · exact I.ok.has _ (.inl k)
    · exact I.ok.has _ (.inr k)
  refine wpAny_comprehension_free (use := use) rfl hs (closure_ok hfree) ok.kind (fun y hy e => by rw [ok.uniq y hy, e])
    (thn (hi pins s σ H _ I h) fun xv s1 hx => thn hx fun itv s2 h2 => ?_)
  obtain ⟨it, fp, tn, J, H2, e, I2, T, st2, f2, q⟩ := h2
  subst e
  refine wpAny_newObj_type (newEnv_comp ?_) (by show 0 ≤ sizeLine; decide)
  generalize hD : s2.heap.objs.size = D
  have hDn : H2 D = none := I2.hok.fresh (Nat.le_of_eq hD)
  obtain ⟨W, ⟨m0, w0⟩, turn⟩ := q D hDn
  -- the new list
  generalize hs3 : ({ s2 with heap := s2.heap.push { cls := .type "list", data := .seq ([] : List Value).toArray } } : Shared) = s3
  have I3 : Inv X pins σ (upd H2 D (.lst [])) s3 := by
    rw [← hs3]
    refine I2.laid (t' := s2.toks) (fun b o e => Heap.get?_push_of_some _ e) (Nat.le_of_eq hD) ⟨Nat.zero_le _, [], 0, .nil, ?_⟩
    rw [← hD]
    exact Heap.get?_push_size _ rfl
  have h3 : s3.heap = s2.heap.push { cls := .type "list", data := .seq ([] : List Value).toArray } := by rw [← hs3]
  have sz : ∀ b ∈ fp, b < s2.heap.objs.size := fun b hb => by
    obtain ⟨o, e, _⟩ := T.obj _ _ st2 b hb
    exact Heap.lt_size e
  have f3 : ∀ b ∈ fp, FpOk X pins (upd H2 D (.lst [])) b ∧ b < s3.heap.objs.size := fun b hb => by
    have hlt := sz b hb
    refine ⟨⟨?_, (f2 b hb).2⟩, by rw [h3, Heap.size_push]; exact Nat.lt_succ_of_lt hlt⟩
    rw [upd_ne (by rw [← hD]; exact Nat.ne_of_lt hlt)]
    exact (f2 b hb).1
  have st3 : tn 0 s3.heap := T.keep _ _ _ st2 fun b _ o e => by rw [h3]; exact Heap.get?_push_of_some _ e
  have I4 := block_start I3 ok hN f3
  have pg := hg s3 (upd H2 D (.lst [])) s3.heap.objs.size (cellsFrom (s3.heap.objs.size + 1) scope.names (cloFrom X.env.cells scope.names [])) fp (hc.blk I3 fun b hb => (f3 b hb).1)
  have pt := ht s3 (upd H2 D (.lst [])) s3.heap.objs.size (cellsFrom (s3.heap.objs.size + 1) scope.names (cloFrom X.env.cells scope.names [])) fp
  have pe := he s3 (upd H2 D (.lst [])) s3.heap.objs.size (cellsFrom (s3.heap.objs.size + 1) scope.names (cloFrom X.env.cells scope.names [])) fp
  show codeAny _ _ (.compStart (.ListComp elt [⟨tg, iter, ifs, 0⟩] scope pos) 0 (.ref it) (.ref D) (compEnvC scope (cellsFrom (s3.heap.objs.size + 1) scope.names (cloFrom X.env.cells scope.names [])) s3.heap.objs.size X.env)) (compPost (model X.prog X.w) X.A X.xe use Qf (.ref D) s3.heap.objs.size) { s3 with heap := pushCells (s3.heap.push { cls := .type "dict", data := .dict #[] }) scope.names }
  have nfp : ∀ b ∈ fp, (upd H2 D (.lst [])) b = none := fun b hb => (f3 b hb).1.1
  generalize hce : compEnvC scope (cellsFrom (s3.heap.objs.size + 1) scope.names (cloFrom X.env.cells scope.names [])) s3.heap.objs.size X.env = ce at I4 pg pt pe ⊢
  have cL : ce.locals = s3.heap.objs.size := by subst hce; rfl
  generalize hH3 : upd H2 D (.lst []) = H3 at I3 I4 pg pt pe w0 nfp f3
  generalize hs4 : ({ s3 with heap := pushCells (s3.heap.push { cls := .type "dict", data := .dict #[] }) scope.names } : Shared) = s4 at I4 ⊢
  have st4 : tn 0 s4.heap := T.keep _ _ _ st3 fun b _ o e => by rw [← hs4]; exact pushCells_keeps _ _ _ _ (Heap.get?_push_of_some _ e)
  have stat : ∀ {σ' : St} {H' : Hp} {s' : Shared}, Inv (X.blk s3 H3 scope ce fp) [] σ' H' s' → (∀ b ∈ fp, H' b = none) → ∀ b ∈ fp, FpOk (X.blk s3 H3 scope ce fp) [] H' b := fun {σ' H' s'} I' hn b hb =>
    ⟨hn b hb, (I'.ok.exf b hb).1, I'.ok.exfs b hb, .inl hb, fun x c e => (I'.ok.exf b hb).2 x c e, fun p hp => absurd (show p ∈ ([] : List (Addr × Obj)) ++ [] from hp) (by simp)⟩
  have loop : codeAny (model X.prog X.w) X.A (.compLoop (.ListComp elt [⟨tg, iter, ifs, 0⟩] scope pos) 0 (.ref it) (.ref D) ce) (compPost (model X.prog X.w) X.A X.xe use Qf (.ref D) s3.heap.objs.size) s4 := by
    refine compLoop_any (fun n s' => ∃ i H', Inv (X.blk s3 H3 scope ce fp) [] (wipe σ (own.map (·.2))) H' s' ∧ tn i s'.heap ∧ (∀ b ∈ fp, H' b = none) ∧ W i n H') ?_ m0 ⟨0, H3, I4, st4, nfp, w0⟩
    rintro n s5 ⟨i, H5, I5, st5, n5, w5⟩
    rcases turn i n H5 w5 with ⟨stop, qq⟩ | ⟨go, Nx, hNx, step⟩
    · have td := T.done (X.blk s3 H3 scope ce fp) rfl rfl rfl (hc.blk I3 fun b hb => (f3 b hb).1) i [] s5 _ H5 (fun _ _ => False) I5 (stat I5 n5) st5 stop
      refine thnF td fun r s6 ⟨hr, I6⟩ => ?_
      subst hr
      -- back in the def's context
      have I7 : Inv X pins σ H5 s6 := I3.call' (ch := fp) I6.os I6.base I6.hok I6.bare fun b hb => ⟨(f3 b hb).1.2.2.2.1, (f3 b hb).1.2.1, (f3 b hb).1.2.2.2.2.1, (f3 b hb).1.2.2.2.2.2⟩
      have nC : H5 s3.heap.objs.size = none := by
        have z : H5 ce.locals = none := I6.free
        rw [cL] at z
        exact z
      obtain ⟨m, hn, _⟩ := I6.loc
      have hn : s6.heap.Ns ce.locals m := hn
      rw [cL] at hn
      exact hRR D s3.heap.objs.size s6 m H5 I7 qq hn (I3.fpOk (Nat.le_refl _) nC)
    · have ti := T.item (X.blk s3 H3 scope ce fp) rfl rfl rfl (hc.blk I3 fun b hb => (f3 b hb).1) i [] s5 _ H5 (fun _ _ => False) I5 (stat I5 n5) st5 go
      refine thnF ti fun r s6 ⟨u, hr, h6⟩ => ?_
      subst hr
      refine thnF h6 fun _ s7 ⟨x, H7, I7, r7, y7, st7, n7⟩ => ?_
      have I7' := I7.pinned (stat I7 n7) (T.obj _ _ st7)
      refine thnF (pg _ s7 _ H7 x u _ I7' r7 (step x H7 y7)) fun _ s8 ⟨σ8, H8, I8, hw8, q8⟩ => ?_
      refine thnF (pt _ s8 σ8 H8 _ I8 q8) fun b s9 ⟨H9, I9, q9⟩ => ?_
      -- the turn's end
      have fin : ∀ {s' : Shared} {H' : Hp}, Inv (X.blk s3 H3 scope ce fp) ([] ++ pinsAt fp s7.heap) σ8 H' s' → Nx H' → ∃ m, m < n ∧ ∃ i H', Inv (X.blk s3 H3 scope ce fp) [] (wipe σ (own.map (·.2))) H' s' ∧ tn i s'.heap ∧ (∀ b ∈ fp, H' b = none) ∧ W i m H' := fun {s' H'} I' nx => by
        obtain ⟨m', hm, w'⟩ := hNx H' nx
        have pin' : ∀ b ∈ fp, ∀ o, s7.heap.get? b = some o → s'.heap.get? b = some o ∧ H' b = none := fun b hb o e =>
          let z := I'.pin (b, o) (List.mem_append_right _ (List.mem_append_right _ (mem_pinsAt hb e)))
          ⟨z.1, z.2.1⟩
        have hl : (wipe σ (own.map (·.2))).length = σ8.length := by rw [← hw8, wipe_length]
        refine ⟨m', hm, i + 1, H', (I'.unpinned (pins := [])).weak hl (fun j v e => ?_), T.keep _ _ _ st7 fun b hb o e => (pin' b hb o e).1, fun b hb => ?_, w'⟩
        · rw [← hw8] at e
          exact (wipe_some e).1
        · obtain ⟨o, e, _⟩ := T.obj _ _ st7 b hb
          exact (pin' b hb o e).2
      cases b with
      | false =>
        simp only [Bool.false_eq_true, if_false] at q9 ⊢
        exact fin I9 q9
      | true =>
        simp only [if_true] at q9 ⊢
        refine thnF (pe _ s9 σ8 H9 _ I9 q9) fun z s10 ⟨yv, H10, I10, r10, acc, hD10, hz10, nx⟩ => ?_
        exact app_ok (X := X.blk s3 H3 scope ce fp) I10 hD10 hz10 r10 fun s11 I11 => fin I11 nx
  exact codeAny_compStart_list loop (T.self X.A 0 _ _ _ st4 loop)
theorem pe_lcQ {X : Cx} {elt tg iter : Expr} {ifs : List Expr} {scope : Scope} {own : List (Str × Nat)} {pos : Pos} {wi : TI} {g : TG} {tt : TT} {te : TE} (hc : Qu X) (hN : X.N.Nodup) (hi : PIQ X tg iter wi) (ok : BlkOk X.N X.env.scope scope own)
    (hg : ∀ (s : Shared) (H : Hp) (C : Addr) (cl : List (Str × Addr)) (fp : List Addr), Qu (X.blk s H scope (compEnvC scope cl C X.env) fp) → PG (X.blk s H scope (compEnvC scope cl C X.env) fp) tg g) (ht : ∀ (s : Shared) (H : Hp) (C : Addr) (cl : List (Str × Addr)) (fp : List Addr), PTs (X.blk s H scope (compEnvC scope cl C X.env) fp) ifs tt)
    (he : ∀ (s : Shared) (H : Hp) (C : Addr) (cl : List (Str × Addr)) (fp : List Addr), PE (X.blk s H scope (compEnvC scope cl C X.env) fp) elt te) (hs : ∀ x, foldedSetIterable iter X.env x = pure x := by intro _; rfl) :
    PE X (.ListComp elt [⟨tg, iter, ifs, 0⟩] scope pos) (tLc wi g tt te (own.map (·.2))) := by
  intro pins s σ H Q I h
  rw [eval_ListComp]
  refine lc_coreQ hc hN I hi ok hg ht he hs h fun D C s' m H' I' q hn f => ⟨m, hn, fun h'' sb => ?_⟩
  obtain ⟨f0, f1, f2, f3, f4, f5⟩ := f
  exact ⟨.ref D, H', I'.turned (t' := s'.toks) (fun b o hb e => (sb.2 b hb).trans e) f0 f1 f3 f4 f5, rfl, q⟩
theorem pg_tupQ {X : Cx} {pos : Pos} {es : List Expr} {k : Nat} {t : TGs} {n : Nat} (hc : Qu X) (h : PGs X es t)
    (hn : (assignEach es X.env).length = n := by rfl) (hst : (assignEach es X.env).findIdx? (·.1) = none := by rfl) : PG X (.Tuple es k pos) (gTup X.K n t) := by
  intro pins s σ H v u Q I r hw
  obtain ⟨a, xs, e1, hq, hl, hw⟩ := hw
  subst e1
  cases r
  obtain ⟨its, rv, ht, hz⟩ := I.tuple hq
  refine assign_hot (hc.hot I) ht (by simp [hn, ← hl, rv.length]) hst fun h' hx => ?_
  have I1 : Inv X pins σ H { s with heap := h' } := I.kept (t' := s.toks) fun b o e => hx b o (Nat.ne_of_lt (Heap.lt_size e)) e
  exact h pins _ σ H xs _ Q I1 (by simpa using rv) hw
/-- the turns of a comprehension over zip of two lists that the block leaves as they are -/
theorem lc_zip {K : PySem.W.Frag} {a b : Addr} {xs ys : List V} {g : TG} {tt : TT} {te : TE} {vs : List Nat} {σ : St} {H1 : Hp} {D : Addr} {Qd : Hp → Prop} {n : Nat} (Pv : Nat → Hp → Prop) (h0 : Pv 0 (upd H1 D (.lst []))) (hnx : n ≤ xs.length) (hny : n ≤ ys.length) (hn : n = xs.length ∨ n = ys.length)
    (hl : ∀ i H, i ≤ n → Pv i H → SqL K H a xs ∧ SqL K H b ys)
    (hs : ∀ i x y T H, xs[i]? = some x → ys[i]? = some y → H T = none → Pv i H → g (.ref T) (wipe σ vs) (upd H T (.tup [x, y])) fun σ2 H2 => wipe σ2 vs = wipe σ vs ∧ tt σ2 H2 fun b H3 =>
      if b = true then te σ2 H3 fun y H4 => ∃ acc, H4 D = some (.lst acc) ∧ acc.length < sizeLine ∧ Pv (i + 1) (upd H4 D (.lst (acc ++ [y]))) else Pv (i + 1) H3) (hd : ∀ H, Pv n H → Qd H) :
    ∃ W : Nat → Nat → Hp → Prop, (∃ m, W 0 m (upd H1 D (.lst []))) ∧ ∀ i m H, W i m H →
      ((Itz K a b).stop i H ∧ Qd H) ∨ ((Itz K a b).go i H ∧ ∃ Nx : Hp → Prop, (∀ H', Nx H' → ∃ m', m' < m ∧ W (i + 1) m' H') ∧ ∀ x H', (Itz K a b).yld i H x H' → g x (wipe σ vs) H' fun σ2 H2 => wipe σ2 vs = wipe σ vs ∧ tt σ2 H2 fun b H3 =>
        if b = true then te σ2 H3 fun y H4 => ∃ acc, H4 D = some (.lst acc) ∧ acc.length < sizeLine ∧ Nx (upd H4 D (.lst (acc ++ [y]))) else Nx H3) := by
  refine ⟨fun i m H => m = n - i ∧ i ≤ n ∧ Pv i H, ⟨n, by simp, Nat.zero_le _, h0⟩, ?_⟩
  rintro i m H ⟨rfl, hi, p⟩
  obtain ⟨q1, q2⟩ := hl i H hi p
  by_cases hlt : i < n
  · have e1 : xs[i]? = some xs[i] := by simp
    have e2 : ys[i]? = some ys[i] := by simp
    refine .inr ⟨⟨xs, ys, xs[i], ys[i], q1, q2, e1, e2⟩, Pv (i + 1), fun H' p' => ⟨n - (i + 1), by omega, rfl, hlt, p'⟩, fun x H' y => ?_⟩
    obtain ⟨T, x1, y1, rfl, hT, rfl, f1, f2⟩ := y
    exact hs i x1 y1 T H (f1 xs q1) (f2 ys q2) hT p
  · have e : i = n := by omega
    subst e
    exact .inl ⟨⟨xs, ys, q1, q2, by omega⟩, hd H p⟩
end L2

end
section
set_option maxHeartbeats 4000000
namespace L2
open PySem PySem.Spec PyProof.Rows PySem.W
section
variable {prog : Program} {w : World} {A : Around} {E : Value → Shared → Prop} {s : Shared} {K : Frag} {x D : Addr} {ox : Obj} {od : Option Obj} {name : Str}
/-- an attribute of an exception's object, as its class finds it -/
theorem exc_call {g a : Value} {tk : Tok} {R : Result → Shared → Prop} {P : Value → Shared → Prop} (X : K.In s.heap) (I : PySem.W.InstAt s.heap x ox D od) (hf : findObj K D od name = some (.bind g a)) (hm : mroIn K D (.type "BaseException") = some true)
    (h : ∀ (A : Around) (E : Value → Shared → Prop), wpAny (model prog w) A (call g [a, .ref x, .ref D]) P E s) (hR : ∀ v s', P v s' → R (.ok (.ret v)) s') : codeAny (model prog w) A (.call (.builtin "BaseException.__getattribute__") ⟨[.ref x, .str name tk], []⟩) R s := by
  obtain ⟨hh, gg, d, t, os⟩ := s
  have L0 := I.type (M := model prog w)
  have L1 := looks_find (M := model prog w) X I hf
  have L2 := looks_mroIn (M := model prog w) X hm
  refine codeAny_call_builtin (by decide +kernel) F.entry_bexc_ga ?_
  have hk : builtinKind "BaseException.__getattribute__" = some .slot := by decide +kernel
  have hsp : splitId "BaseException.__getattribute__" = some ("BaseException", "__getattribute__") := by decide +kernel
  have ha := F.args_bexc_ga (.ref x) (.str name tk)
  simp only [checkBuiltinCall, hk, hsp]
  refine wpAny_bind ?_
  unfold isInstance
  refine wpAny_bind (L0.at (L2.at ?_))
  have go : wpAny (model prog w) A.in1 (Builtin.«object.__getattribute__» ⟨[.ref x, .str name tk], []⟩) (fun fin s' => match fin with | .done f => R (.ok f) s' | .again c' => c'.quiet = true ∧ codeAny (model prog w) A c' R s') (fun e s' => R (.error e) s') ⟨hh, gg, d, t, os⟩ := by
    unfold Builtin.«object.__getattribute__»
    refine wpAny_bind (wpAny_pure (wpAny_bind (wpAny_pure (wpAny_bind (L0.at (wpAny_bind (L1.at ?_)))))))
    show wpAny _ _ (Builtin.ObjectAttr.bindTo g a (.ref x) (.ref D)) _ _ _
    unfold Builtin.ObjectAttr.bindTo
    dsimp only
    exact wpAny_bind (wpAny_holding (wpAny_mono (h _ _) (fun v s' q => wpAny_pure (hR v s' q)) fun _ _ z => z))
  simp only [if_true, Bool.not_true, Bool.false_eq_true, if_false]
  cases hsig : Manifest.signature? "BaseException.__getattribute__" with
  | none => exact wpAny_pure go
  | some sig =>
    simp only [argsOk, hsig] at ha
    have h2 : Bind.checkArgs "BaseException.__getattribute__" sig ⟨[.ref x, .str name tk], []⟩ = pure () := ha
    show wpAny _ A.in1 (Bind.checkArgs "BaseException.__getattribute__" sig ⟨[.ref x, .str name tk], []⟩) _ _ _
    rw [h2]
    exact wpAny_pure go
theorem exc_attr? {g a : Value} {Q : Option Value → Shared → Prop} {P : Value → Shared → Prop} (X : K.In s.heap) (I : PySem.W.InstAt s.heap x ox D od) (hga : findIn K (.ref D) "__getattribute__" = some (some (.builtin "BaseException.__getattribute__"))) (hgn : findIn K (.ref D) "__getattr__" = some none)
    (hf : findObj K D od name = some (.bind g a)) (hm : mroIn K D (.type "BaseException") = some true)
    (h : ∀ (A : Around) (E : Value → Shared → Prop), wpAny (model prog w) A (call g [a, .ref x, .ref D]) P E { s with toks := s.toks + 1 }) (hP : ∀ v s', P v s' → wpAny (model prog w) A (handedOut v) (fun v s2 => Q (some v) s2) (fun _ _ => False) s') :
    wpAny (model prog w) A (getAttr? (.ref x) name) Q E s := by
  obtain ⟨hh, gg, d, t, os⟩ := s
  have L0 := I.type (M := model prog w)
  have L1 := looks_findIn (M := model prog w) X hga
  have L2 := looks_findIn (M := model prog w) X hgn
  unfold getAttr? getAttrBy? getAttrBy
  refine wpAny_bind (wpAny_mkText (wpAny_bind (wpAny_attempt (wpAny_holding (wpAny_bind (L0.at (wpAny_bind (L1.at ?_))))))))
  show wpAny _ _ (getAttrByItsOwn (.ref x) _ (.ref D) (.builtin "BaseException.__getattribute__") false false) _ _ _
  unfold getAttrByItsOwn hookBefore callGetattribute
  have f3 := (PySem.F.attr_Exception).ga.bind (.ref x)
  rw [if_pos (show onTheHeap (Value.ref D) = true from rfl)]
  refine wpAny_bind (L2.at ?_)
  refine wpAny_bind (wpAny_attempt (wpAny_holding ?_))
  rw [if_neg (show ¬ ((false && onTheHeap (Value.builtin "BaseException.__getattribute__")) = true) by simp)]
  unfold boundAndCalled
  refine wpAny_bind (wpAny_of_eq f3 ?_)
  dsimp only
  refine wpAny_call (exc_call (s := ⟨hh, gg, d, t + 1, os⟩) (P := P) X I hf hm h fun v s' q => ?_)
  exact wpAny_mono (hP v s' q) (fun v s2 z => wpAny_pure z) fun _ _ z => z.elim
/-- isinstance of an exception's object: what its class is to be -/
structure ExcK (K : Frag) (D : Addr) : Prop where
  ga : findIn K (.ref D) "__getattribute__" = some (some (.builtin "BaseException.__getattribute__"))
  gn : findIn K (.ref D) "__getattr__" = some none
  ha : findIn K (.ref D) "__class__" = some (some (.builtin "object.__class__"))
  hn : specialIn K (.builtin "object.__class__") "__get__" = some (some (.builtin "getset_descriptor.__get__"))
  tk : takesIn K (.builtin "object.__class__") = some true
  mb : mroIn K D (.type "BaseException") = some true
  mo : mroIn K D (.type "object") = some true
  cd : ∃ cd, PySem.W.clsIn K D = some cd
theorem kitx_exc (Z : ExcK K D) : KitX K (.ref x) (.ref D) (fun h => ∃ od, PySem.W.InstAt h x ox D od) where
  ty := fun _ _ _ ⟨_, I⟩ => I.type
  it := fun _ _ X _ => by
    obtain ⟨cdD, hcD⟩ := Z.cd
    unfold PySem.W.clsIn at hcD
    split at hcD
    · rename_i c' d' cd' sl' ho
      intro A' Q' E' s' k q
      unfold isType loadHead
      exact wpAny_bind (wpAny_loadPart (k _ _ (X _ _ ho)) (wpAny_pure q))
    · cases hcD
  ne := fun h tp dd its n sl X htp => by
    obtain ⟨cdD, hcD⟩ := Z.cd
    refine Bool.eq_false_iff.mpr fun q => ?_
    have e : D = tp := Value.ref.inj (beq_iff_eq.mp q)
    subst e
    unfold PySem.W.clsIn at hcD
    split at hcD
    · rename_i c' d' cd' sl' ho
      have z := (X _ _ ho).symm.trans htp
      cases z
    · cases hcD
  ca := fun {prog w A E Q s} X J k => by
    obtain ⟨od, I⟩ := J
    obtain ⟨cd, hcd⟩ := Z.cd
    have hf : findObj K D od "__class__" = some (.bind (.builtin "getset_descriptor.__get__") (.builtin "object.__class__")) := by
      unfold findObj
      rw [hcd, Option.bind_some, Z.ha, Option.bind_some]
      simp [Z.hn, Z.tk]
    refine exc_attr? (P := fun v s' => v = .ref D ∧ s' = { s with toks := s.toks + 1 }) X I Z.ga Z.gn hf Z.mb (fun A E => wpAny_call (class_get (s := { s with toks := s.toks + 1 }) X I Z.mo ⟨rfl, rfl⟩)) fun v s' q => ?_
    obtain ⟨rfl, rfl⟩ := q
    exact handed_on rfl k
end
end L2

end
section
set_option maxHeartbeats 4000000
namespace L2
open PySem PySem.Spec PyProof.Rows
/-! ### defs that may raise -/
section
variable {P : Program} {w : World} {K : PySem.W.Frag} {mg : Str → Option Value} {base : Heap}
theorem Fun.okX {x qual : Str} {st : Stmt} {f : Addr} {fd : FuncData} {N ps : List Str} {k : Nat} {sp : Sp} (F : Fun K x qual st f fd) (S : FnScope N ps (defScope st)) (len : ∀ vs H Q E, sp vs H Q E → vs.length = ps.length)
    (hbody : ∀ (cdv : Value) (A : Around) (outer : List Env) (s : Shared) (H : Hp) (vs : List V) (Q : VK) (E : XK), Room k (A.deeper (envOfC qual (defScope st) s.heap.objs.size f cdv)) → XOk (cxOf (CX1 P w) P w K mg base N qual (defScope st) f cdv A outer s H E) E → sp vs H Q E →
      ∃ t, PSs (cxOf (CX1 P w) P w K mg base N qual (defScope st) f cdv A outer s H E) (defBody st) t ∧ t { nx := fun _ H' => Q .non H', rt := Q } (start N vs) H) : FnOk P w K mg base (CX1 P w) (k + 1) f fd ps sp := by
  obtain ⟨oc, od, kV, doc, pm, an, cdv, ct, osl, rfl, lk, hcd⟩ := F.ex
  exact fn_of lk hcd S len fun A outer s H vs Q E hr hsp => hbody cdv A outer s H vs Q E hr xok_def hsp
end
/-! ### defs that run within an except suite -/
structure RoomQ (k : Nat) (A : Around) : Prop where
  dp : A.depth + 3 * k + 5 < recursionLimit
  un : A.units + 16 * k + 200 < cLine
theorem Room.q {k : Nat} {A : Around} (r : Room k A) : RoomQ k A := ⟨r.dp, r.un⟩
theorem RoomQ.mono {j k : Nat} {A : Around} (r : RoomQ k A) (h : j ≤ k) : RoomQ j A := ⟨by have := r.dp; omega, by have := r.un; omega⟩
theorem RoomQ.deeper {k : Nat} {A : Around} (r : RoomQ (k + 1) A) (env : Env) : RoomQ k (A.deeper env) := ⟨by have := r.dp; show A.depth + 1 + 3 * k + 5 < _; omega, by have := r.un; show A.units + 3 + 16 * k + 200 < _; omega⟩
theorem RoomQ.mark {k : Nat} {A : Around} (r : RoomQ k A) (v : Option Value) : RoomQ k (A.mark v) := ⟨r.dp, r.un⟩
theorem RoomQ.depth {k : Nat} {A : Around} (r : RoomQ k A) : A.depth < recursionLimit := by have := r.dp; omega
theorem huq_of {A : Around} {k : Nat} (hr : RoomQ k A) : A.units + 64 < cLine := by have := hr.un; omega
def ExD (oe : Obj) : Prop := ∃ vs, oe.data = .fields vs ∧ vs[2]? = some .none
structure FnOkQ (P : Program) (w : World) (K : PySem.W.Frag) (mg : Str → Option Value) (base : Heap) (k : Nat) (f : Addr) (fd : FuncData) (ps : List Str) (sp : Addr → Obj → Sp) : Prop where
  len : ∀ ea oe vs H Q E, sp ea oe vs H Q E → vs.length = ps.length
  run : ∀ (A : Around) (outer : List Env) (s : Shared) (H : Hp) (args : Args) (us : List Value) (vs : List V) (Q : VK) (ea : Addr) (oe : Obj), RoomQ k A → A.handled = some (.ref ea) → s.heap.get? ea = some oe → H ea = none → ea ∉ frs outer → Env0 P w K mg base A outer s H → BindsTo s fd args (ps.zip us) → Vals vs us → sp ea oe vs H Q E0 →
    codeAny (model P w) A (.call (.ref f) args) (CR CX0 outer P w H s Q E0) s

def cxOfQ (CX : CXT) (P : Program) (w : World) (K : PySem.W.Frag) (mg : Str → Option Value) (base : Heap) (N : List Str) (qual : Str) (scope : Scope) (f : Addr) (cd : Value) (A : Around) (outer : List Env) (s : Shared) (H : Hp) (E : XK) : Cx where
  prog := P
  w := w
  K := K
  mg := mg
  base := base
  A := A.deeper (envOfC qual scope s.heap.objs.size f cd)
  N := N
  s_0 := s
  H_0 := H
  env := envOfC qual scope s.heap.objs.size f cd
  outer := outer
  stack := envOfC qual scope s.heap.objs.size f cd :: outer
  ex := []
  calm := false
  fn := fun _ => true
  pn := []
  xe := fun e s' => wpAny (model P w) (A.deeper (envOfC qual scope s.heap.objs.size f cd)) (leaving (envOfC qual scope s.heap.objs.size f cd) e) (fun _ s'' => CX outer H s E e s'') (fun e' s'' => CX outer H s E e' s'') s'

theorem inv_startQ {CX : CXT} {P : Program} {w : World} {K : PySem.W.Frag} {mg : Str → Option Value} {base : Heap} {N ps : List Str} {qual : Str} {scope : Scope} {f : Addr} {cd : Value} {A : Around} {outer : List Env} {s s1 : Shared} {H : Hp} {E : XK} {us : List Value} {vs : List V}
    (S : FnScope N ps scope) (e0 : Env0 P w K mg base A outer s H) (hl : vs.length = ps.length) (r : Vals vs us)
    (x : InCallC s s.heap.objs.size (bindL (envOfC qual scope s.heap.objs.size f cd).kindOf (ps.zip us) fun _ => none) (cellsFrom (s.heap.objs.size + 1) scope.names []) (bindC (envOfC qual scope s.heap.objs.size f cd).kindOf (ps.zip us) fun _ => none) s1) :
    Inv (cxOfQ CX P w K mg base N qual scope f cd A outer s H E) [] (start N vs) H s1 := by
  have hpl : ps.length ≤ N.length := by have := congrArg List.length S.pre; rw [List.length_take] at this; omega
  obtain ⟨h1, tk, rfl, hk⟩ := x.done
  have noA : ∀ b : Addr, b ∉ (cxOfQ CX P w K mg base N qual scope f cd A outer s H E).ex := fun b z => absurd (show b ∈ ([] : List Addr) from z) (by simp)
  refine ⟨⟨e0.mod, S.kind, rfl, rfl, Nat.le_refl _, fun y z c h1 h2 => ?_, fun y hy => ?_, fun y c _ h => ?_, fun z => (nomatch z), Around.frames_deeper e0.frames, .inr ⟨rfl, rfl⟩, fun b z => absurd z (noA b), e0.bs, e0.bsz, fun b _ _ => noA b, fun b z => absurd z (noA b), e0.funs, e0.frf⟩,
    rfl, e0.bare, Un.kept hk, ⟨_, x.toInCall.ns, fun i y v h1 h2 h3 => ?_⟩, fun y c h => ⟨_, x.cell y c h⟩, e0.hok.fresh (Nat.le_refl _), fun y c h => ?_, fun p hp => absurd (show p ∈ ([] : List (Addr × Obj)) from hp) (by simp), e0.hok.kept hk, ?_⟩
  · exact name_of_addr x.apart (PySem.mem_of_lookup h1) (PySem.mem_of_lookup h2)
  · have hy : scope.names.lookup y = some .cell ∨ scope.names.lookup y = some .free := hy
    rcases hy with hy | hy
    · exact cell_has hy
    · exact absurd rfl (S.nofree _ (PySem.mem_of_lookup hy))
  · exact Nat.le_of_lt (x.above y c (PySem.mem_of_lookup h))
  · have hi : i < vs.length := by
      unfold start at h2
      by_cases hi : i < vs.length
      · exact hi
      · rw [List.getElem?_append_right (by simpa using hi)] at h2
        rw [List.getElem?_replicate] at h2
        split at h2 <;> cases h2
    have ha : vs[i]? = some v := by
      unfold start at h2
      rw [List.getElem?_append_left (by simpa using hi), List.getElem?_map] at h2
      cases e : vs[i]? with
      | none => rw [e] at h2; cases h2
      | some a => rw [e] at h2; cases h2; rfl
    obtain ⟨u, hu, rv⟩ := r.get ha
    have hp : ps[i]? = some y := by
      rw [← S.pre, List.getElem?_take_of_lt (by omega)]; exact h1
    have ndP : ps.Nodup := by rw [← S.pre]; exact S.nd.sublist (List.take_sublist _ _)
    refine ⟨u, rv, ?_⟩
    rcases S.par y (List.mem_of_getElem? hp) with k | k
    · exact .inl ⟨k, bindL_get ndP hp hu k⟩
    · obtain ⟨c, e⟩ := cell_has (n := s.heap.objs.size + 1) k
      refine .inr ⟨.inl k, c, e, ?_⟩
      have q := x.cell y c e
      rw [bindC_get ndP hp hu (by show scope.names.lookup y ≠ _; rw [k]; decide)] at q
      exact q
  · exact e0.hok.fresh (Nat.le_of_lt (x.above y c (PySem.mem_of_lookup h)))
  · unfold start
    show _ = N.length
    rw [List.length_append, List.length_map, List.length_replicate]
    omega

theorem fn_ofQ {P : Program} {w : World} {K : PySem.W.Frag} {mg : Str → Option Value} {base : Heap} {k : Nat} {f : Addr} {name qual : Str} {params : Arguments} {body : List Stmt} {scope : Scope} {dV kV doc pm cdv ct oc : Value} {an od : Option Addr}
    {osl : Array (Option Value)} {N ps : List Str} {sp : Addr → Obj → Sp} (lk : K.lookup f = some ⟨oc, od, .func (PySem.W.fnOf name qual params body scope dV kV doc pm an cdv ct), osl⟩) (hcd : PySem.W.codeIn K cdv qual = true) (S : FnScope N ps scope)
    (len : ∀ ea oe vs H Q E, sp ea oe vs H Q E → vs.length = ps.length)
    (hbody : ∀ (A : Around) (outer : List Env) (s : Shared) (H : Hp) (vs : List V) (Q : VK) (ea : Addr) (oe : Obj), RoomQ k (A.deeper (envOfC qual scope s.heap.objs.size f cdv)) → A.handled = some (.ref ea) → s.heap.get? ea = some oe → H ea = none → ea ∉ frs outer → sp ea oe vs H Q E0 →
      ∃ t, PSs (cxOfQ CX0 P w K mg base N qual scope f cdv A outer s H E0).nox body t ∧ t { nx := fun _ H' => Q .non H', rt := Q } (start N vs) H) :
    FnOkQ P w K mg base (k + 1) f (PySem.W.fnOf name qual params body scope dV kV doc pm an cdv ct) ps sp := by
  refine ⟨len, fun A outer s H args us vs Q ea oe hr hA hx hH hfr e0 hb r hsp => ?_⟩
  have hl := len _ _ _ _ _ _ hsp
  have KX : K.In s.heap := e0.mod.kin.keeps fun b o e => (e0.bs b o e).1
  have lim : s.heap.NoLimit := e0.mod.nolimit.keeps fun b o e => (e0.bs b o e).1
  have hkind : ∀ y ∈ ps.zip us, scope.names.lookup y.1 = some .local ∨ (scope.names.lookup y.1 = some .cell ∧ ((cellsFrom (s.heap.objs.size + 1) scope.names []).lookup y.1).isSome = true) := fun ⟨n, v⟩ hy => by
    rcases S.par n (List.of_mem_zip hy).1 with q | q
    · exact .inl q
    · exact .inr ⟨q, PySem.W.cellsFrom_some _ _ _ (.inl q)⟩
  refine codeAny_call_function hr.depth (KX _ _ lk) rfl S.co S.gen rfl (PySem.W.codeRec_of KX hcd) (hb _ _ _ _ ?_)
  refine wpAny_newFunctionEnv_cells S.kind hkind fun env he s1 x => ?_
  subst he
  refine ⟨lim.keeps x.toInCall.keep, codeAny_func ?_⟩
  obtain ⟨t, ht, hq⟩ := hbody A outer s H vs Q ea oe (hr.deeper _) hA hx hH hfr hsp
  have I : Inv (cxOfQ CX0 P w K mg base N qual scope f cdv A outer s H E0) [] (start N vs) H s1 := inv_startQ S e0 hl r x
  refine wpAny_mono (ht.nox [] s1 (start N vs) H _ I hq) (fun fl s' hs => ?_) fun e s' hs => hs
  have fin : ∀ {σ' : St} {H' : Hp} {v : V} {u : Value}, Inv (cxOfQ CX0 P w K mg base N qual scope f cdv A outer s H E0) [] σ' H' s' → RelV v u → Q v H' → CE outer P w H s Q u s' :=
    fun {σ' H' v u} J rv q => ⟨v, H', J.os, J.bare, J.base, J.hok, rv, q⟩
  cases fl with
  | ret u =>
    obtain ⟨v, σ', H', J, rv, q⟩ := hs
    exact fin J rv q
  | next =>
    obtain ⟨σ', H', J, q⟩ := hs
    exact fin (v := V.non) (u := Value.none) J rfl q
  | brk =>
    obtain ⟨_, _, _, q⟩ := hs
    exact False.elim q
  | cont =>
    obtain ⟨_, _, _, q⟩ := hs
    exact False.elim q

theorem Fun.okQ {P : Program} {w : World} {K : PySem.W.Frag} {mg : Str → Option Value} {base : Heap} {x qual : Str} {st : Stmt} {f : Addr} {fd : FuncData} {N ps : List Str} {k : Nat} {sp : Addr → Obj → Sp} (F : Fun K x qual st f fd) (S : FnScope N ps (defScope st)) (len : ∀ ea oe vs H Q E, sp ea oe vs H Q E → vs.length = ps.length)
    (hbody : ∀ (cdv : Value) (A : Around) (outer : List Env) (s : Shared) (H : Hp) (vs : List V) (Q : VK) (ea : Addr) (oe : Obj), RoomQ k (A.deeper (envOfC qual (defScope st) s.heap.objs.size f cdv)) → A.handled = some (.ref ea) → s.heap.get? ea = some oe → H ea = none → ea ∉ frs outer → sp ea oe vs H Q E0 →
      ∃ t, PSs (cxOfQ CX0 P w K mg base N qual (defScope st) f cdv A outer s H E0).nox (defBody st) t ∧ t { nx := fun _ H' => Q .non H', rt := Q } (start N vs) H) : FnOkQ P w K mg base (k + 1) f fd ps sp := by
  obtain ⟨oc, od, kV, doc, pm, an, cdv, ct, osl, rfl, lk, hcd⟩ := F.ex
  exact fn_ofQ lk hcd S len fun A outer s H vs Q ea oe hr hA hx hH hfr hsp => hbody cdv A outer s H vs Q ea oe hr hA hx hH hfr hsp
section
variable {X : Cx} {k : Nat} {f : Addr} {fd : FuncData} {ps : List Str} {sp : Addr → Obj → Sp} {x : Str} {p pos : Pos} {e : Expr} {es : List Expr} {t : TA} {ea : Addr} {oe : Obj}
theorem pe_callQ (F : FnOkQ X.prog X.w X.K X.mg X.base k f fd ps sp) (hr : RoomQ k X.A) (hA : X.A.handled = some (.ref ea)) (hp : (ea, oe) ∈ X.pn) (hg : Gl X x) (hm : X.mg x = some (.ref f)) (hk : PySem.W.keepIn X.K (.ref f) = true) (hb : Binds X.K fd ps [])
    (ha : PA X (e :: es) t) (hdb : (x == ("__debug__" : Str)) = false := by decide) (he : starEach (e :: es) X.env = (false, eval e X.env) :: starEach es X.env := by rfl) (hpl : (backTo pos (starEach es X.env)).any (·.1) = false := by rfl) :
    PE X (.Call (.Name x p) (e :: es) [] pos) (tCall (sp ea oe) [] E0 t) := by
  intro pins s σ H Q I h
  refine wpAny_Call_Name_kw (ld_glob I hg hm ?_ hdb)
  refine PySem.W.callWith_K (h₀ := X.base) I.ok.mod.kin hk (thn (ha pos pins s σ H _ I h) fun us s1 ⟨vs, H1, I1, r, q⟩ => ⟨I1.kIn, ?_⟩) he hpl
  have q : sp ea oe vs H1 Q E0 := by simpa using q
  have hl : us.length = ps.length := by rw [← r.length]; exact F.len _ _ _ _ _ _ q
  have hb' := hb s1 us I1.kIn (by rw [List.append_nil]; exact hl)
  rw [List.append_nil] at hb'
  obtain ⟨q1, q2, q3, q4, _⟩ := I1.pin (ea, oe) (List.mem_append_left _ hp)
  refine wpAny_call (codeAny_mono (F.run X.A X.stack s1 H1 ⟨us, []⟩ us vs Q ea oe hr hA q1 q2 (fun z => ?_) I1.env0 hb' r q) fun r s' hq => ?_)
  · rcases List.mem_cons.mp (I1.stkSub _ z) with w | w
    · exact q3 w
    · exact q4 w
  cases r with
  | error e => exact False.elim hq
  | ok fl =>
    cases fl with
    | ret u => exact I1.after hq
    | next => exact False.elim hq
    | brk => exact False.elim hq
    | cont => exact False.elim hq
/-! ### isinstance -/
/-- the exception that was handed in -/
structure ExKn (X : Cx) (ea C : Addr) (oe : Obj) : Prop where
  at_ : X.s_0.heap.get? ea = some oe
  un : X.H_0 ea = none
  fs : ea ∉ X.fs
  ex : ea ∉ X.ex
  cls : oe.cls = .ref C
  dat : ExD oe
def ExDict (oe : Obj) (H : Hp) : Prop := oe.dict = none ∨ ∃ dx u, oe.dict = some dx ∧ H dx = some u
theorem call_isiE {C : Addr} (kn : ExKn X ea C oe) (Z : ExcK X.K C) : CallR X (.builtin "isinstance") (fun xs H Q => ∃ c b, (xs = [.ref ea, .ref c] ∧ PySem.W.kitOne X.K (.ref C) (.ref c) = some b) ∧ ExDict oe H ∧ Q (.bl b) H) := by
  intro pins s σ H xs us Q I r h
  obtain ⟨c, b, ⟨rfl, e⟩, hd, q⟩ := h
  cases r with
  | cons r1 rr =>
    cases rr with
    | cons r2 rr =>
      cases rr; cases r1; cases r2
      refine PySem.W.kia_one (kitx_exc (ox := oe) Z) I.kIn ?_ e (fun z => nomatch z) fun tk => ⟨.bl b, H, I.tok _, rfl, q⟩
      have g := I.base.keep ea oe kn.at_ kn.un kn.fs kn.ex
      obtain ⟨vs, dv, _⟩ := kn.dat
      rcases hd with z | ⟨dx, u, z, hu⟩
      · exact ⟨none, g, kn.cls, by unfold PySem.W.notCls; rw [dv], by rw [z]; trivial⟩
      · obtain ⟨o, ho⟩ := (I.hok dx u hu).there
        exact ⟨some o, g, kn.cls, by unfold PySem.W.notCls; rw [dv], by rw [z]; exact ho⟩
theorem call_isiET {C : Addr} {T : String} (kn : ExKn X ea C oe) (Z : ExcK X.K C) : CallR X (.builtin "isinstance") (fun xs H Q => ∃ b, (xs = [.ref ea, .ty T] ∧ PySem.W.kitOne X.K (.ref C) (.type T) = some b) ∧ ExDict oe H ∧ Q (.bl b) H) := by
  intro pins s σ H xs us Q I r h
  obtain ⟨b, ⟨rfl, e⟩, hd, q⟩ := h
  cases r with
  | cons r1 rr =>
    cases rr with
    | cons r2 rr =>
      cases rr; cases r1; cases r2
      refine PySem.W.kia_one (kitx_exc (ox := oe) Z) I.kIn ?_ e (fun z => nomatch z) fun tk => ⟨.bl b, H, I.tok _, rfl, q⟩
      have g := I.base.keep ea oe kn.at_ kn.un kn.fs kn.ex
      obtain ⟨vs, dv, _⟩ := kn.dat
      rcases hd with z | ⟨dx, u, z, hu⟩
      · exact ⟨none, g, kn.cls, by unfold PySem.W.notCls; rw [dv], by rw [z]; trivial⟩
      · obtain ⟨o, ho⟩ := (I.hok dx u hu).there
        exact ⟨some o, g, kn.cls, by unfold PySem.W.notCls; rw [dv], by rw [z]; exact ho⟩
/-- isinstance(x, T), T a built-in class, x a plain value -/
theorem call_isi {T : String} : CallR X (.builtin "isinstance") (fun xs H Q => ∃ x t b, xs = [x, .ty T] ∧ TyOf X.K H x t ∧ PySem.W.kitOne X.K t (.type T) = some b ∧ Q (.bl b) H) := by
  intro pins s σ H xs us Q I r h
  obtain ⟨x, t, b, rfl, ty, e, q⟩ := h
  cases r with
  | cons r1 rr =>
    cases rr with
    | cons r2 rr =>
      cases rr; cases r2
      exact isinst_ok I r1 ty e fun tk => ⟨.bl b, H, I.tok _, rfl, q⟩
end
end L2

end
section
set_option maxHeartbeats 4000000
namespace L2
open PySem PySem.Spec PyProof.Rows
section
variable {X : Cx}
/-- // by a positive divisor of up to some thousand bits -/
def CDivL (i j : Int) : Prop := 0 < j ∧ j.natAbs.log2 < 1000
theorem op_fdivL : OpR X (binaryOp .FloorDiv) (rI CDivL fun i j => .int (i / j)) := opI fun i j _ _ _ _ _ hc q => by
  have h1 : (0 : Int) < j := hc.1
  exact floordiv_int (by omega) (by rw [Int.fdiv_eq_ediv_of_nonneg i (by omega)]; exact q) (.inl (PyProof.noPylong_of_log2 (Nat.lt_of_lt_of_le hc.2 (by decide))))
/-- a text so many times -/
theorem op_mulS : OpR X (binaryOp .Mult) (fun x y H Q => ∃ z n, x = .str z ∧ y = .int n ∧ MulOk z n ∧ Q (.str (Txt.mul z n)) H) := by
  intro pins s σ H x y v u Q I rx ry h
  obtain ⟨z, n, rfl, rfl, ok, q⟩ := h
  obtain ⟨t, rfl⟩ := rx
  obtain ⟨t', rfl⟩ := ry
  exact SB.mul ok fun t2 k => ⟨.str _, H, I.tok _, ⟨_, rfl⟩, q⟩
/-! ### f-strings -/
def TJ := St → Hp → Str → (Str → Hp → Prop) → Prop
def PJ (X : Cx) (es : List Expr) (t : TJ) : Prop := ∀ (pins : List (Addr × Obj)) (s : Shared) (σ : St) (H : Hp) (acc : Str) (Q : Str → Hp → Prop), Inv X pins σ H s → t σ H acc Q →
  Joins (model X.prog X.w) X.A X.xe (evalEach es X.env) acc (fun out s' => ∃ H', Inv X pins σ H' s' ∧ Q out H') s
def tJnil : TJ := fun _ H acc Q => Q acc H
def tJcons (te : TE) (t : TJ) : TJ := fun σ H acc Q => te σ H fun v H1 => ∃ y, v = .str y ∧ (acc ++ y).length ≤ sizeLine ∧ t σ H1 (acc ++ y) Q
theorem pj_nil : PJ X [] tJnil := fun _ _ _ H _ _ I h => ⟨H, I, h⟩
theorem pj_cons {e : Expr} {es : List Expr} {te : TE} {t : TJ} (he : PE X e te) (hr : PJ X es t) : PJ X (e :: es) (tJcons te t) := by
  intro pins s σ H acc Q I h
  show wpAny _ _ (eval e X.env) _ _ s
  refine thn (he pins s σ H _ I h) fun u s1 ⟨v, H1, I1, r, y, ev, hz, q⟩ => ?_
  subst ev
  obtain ⟨t1, rfl⟩ := r
  exact ⟨y, t1, rfl, hz, hr pins s1 σ H1 _ Q I1 q⟩
def tFS (t : TJ) : TE := fun σ H Q => t σ H Str.empty fun out H1 => out.length ≤ sizeLine ∧ Q (.str out) H1
theorem Joins.imp {M : Model} {A : Around} {E : Value → Shared → Prop} : ∀ {parts : List (Sem Value)} {acc : Str} {Q Q' : Str → Shared → Prop} {s : Shared}, Joins M A E parts acc Q s → (∀ o s', Q o s' → Q' o s') → Joins M A E parts acc Q' s
  | [], _, _, _, _, h, k => k _ _ h
  | _ :: _, _, _, _, _, h, k => wpAny_mono h (fun v s1 ⟨y, t, e, z, q⟩ => ⟨y, t, e, z, Joins.imp q k⟩) fun _ _ z => z
theorem pe_fstr {v1 v2 : Expr} {rest : List Expr} {pos : Pos} {t : TJ} (h : PJ X (v1 :: v2 :: rest) t) : PE X (.JoinedStr (v1 :: v2 :: rest) pos) (tFS t) := by
  intro pins s σ H Q I hq
  refine wpAny_JoinedStr (Joins.imp (h pins s σ H _ _ I hq) fun o s1 ⟨H1, I1, z, q⟩ => ⟨z, ?_⟩)
  exact ⟨.str o, H1, I1.tok _, ⟨_, rfl⟩, q⟩
def tFmt (te : TE) : TE := fun σ H Q => te σ H fun v H1 => (∃ i, v = .int i ∧ i.natAbs.log2 < 1920 ∧ Q (.str (toString i)) H1) ∨ ∃ x, v = .str x ∧ x.length ≤ sizeLine ∧ Q (.str x) H1
theorem pe_fmt {e : Expr} {te : TE} {pos : Pos} (he : PE X e te) : PE X (.FormattedValue e (-1) none pos) (tFmt te) := by
  intro pins s σ H Q I h
  refine wpAny_FormattedValue_plain (thn (he pins s σ H _ I h) fun u s1 ⟨v, H1, I1, r, q⟩ => ?_)
  rcases q with ⟨i, rfl, hl, q⟩ | ⟨x, rfl, hl, q⟩
  · obtain ⟨t, rfl⟩ := r
    exact wpAny_formatField_int hl ⟨.str _, H1, I1.tok _, ⟨_, rfl⟩, q⟩
  · obtain ⟨t, rfl⟩ := r
    exact wpAny_formatField_str ⟨.str _, H1, I1, ⟨_, rfl⟩, q⟩ ⟨.str _, H1, I1.tok _, ⟨_, rfl⟩, q⟩ hl
/-- isinstance(x, (T1, T2)) -/
theorem call_isi2 : CallR X (.builtin "isinstance") (fun xs H Q => ∃ x t tp T1 T2 b, xs = [x, .ref tp] ∧ H tp = some (.tup [.ty T1, .ty T2]) ∧ TyOf X.K H x t ∧ (∀ a, t ≠ .ref a) ∧ PySem.W.kitAny X.K t [.type T1, .type T2] = some b ∧ Q (.bl b) H) := by
  intro pins s σ H xs us Q I r h
  obtain ⟨x, t, tp, T1, T2, b, rfl, htp, ty, nt, e, q⟩ := h
  cases r with
  | cons r1 rr =>
    cases rr with
    | cons r2 rr =>
      cases rr; cases r2
      obtain ⟨_, its, rvs, o, ho, hc, n, hd⟩ := I.hok tp _ htp
      have eits : its = [.type T1, .type T2] := by
        cases rvs with
        | cons r1 rr =>
          cases rr with
          | cons r2 rr => cases rr; cases r1; cases r2; rfl
      subst eits
      obtain ⟨oc, od, odt, osl⟩ := o
      have hc : oc = .type "tuple" := hc
      have hd : odt = .seq ([Value.type T1, Value.type T2].toArray) n := hd
      subst hc hd
      have fin : ∀ tk, EP X pins σ Q (.bool b) { s with toks := tk } := fun tk => ⟨.bl b, H, I.tok _, rfl, q⟩
      cases ty with
      | non => cases (show _ = Value.none from r1); exact PySem.W.kia_tup PySem.W.kitx_none I.kIn True.intro ho e (fun z => nomatch z) fin
      | bl y => cases (show _ = Value.bool y from r1); exact PySem.W.kia_tup PySem.W.kitx_bool I.kIn True.intro ho e (fun z => nomatch z) fin
      | int i => obtain ⟨t, z⟩ := (show ∃ t, _ = Value.int i t from r1); cases z; exact PySem.W.kia_tup PySem.W.kitx_int I.kIn True.intro ho e (fun z => nomatch z) fin
      | str y => obtain ⟨t, z⟩ := (show ∃ t, _ = Value.str y t from r1); cases z; exact PySem.W.kia_tup PySem.W.kitx_str I.kIn True.intro ho e (fun z => nomatch z) fin
      | flt y => obtain ⟨t, z⟩ := (show ∃ t, _ = Value.float y t from r1); cases z; exact PySem.W.kia_tup PySem.W.kitx_float I.kIn True.intro ho e (fun z => nomatch z) fin
      | @lst a xs ea =>
        cases (show _ = Value.ref a from r1)
        obtain ⟨_, _, n2, _, h1⟩ := (show ObjOk X.prog X.w H s.heap a (.lst xs) from I.hok a _ ea)
        exact PySem.W.kia_tup PySem.W.kitx_list I.kIn ⟨_, h1, rfl⟩ ho e (fun z => nomatch z) fin
      | @frz a ob xs ea =>
        cases (show _ = Value.ref a from r1)
        obtain ⟨_, _, _, n2, _, h1⟩ := (show ObjOk X.prog X.w H s.heap a (.frz ob (.lst xs)) from I.hok a _ ea)
        exact PySem.W.kia_tup PySem.W.kitx_list I.kIn ⟨_, h1, rfl⟩ ho e (fun z => nomatch z) fin
      | @tup a xs ea =>
        cases (show _ = Value.ref a from r1)
        obtain ⟨_, _, _, p⟩ := (show ObjOk X.prog X.w H s.heap a (.tup xs) from I.hok a _ ea)
        obtain ⟨o2, h1, h2, _⟩ := p
        exact PySem.W.kia_tup PySem.W.kitx_tuple I.kIn ⟨o2, h1, h2⟩ ho e (fun z => nomatch z) fin
      | @dK a kvs ea =>
        cases (show _ = Value.ref a from r1)
        obtain ⟨_, _, vs, _, p⟩ := (show ObjOk X.prog X.w H s.heap a (.dK kvs) from I.hok a _ ea)
        obtain ⟨o2, es, ep, h1, h2, _⟩ := p
        exact PySem.W.kia_tup PySem.W.kitx_dict I.kIn ⟨o2, h1, h2.1⟩ ho e (fun z => nomatch z) fin
      | @dT a kvs ea =>
        cases (show _ = Value.ref a from r1)
        obtain ⟨_, _, xs, _, o2, es, ep, h1, h2, _⟩ := (show ObjOk X.prog X.w H s.heap a (.dT kvs) from I.hok a _ ea)
        exact PySem.W.kia_tup PySem.W.kitx_dict I.kIn ⟨o2, h1, h2.1⟩ ho e (fun z => nomatch z) fin
      | @ins a C dx fs ea cl ha hn htk hm => exact absurd rfl (nt C)
end
end L2

end
section
set_option maxHeartbeats 4000000
namespace L2
open PySem PySem.Spec PyProof.Rows
section
variable {X : Cx} {CX : CXT} {k : Nat} {f C : Addr} {fd : FuncData} {ps ks : List Str} {sp : Sp} {E : XK} {x m : Str} {p pos apos kpos : Pos} {e o : Expr} {es : List Expr} {kws : List Keyword} {te ta : TE} {t tk : TA} {nm : Option Str}
variable {g : List Value → List Value → List Value} {gV : List V → List V → List V}
end
/-! ### a def with defaults -/
structure FunD (K : PySem.W.Frag) (x qual : Str) (st : Stmt) (f : Addr) (fd : FuncData) (ds : List Value) : Prop where
  ex : ∃ (oc : Value) (od : Option Addr) (kV doc pm : Value) (an : Option Addr) (cdv ct : Value) (osl : Array (Option Value)) (T : Addr) (o : Obj) (n : Nat),
    fd = PySem.W.fnOf x qual (defArgs st) (defBody st) (defScope st) (.ref T) kV doc pm an cdv ct ∧ K.lookup f = some ⟨oc, od, .func fd, osl⟩ ∧ PySem.W.codeIn K cdv qual = true ∧ K.lookup T = some o ∧ o.data = .seq ds.toArray n
  kp : PySem.W.keepIn K (.ref f) = true
theorem funD_mk {K : PySem.W.Frag} {x qual : Str} {st : Stmt} {f T : Addr} {oc c2 : Value} {od an d2 : Option Addr} {osl sl2 : Array (Option Value)} {kV doc pm cdv ct : Value} {ds : List Value} {n : Nat} (l : K.lookup f = some ⟨oc, od, .func (PySem.W.fnOf x qual (defArgs st) (defBody st) (defScope st) (.ref T) kV doc pm an cdv ct), osl⟩)
    (c : PySem.W.codeIn K cdv qual = true) (k : PySem.W.keepIn K (.ref f) = true) (lT : K.lookup T = some ⟨c2, d2, .seq ds.toArray n, sl2⟩) : FunD K x qual st f (PySem.W.fnOf x qual (defArgs st) (defBody st) (defScope st) (.ref T) kV doc pm an cdv ct) ds := ⟨⟨oc, od, kV, doc, pm, an, cdv, ct, osl, T, _, n, rfl, l, c, lT, rfl⟩, k⟩
section
variable {P : Program} {w : World} {K : PySem.W.Frag} {mg : Str → Option Value} {base : Heap}
/-- us written arguments, the rest by their defaults: h is «fun kV doc pm an cdv ct T => ⟨_, fun us hl => match us, hl with | [_], _ => rfl, ..⟩» -/
theorem FunD.binds {x qual : Str} {st : Stmt} {f : Addr} {fd : FuncData} {ps : List Str} {ds ds' : List Value} (F : FunD K x qual st f fd ds)
    (h : ∀ (kV doc pm : Value) (an : Option Addr) (cdv ct : Value) (T : Addr) (us : List Value), (us ++ ds').length = ps.length → ∃ k : Option (Array Value) → Sem (List (Str × Value)),
      bindArgs (PySem.W.fnOf x qual (defArgs st) (defBody st) (defScope st) (.ref T) kV doc pm an cdv ct) ⟨us, []⟩ = seqItems? (.ref T) >>= k ∧ k (some ds.toArray) = pure (ps.zip (us ++ ds'))) : Binds K fd ps ds' := by
  obtain ⟨oc, od, kV, doc, pm, an, cdv, ct, osl, T, o, n, rfl, lk, hcd, lT, hs⟩ := F.ex
  intro s us X hl
  obtain ⟨k, h1, h2⟩ := h kV doc pm an cdv ct T us hl
  exact BindsTo.of_defaults rfl (X _ _ lT) hs h1 h2
theorem FunD.bindsK {x qual : Str} {st : Stmt} {f : Addr} {fd : FuncData} {ps ks : List Str} {ds : List Value} {g : List Value → List Value → List Value} {gV : List V → List V → List V} (F : FunD K x qual st f fd ds)
    (h : ∀ (kV doc pm : Value) (an : Option Addr) (cdv ct : Value) (T : Addr) (us ws : List Value), (g us ws).length = ps.length → ∃ k : Option (Array Value) → Sem (List (Str × Value)),
      bindArgs (PySem.W.fnOf x qual (defArgs st) (defBody st) (defScope st) (.ref T) kV doc pm an cdv ct) ⟨us, ks.zip ws⟩ = seqItems? (.ref T) >>= k ∧ k (some ds.toArray) = pure (ps.zip (g us ws)))
    (rel : ∀ {vs : List V} {us : List Value} {zs : List V} {ws : List Value}, Vals vs us → Vals zs ws → Vals (gV vs zs) (g us ws)) : KBinds K fd ps ks g gV := by
  obtain ⟨oc, od, kV, doc, pm, an, cdv, ct, osl, T, o, n, rfl, lk, hcd, lT, hs⟩ := F.ex
  refine ⟨fun s us ws X hl => ?_, rel⟩
  obtain ⟨k, h1, h2⟩ := h kV doc pm an cdv ct T us ws hl
  exact BindsTo.of_defaults rfl (X _ _ lT) hs h1 h2
end
end L2

end
section
set_option maxHeartbeats 4000000
namespace L2
open PySem PySem.Spec PyProof.Rows
/-- a statement, then the others, with a word between -/
def tCut (t u : TS) : TS := fun D σ H => ∃ M : St → Hp → Prop, t { D with nx := M } σ H ∧ ∀ σ' H', M σ' H' → u D σ' H'
theorem pss_cut {X : Cx} {st : Stmt} {rest : List Stmt} {t u : TS} (h1 : PS X st t) (h2 : PSs X rest u) : PSs X (st :: rest) (tCut t u) := by
  intro pins s σ H D I h
  obtain ⟨M, a, b⟩ := h
  refine wpAny_execs_cons (thn (h1 pins s σ H { D with nx := M } I a) fun f s1 q => ?_)
  cases f with
  | next =>
    obtain ⟨σ', H', I', q⟩ := q
    exact h2 pins s1 σ' H' D I' (b σ' H' q)
  | ret v => exact q
  | brk => exact q
  | cont => exact q
/-- nothing but what stands at d has changed -/
def But (d : Addr) (H H' : Hp) : Prop := ∀ b, b ≠ d → H' b = H b
theorem But.refl (d : Addr) (H : Hp) : But d H H := fun _ _ => rfl
theorem But.put {d : Addr} {H H' : Hp} {o : HO} (h : But d H H') : But d H (upd H' d o) := fun b hb => by rw [upd_ne hb]; exact h b hb
theorem But.trans {d : Addr} {H H1 H2 : Hp} (a : But d H H1) (b : But d H1 H2) : But d H H2 := fun c hc => (b c hc).trans (a c hc)
/-- the numbers that a law draws from -/
structure Draw (H : Hp) (d : Addr) : Prop where
  ex : ∃ (l : Addr) (ns : List Int) (p c g : Int), H d = some (.lst [.ref l, .int p, .int c, .int g]) ∧ H l = some (.lst (ns.map V.int)) ∧ l ≠ d ∧ 0 ≤ p ∧ 0 ≤ g ∧ g < 2305843009213693951
theorem Draw.keep {H H' : Hp} {d : Addr} (z : Draw H d) (k : ∀ b o, H b = some o → H' b = some o) : Draw H' d := by
  obtain ⟨l, ns, p, c, g, a, b, r⟩ := z.ex
  exact ⟨l, ns, p, c, g, k _ _ a, k _ _ b, r⟩
def spTake : Sp := fun vs H Q _ => ∃ (d : Addr) (m : Int), vs = [.ref d, .int m] ∧ Draw H d ∧ 0 < m ∧ m.natAbs.log2 < 1000 ∧ ∀ (r : Int) (H' : Hp), 0 ≤ r → r < m → Draw H' d → But d H H' → Q (.int r) H'
def spBegin (K : PySem.W.Frag) : Sp := fun vs H Q _ => ∃ (a : Addr) (ns : List Int), vs = [.ref a] ∧ SqL K H a (ns.map V.int) ∧ ns.length ≤ 63 ∧ ∀ (d : Addr) (H' : Hp), Draw H' d → Same H H' → Q (.ref d) H'
/-- the built-ins that the laws name -/
structure Blt (mg : Str → Option Value) : Prop where
  len : mg "len" = none
  list : mg "list" = none
  range : mg "range" = none
  isinstance : mg "isinstance" = none
  int : mg "int" = none
  str : mg "str" = none
  bool : mg "bool" = none
  tuple : mg "tuple" = none
  all : mg "all" = none
  zip : mg "zip" = none
  min : mg "min" = none
theorem boot_list : bootBuiltins "list" = some (.type "list") := by decide +kernel
theorem boot_isinstance : bootBuiltins "isinstance" = some (.builtin "isinstance") := by decide +kernel
theorem boot_all : bootBuiltins "all" = some (.builtin "all") := by decide +kernel
theorem boot_int : bootBuiltins "int" = some (.type "int") := by decide +kernel
theorem boot_str : bootBuiltins "str" = some (.type "str") := by decide +kernel
theorem boot_bool : bootBuiltins "bool" = some (.type "bool") := by decide +kernel
theorem boot_tuple : bootBuiltins "tuple" = some (.type "tuple") := by decide +kernel
theorem boot_min : bootBuiltins "min" = some (.builtin "min") := by decide +kernel
theorem boot_valueerror : bootBuiltins "ValueError" = some (.type "ValueError") := by decide +kernel
theorem boot_lookuperror : bootBuiltins "LookupError" = some (.type "LookupError") := by decide +kernel
end L2

end
section
set_option maxHeartbeats 4000000
namespace L2
open PySem PySem.Spec PyProof.Rows
/-! ### zip of any two of: list, tuple, text -/
inductive ZS where
  | L (a : Addr)
  | T (a : Addr)
  | S (x : Str)
def signs (x : Str) : List V := x.cps.toList.map fun c => V.str ⟨#[c]⟩
/-- what stands there -/
def ZS.rd (K : PySem.W.Frag) (H : Hp) : ZS → List V → Prop
  | .L a, xs => SqL K H a xs
  | .T a, xs => SqT K H a xs
  | .S x, xs => xs = signs x
def ZS.val : ZS → V
  | .L a => .ref a
  | .T a => .ref a
  | .S x => .str x
/-- the iterator -/
def ZS.st : ZS → Addr → Nat → Heap → Prop
  | .L a, i, k, h => h.IsListIter i a k
  | .T a, i, k, h => h.IsTupleIter i a k
  | .S x, i, k, h => ∃ ty t, (ty = "str_ascii_iterator" ∨ ty = "str_iterator") ∧ h.IsStrIter i ty x t k
def ZS.con : ZS → List Value → Heap → Prop
  | .L a, us, h => h.IsList a us.toArray
  | .T a, us, h => h.IsTuple a us.toArray
  | .S _, _, _ => True
def ZS.off : ZS → Addr → Prop
  | .L a, b => a ≠ b
  | .T a, b => a ≠ b
  | .S _, _ => True
def ZS.itm : ZS → List Value → Nat → Value → Prop
  | .L _, us, k, u => us[k]? = some u
  | .T _, us, k, u => us[k]? = some u
  | .S x, _, k, u => ∃ c t, x.cps[k]? = some c ∧ u = .str ⟨#[c]⟩ t
def ZS.len : ZS → List Value → Nat
  | .L _, us => us.length
  | .T _, us => us.length
  | .S x, _ => x.cps.size
theorem ZS.con_keep {p : ZS} {us : List Value} {b : Addr} {h h' : Heap} (c : p.con us h) (n : p.off b) (k : Heap.ExtBut b h h') : p.con us h' := by
  cases p with
  | L a => exact Heap.IsList.extBut c k n
  | T a => exact Heap.IsTuple.extBut c k n
  | S x => trivial
theorem ZS.st_obj {p : ZS} {i : Addr} {k : Nat} {h : Heap} (c : p.st i k h) : ∃ o, h.get? i = some o ∧ (∀ v, o.data ≠ .cell v) := by
  cases p with
  | L a => obtain ⟨o, e, _, d⟩ := c; exact ⟨o, e, fun v z => by rw [d] at z; cases z⟩
  | T a => obtain ⟨o, e, _, d⟩ := c; exact ⟨o, e, fun v z => by rw [d] at z; cases z⟩
  | S x => obtain ⟨_, _, _, o, e, _, d⟩ := c; exact ⟨o, e, fun v z => by rw [d] at z; cases z⟩
theorem ZS.st_at {p : ZS} {i : Addr} {k : Nat} {h h' : Heap} (c : p.st i k h) (q : ∀ o, h.get? i = some o → h'.get? i = some o) : p.st i k h' := by
  cases p with
  | L a => obtain ⟨o, e, r⟩ := c; exact ⟨o, q o e, r⟩
  | T a => obtain ⟨o, e, r⟩ := c; exact ⟨o, q o e, r⟩
  | S x => obtain ⟨ty, t, h1, o, e, r⟩ := c; exact ⟨ty, t, h1, o, q o e, r⟩
theorem ZS.st_lt {p : ZS} {i : Addr} {k : Nat} {h : Heap} (c : p.st i k h) : i < h.objs.size := by
  obtain ⟨o, e, _⟩ := ZS.st_obj c
  exact Heap.lt_size e
section
variable {prog : Program} {w : World} {A : Around} {E : Value → Shared → Prop} {s : Shared}
theorem stop_calm {α : Type} {Q : α → Shared → Prop} (hh : A.handled = none)
    (k : ∀ h' e, (∀ b o, s.heap.get? b = some o → h'.get? b = some o) → (∃ o, h'.get? e = some o ∧ o.cls = .type "StopIteration") → E (.ref e) { s with heap := h' }) :
    wpAny (model prog w) A (newExc (.type "StopIteration") [] >>= fun e => (raiseNew e : Sem α)) Q E s := by
  refine wpAny_bind ?_
  simp only [newExc, newTuple]
  refine wpAny_bind (wpAny_newObj_type ?_ (by size_fits))
  refine wpAny_bind (m := firstArgMember _ _) (wpAny_of_eq (a := Value.none) (by first | rfl | (simp only [firstArgMember]; rfl)) (wpAny_newObj_type ?_ (by size_fits)))
  unfold raiseNew
  refine wpAny_bind (wpAny_handled ?_)
  rw [hh]
  refine wpAny_bind (wpAny_pure (wpAny_throw (k _ _ (fun b o e => Heap.get?_push_of_some _ (Heap.get?_push_of_some _ e)) ⟨_, Heap.get?_push_size _ rfl, rfl⟩)))
theorem next_tup {it t : Addr} {i : Nat} {us : Array Value} {x : Value} {Q : Value → Shared → Prop} (hit : s.heap.IsTupleIter it t i) (ht : s.heap.IsTuple t us) (hx : us[i]? = some x)
    (k : ∀ h', h'.IsTupleIter it t (i + 1) → Heap.SameBut it s.heap h' → Q x { s with heap := h' }) : wpAny (model prog w) A (Builtin.SmallTypes.nextOf (.ref it)) Q E s := by
  obtain ⟨oi, gi, ci, di⟩ := id hit
  obtain ⟨ol, gl, _, nl, dl⟩ := ht
  unfold Builtin.SmallTypes.nextOf
  refine wpAny_bind (wpAny_callSpecial?_slot (name := Str.ofString "__next__") hit.typeIs PySem.F.slot_tuple_iterator_next (wpAny_call_entry PySem.F.slot_tuple_iterator_next hit.typeIs PySem.F.entry_tuple_iterator_next ?_ (PySem.F.args_tuple_iterator_next_1 _)))
  show wpAny _ A.in1 (field (.ref it) 0 >>= _) _ _ s
  refine wpAny_bind (wpAny_field gi di (x := .ref t) rfl ?_)
  rw [if_neg (show ¬ ((Value.ref t == Value.none) = true) from Bool.false_ne_true)]
  refine wpAny_bind (wpAny_field gi di (x := .int i 0) rfl ?_)
  refine wpAny_bind (wpAny_seqItems gl dl ?_)
  simp only [Int.toNat_natCast, hx]
  refine wpAny_bind (wpAny_setField gi di (by simp) (wpAny_pure ⟨x, rfl, wpAny_pure (k _ ?_ (Heap.SameBut.update ..))⟩))
  exact ⟨_, Heap.get?_update_self _ gi (Obj.isFreed_of_fields (Obj.data_mapFields di _)), (Obj.cls_mapFields ..).trans ci, by rw [Obj.data_mapFields di]; simp [rawInt]⟩
theorem next_tup_end {it t : Addr} {i : Nat} {us : Array Value} {Q : Value → Shared → Prop} (hh : A.handled = none) (hit : s.heap.IsTupleIter it t i) (ht : s.heap.IsTuple t us) (hx : us[i]? = none)
    (k : ∀ h' e, Heap.ExtBut it s.heap h' → (∃ o, h'.get? e = some o ∧ o.cls = .type "StopIteration") → E (.ref e) { s with heap := h' }) : wpAny (model prog w) A (Builtin.SmallTypes.nextOf (.ref it)) Q E s := by
  obtain ⟨oi, gi, ci, di⟩ := id hit
  obtain ⟨ol, gl, _, nl, dl⟩ := ht
  unfold Builtin.SmallTypes.nextOf
  refine wpAny_bind (wpAny_callSpecial?_slot (name := Str.ofString "__next__") hit.typeIs PySem.F.slot_tuple_iterator_next (wpAny_call_entry PySem.F.slot_tuple_iterator_next hit.typeIs PySem.F.entry_tuple_iterator_next ?_ (PySem.F.args_tuple_iterator_next_1 _)))
  show wpAny _ A.in1 (field (.ref it) 0 >>= _) _ _ s
  refine wpAny_bind (wpAny_field gi di (x := .ref t) rfl ?_)
  rw [if_neg (show ¬ ((Value.ref t == Value.none) = true) from Bool.false_ne_true)]
  refine wpAny_bind (wpAny_field gi di (x := .int i 0) rfl ?_)
  refine wpAny_bind (wpAny_seqItems gl dl ?_)
  simp only [Int.toNat_natCast, hx]
  refine wpAny_bind (wpAny_rule (wpAny_bind (wpAny_setField gi di (by simp) ?_)))
  have sb := Heap.SameBut.update s.heap it (Obj.mapFields (·.setIfInBounds 0 Value.none))
  exact stop_calm (A := A.in1) hh fun h' e k1 k2 => k h' e (fun b o hb e => k1 b o ((sb.2 b hb).trans e)) k2
theorem next_str {it : Addr} {x : Str} {t : Tok} {i c : Nat} {ty : String} {Q : Value → Shared → Prop} (hty : ty = "str_ascii_iterator" ∨ ty = "str_iterator") (hit : s.heap.IsStrIter it ty x t i) (hx : x.cps[i]? = some c)
    (k : ∀ h', h'.IsStrIter it ty x t (i + 1) → Heap.SameBut it s.heap h' → Q (.str ⟨#[c]⟩ s.toks) { s with heap := h', toks := s.toks + 1 }) : wpAny (model prog w) A (Builtin.SmallTypes.nextOf (.ref it)) Q E s := by
  obtain ⟨oi, gi, ci, di⟩ := id hit
  unfold Builtin.SmallTypes.nextOf
  rcases hty with rfl | rfl
  · refine wpAny_bind (wpAny_callSpecial?_slot (name := Str.ofString "__next__") hit.typeIs PySem.F.slot_str_ascii_iterator_next (wpAny_call_entry PySem.F.slot_str_ascii_iterator_next hit.typeIs PySem.F.entry_str_ascii_iterator_next ?_ (PySem.F.args_str_ascii_iterator_next_1 _)))
    show wpAny _ A.in1 (field (.ref it) 0 >>= _) _ _ s
    refine wpAny_bind (wpAny_field gi di (x := .str x t) rfl ?_)
    show wpAny _ A.in1 (field (.ref it) 1 >>= _) _ _ s
    refine wpAny_bind (wpAny_field gi di (x := .int i 0) rfl ?_)
    simp only [Int.toNat_natCast, hx]
    refine wpAny_bind (wpAny_setField gi di (by simp) (wpAny_bind (wpAny_mkStr (wpAny_pure ⟨_, rfl, wpAny_pure (k _ ?_ (Heap.SameBut.update ..))⟩) (by show 1 ≤ sizeLine; decide))))
    exact ⟨_, Heap.get?_update_self _ gi (Obj.isFreed_of_fields (Obj.data_mapFields di _)), (Obj.cls_mapFields ..).trans ci, by rw [Obj.data_mapFields di]; simp [rawInt]⟩
  · refine wpAny_bind (wpAny_callSpecial?_slot (name := Str.ofString "__next__") hit.typeIs PySem.F.slot_str_iterator_next (wpAny_call_entry PySem.F.slot_str_iterator_next hit.typeIs PySem.F.entry_str_iterator_next ?_ (PySem.F.args_str_iterator_next_1 _)))
    show wpAny _ A.in1 (field (.ref it) 0 >>= _) _ _ s
    refine wpAny_bind (wpAny_field gi di (x := .str x t) rfl ?_)
    show wpAny _ A.in1 (field (.ref it) 1 >>= _) _ _ s
    refine wpAny_bind (wpAny_field gi di (x := .int i 0) rfl ?_)
    simp only [Int.toNat_natCast, hx]
    refine wpAny_bind (wpAny_setField gi di (by simp) (wpAny_bind (wpAny_mkStr (wpAny_pure ⟨_, rfl, wpAny_pure (k _ ?_ (Heap.SameBut.update ..))⟩) (by show 1 ≤ sizeLine; decide))))
    exact ⟨_, Heap.get?_update_self _ gi (Obj.isFreed_of_fields (Obj.data_mapFields di _)), (Obj.cls_mapFields ..).trans ci, by rw [Obj.data_mapFields di]; simp [rawInt]⟩
theorem next_str_end {it : Addr} {x : Str} {t : Tok} {i : Nat} {ty : String} {Q : Value → Shared → Prop} (hty : ty = "str_ascii_iterator" ∨ ty = "str_iterator") (hh : A.handled = none) (hit : s.heap.IsStrIter it ty x t i) (hx : x.cps[i]? = none)
    (k : ∀ h' e, Heap.ExtBut it s.heap h' → (∃ o, h'.get? e = some o ∧ o.cls = .type "StopIteration") → E (.ref e) { s with heap := h' }) : wpAny (model prog w) A (Builtin.SmallTypes.nextOf (.ref it)) Q E s := by
  obtain ⟨oi, gi, ci, di⟩ := id hit
  unfold Builtin.SmallTypes.nextOf
  rcases hty with rfl | rfl
  · refine wpAny_bind (wpAny_callSpecial?_slot (name := Str.ofString "__next__") hit.typeIs PySem.F.slot_str_ascii_iterator_next (wpAny_call_entry PySem.F.slot_str_ascii_iterator_next hit.typeIs PySem.F.entry_str_ascii_iterator_next ?_ (PySem.F.args_str_ascii_iterator_next_1 _)))
    show wpAny _ A.in1 (field (.ref it) 0 >>= _) _ _ s
    refine wpAny_bind (wpAny_field gi di (x := .str x t) rfl ?_)
    show wpAny _ A.in1 (field (.ref it) 1 >>= _) _ _ s
    refine wpAny_bind (wpAny_field gi di (x := .int i 0) rfl ?_)
    simp only [Int.toNat_natCast, hx]
    refine wpAny_bind (wpAny_rule (wpAny_bind (wpAny_setField gi di (by simp) (wpAny_bind (wpAny_letGo ?_)))))
    have sb := Heap.SameBut.update s.heap it (Obj.mapFields (·.setIfInBounds 0 Value.none))
    exact stop_calm (A := A.in1) hh fun h' e k1 k2 => k h' e (fun b o hb e => k1 b o ((sb.2 b hb).trans e)) k2
  · refine wpAny_bind (wpAny_callSpecial?_slot (name := Str.ofString "__next__") hit.typeIs PySem.F.slot_str_iterator_next (wpAny_call_entry PySem.F.slot_str_iterator_next hit.typeIs PySem.F.entry_str_iterator_next ?_ (PySem.F.args_str_iterator_next_1 _)))
    show wpAny _ A.in1 (field (.ref it) 0 >>= _) _ _ s
    refine wpAny_bind (wpAny_field gi di (x := .str x t) rfl ?_)
    show wpAny _ A.in1 (field (.ref it) 1 >>= _) _ _ s
    refine wpAny_bind (wpAny_field gi di (x := .int i 0) rfl ?_)
    simp only [Int.toNat_natCast, hx]
    refine wpAny_bind (wpAny_rule (wpAny_bind (wpAny_setField gi di (by simp) (wpAny_bind (wpAny_letGo ?_)))))
    have sb := Heap.SameBut.update s.heap it (Obj.mapFields (·.setIfInBounds 0 Value.none))
    exact stop_calm (A := A.in1) hh fun h' e k1 k2 => k h' e (fun b o hb e => k1 b o ((sb.2 b hb).trans e)) k2
theorem zs_item {p : ZS} {us : List Value} {i : Addr} {k : Nat} {Q : Value → Shared → Prop} (st : p.st i k s.heap) (cn : p.con us s.heap) (hk : k < p.len us)
    (kk : ∀ u h' tk, p.itm us k u → p.st i (k + 1) h' → Heap.SameBut i s.heap h' → Q u { s with heap := h', toks := tk }) : wpAny (model prog w) A (Builtin.SmallTypes.nextOf (.ref i)) Q E s := by
  cases p with
  | L a =>
    have hk : k < us.length := hk
    have e : us[k]? = some us[k] := List.getElem?_eq_getElem hk
    exact wpAny_nextOf_list_item st cn (x := us[k]) (by rw [List.getElem?_toArray]; exact e) fun h' a b => kk _ h' s.toks e a b
  | T a =>
    have hk : k < us.length := hk
    have e : us[k]? = some us[k] := List.getElem?_eq_getElem hk
    exact next_tup st cn (x := us[k]) (by rw [List.getElem?_toArray]; exact e) fun h' a b => kk _ h' s.toks e a b
  | S x =>
    have hk : k < x.cps.size := hk
    have e : x.cps[k]? = some x.cps[k] := Array.getElem?_eq_getElem hk
    obtain ⟨ty, t, hty, st⟩ := st
    exact next_str hty st (c := x.cps[k]) e fun h' a b => kk _ h' _ ⟨_, _, e, rfl⟩ ⟨ty, t, hty, a⟩ b
theorem zs_end {p : ZS} {us : List Value} {i : Addr} {k : Nat} {Q : Value → Shared → Prop} (hh : A.handled = none) (st : p.st i k s.heap) (cn : p.con us s.heap) (hk : p.len us ≤ k)
    (kk : ∀ h' e, Heap.ExtBut i s.heap h' → (∃ o, h'.get? e = some o ∧ o.cls = .type "StopIteration") → E (.ref e) { s with heap := h' }) : wpAny (model prog w) A (Builtin.SmallTypes.nextOf (.ref i)) Q E s := by
  cases p with
  | L a => exact wpAny_nextOf_list_end hh st cn (by simp [show us.length ≤ k from hk]) kk
  | T a => exact next_tup_end hh st cn (by simp [show us.length ≤ k from hk]) kk
  | S x =>
    obtain ⟨ty, t, hty, st⟩ := st
    exact next_str_end hty hh st (by simp [show x.cps.size ≤ k from hk]) kk
end

/-! the zip object over two of them -/
section
variable {prog : Program} {w : World} {A : Around} {E : Value → Shared → Prop} {s : Shared}
structure ZOff (z TI TO i1 i2 : Addr) (p q : ZS) : Prop where
  TIz : TI ≠ z
  TOz : TO ≠ z
  i1z : i1 ≠ z
  i2z : i2 ≠ z
  TITO : TI ≠ TO
  TIi1 : TI ≠ i1
  TIi2 : TI ≠ i2
  TOi1 : TO ≠ i1
  TOi2 : TO ≠ i2
  i12 : i1 ≠ i2
theorem zipn_item {z TI TO i1 i2 : Addr} {p q : ZS} {us vs : List Value} {k : Nat} {a b : Value} {Q : Value → Shared → Prop} (D : ZOff z TI TO i1 i2 p q) (off : ∀ c, c = z ∨ c = TO ∨ c = i1 ∨ c = i2 → p.off c ∧ q.off c)
    (hz : IsZip s.heap z TI TO .none) (hTI : IsPair s.heap TI (.ref i1) (.ref i2)) (hTO : IsPair s.heap TO a b)
    (h1 : p.st i1 k s.heap) (h2 : q.st i2 k s.heap) (c1 : p.con us s.heap) (c2 : q.con vs s.heap) (hx : k < p.len us) (hy : k < q.len vs)
    (hQ : ∀ x y h' tk, p.itm us k x → q.itm vs k y → IsZip h' z TI TO (rawInt s.heap.objs.size) → IsPair h' TO x y → p.st i1 (k + 1) h' → q.st i2 (k + 1) h' → IsPair h' s.heap.objs.size x y → h'.objs.size = s.heap.objs.size + 1 →
      (∀ c o, c ≠ z → c ≠ TO → c ≠ i1 → c ≠ i2 → s.heap.get? c = some o → h'.get? c = some o) → Q (.ref s.heap.objs.size) { s with heap := h', toks := tk }) :
    wpAny (model prog w) A (Builtin.«zip.__next__» ⟨[.ref z], []⟩) (fun fin s' => ∃ v, fin = .done (.ret v) ∧ Q v s') E s := by
  show wpAny _ A (field (.ref z) 2 >>= _) _ E s
  refine wpAny_bind (wpAny_field hz rfl (x := .bool false) rfl ?_)
  show wpAny _ A (field (.ref z) 3 >>= _) _ E s
  refine wpAny_bind (wpAny_field hz rfl (x := .ref TI) rfl ?_)
  refine wpAny_bind (wpAny_seqItems hTI rfl ?_)
  show wpAny _ A (Builtin.SmallTypes.ownedTupleIsFree (.ref z) >>= _) _ E s
  refine wpAny_bind ?_
  unfold Builtin.SmallTypes.ownedTupleIsFree
  refine wpAny_bind (wpAny_field hz rfl (x := .none) rfl (wpAny_pure ?_))
  simp only [if_true]
  refine wpAny_bind (wpAny_rule ?_)
  refine wpAny_bind (wpAny_field hz rfl (x := .ref TO) rfl ?_)
  refine wpAny_bind (wpAny_setField_rec hz (by simp) fun ha za sa => ?_)
  replace za : IsZip ha z TI TO .ellipsis := za
  refine wpAny_bind ?_
  simp only [List.zipIdx_cons, List.zipIdx_nil, List.forIn_cons, List.forIn_nil]
  refine wpAny_bind (wpAny_bind (wpAny_onRaise ?_))
  show wpAny _ _ (Builtin.SmallTypes.nextOf (.ref i1) >>= _) _ _ _
  refine wpAny_bind (zs_item (p := p) (us := us) (ZS.st_at h1 fun o e => sa.extBut _ _ D.i1z e) (ZS.con_keep c1 (off z (.inl rfl)).1 sa.extBut) hx fun x hb tkb ix h1b sb => wpAny_pure ?_)
  have tob : IsPair hb TO a b := sb.extBut _ _ D.TOi1 (sa.extBut _ _ D.TOz hTO)
  refine wpAny_bind (wpAny_seqItems tob rfl ?_)
  refine wpAny_bind (wpAny_updateSeq_pair tob fun hc toc sc => ?_)
  replace toc : IsPair hc TO x b := toc
  refine wpAny_bind (wpAny_letGo (wpAny_pure ?_))
  refine wpAny_bind (wpAny_bind (wpAny_onRaise ?_))
  show wpAny _ _ (Builtin.SmallTypes.nextOf (.ref i2) >>= _) _ _ _
  refine wpAny_bind (zs_item (p := q) (us := vs) (ZS.st_at h2 fun o e => sc.extBut _ _ D.TOi2.symm (sb.extBut _ _ D.i12.symm (sa.extBut _ _ D.i2z e)))
    (ZS.con_keep (ZS.con_keep (ZS.con_keep c2 (off z (.inl rfl)).2 sa.extBut) (off i1 (.inr (.inr (.inl rfl)))).2 sb.extBut) (off TO (.inr (.inl rfl))).2 sc.extBut) hy fun y hd tkd iy h2d sd => wpAny_pure ?_)
  have tod : IsPair hd TO x b := sd.extBut _ _ D.TOi2 toc
  refine wpAny_bind (wpAny_seqItems tod rfl ?_)
  refine wpAny_bind (wpAny_updateSeq_pair tod fun he toe se => ?_)
  replace toe : IsPair he TO x y := toe
  refine wpAny_bind (wpAny_letGo (wpAny_pure (wpAny_pure ?_)))
  refine wpAny_bind (wpAny_seqItems toe rfl ?_)
  refine wpAny_bind (wpAny_newTuple ?_)
  have hsz : he.objs.size = s.heap.objs.size := by rw [se.1, sd.1, sc.1, sb.1, sa.1]
  have ze : IsZip he z TI TO .ellipsis := se.extBut _ _ D.TOz.symm (sd.extBut _ _ D.i2z.symm (sc.extBut _ _ D.TOz.symm (sb.extBut _ _ D.i1z.symm za)))
  have ke : ∀ c o, c ≠ z → c ≠ TO → c ≠ i1 → c ≠ i2 → s.heap.get? c = some o → he.get? c = some o := fun c o g1 g2 g3 g4 e =>
    se.extBut _ _ g2 (sd.extBut _ _ g4 (sc.extBut _ _ g2 (sb.extBut _ _ g3 (sa.extBut _ _ g1 e))))
  have h1e : p.st i1 (k + 1) he := ZS.st_at h1b fun o e => se.extBut _ _ D.TOi1.symm (sd.extBut _ _ D.i12 (sc.extBut _ _ D.TOi1.symm e))
  have h2e : q.st i2 (k + 1) he := ZS.st_at h2d fun o e => se.extBut _ _ D.TOi2.symm e
  have zlt : z < he.objs.size := Heap.lt_size ze
  show wpAny _ _ (Builtin.SmallTypes.ownedTupleHandOut (.ref z) (.ref he.objs.size) >>= _) _ _ _
  refine wpAny_bind ?_
  unfold Builtin.SmallTypes.ownedTupleHandOut
  have zf : IsZip (he.push { cls := .type "tuple", data := .seq #[x, y] }) z TI TO .ellipsis := Heap.get?_push_of_some _ ze
  refine wpAny_bind (wpAny_setField_rec zf (by simp) fun hg zg sg => ?_)
  replace zg : IsZip hg z TI TO (rawInt he.objs.size) := zg
  refine wpAny_setField_rec zg (by simp) fun hh zh sh => ?_
  replace zh : IsZip hh z TI TO (rawInt he.objs.size) := zh
  have up : ∀ c o, c ≠ z → he.get? c = some o → hh.get? c = some o := fun c o g e => sh.extBut _ _ g (sg.extBut _ _ g (Heap.get?_push_of_some _ e))
  have pT : IsPair hh he.objs.size x y := sh.extBut _ _ (Nat.ne_of_gt zlt) (sg.extBut _ _ (Nat.ne_of_gt zlt) (Heap.get?_push_size _ rfl))
  have sz : hh.objs.size = he.objs.size + 1 := by rw [sh.1, sg.1, Heap.size_push]
  rw [hsz] at zh pT sz
  refine wpAny_pure ⟨_, rfl, ?_⟩
  show Q (.ref he.objs.size) _
  rw [hsz]
  exact hQ x y hh tkd ix iy zh (up _ _ D.TOz toe) (ZS.st_at h1e fun o e => up _ o D.i1z e) (ZS.st_at h2e fun o e => up _ o D.i2z e) pT sz fun c o g1 g2 g3 g4 e => up c o g1 (ke c o g1 g2 g3 g4 e)
theorem zipn_end {z TI TO i1 i2 : Addr} {p q : ZS} {us vs : List Value} {k : Nat} {a b : Value} {Q : Fin → Shared → Prop} (hh : A.handled = none) (D : ZOff z TI TO i1 i2 p q) (off : ∀ c, c = z ∨ c = TO ∨ c = i1 ∨ c = i2 → p.off c ∧ q.off c)
    (hz : IsZip s.heap z TI TO .none) (hTI : IsPair s.heap TI (.ref i1) (.ref i2)) (hTO : IsPair s.heap TO a b)
    (h1 : p.st i1 k s.heap) (h2 : q.st i2 k s.heap) (c1 : p.con us s.heap) (c2 : q.con vs s.heap) (hend : p.len us ≤ k ∨ q.len vs ≤ k)
    (hE : ∀ h' e tk, (∀ c o, c ≠ z → c ≠ TO → c ≠ i1 → c ≠ i2 → s.heap.get? c = some o → h'.get? c = some o) → (∃ o, h'.get? e = some o ∧ o.cls = .type "StopIteration") → E (.ref e) { s with heap := h', toks := tk }) :
    wpAny (model prog w) A (Builtin.«zip.__next__» ⟨[.ref z], []⟩) Q E s := by
  show wpAny _ A (field (.ref z) 2 >>= _) _ E s
  refine wpAny_bind (wpAny_field hz rfl (x := .bool false) rfl ?_)
  show wpAny _ A (field (.ref z) 3 >>= _) _ E s
  refine wpAny_bind (wpAny_field hz rfl (x := .ref TI) rfl ?_)
  refine wpAny_bind (wpAny_seqItems hTI rfl ?_)
  show wpAny _ A (Builtin.SmallTypes.ownedTupleIsFree (.ref z) >>= _) _ E s
  refine wpAny_bind ?_
  unfold Builtin.SmallTypes.ownedTupleIsFree
  refine wpAny_bind (wpAny_field hz rfl (x := .none) rfl (wpAny_pure ?_))
  simp only [if_true]
  refine wpAny_bind (wpAny_rule ?_)
  refine wpAny_bind (wpAny_field hz rfl (x := .ref TO) rfl ?_)
  refine wpAny_bind (wpAny_setField_rec hz (by simp) fun ha za sa => ?_)
  replace za : IsZip ha z TI TO .ellipsis := za
  refine wpAny_bind ?_
  simp only [List.zipIdx_cons, List.zipIdx_nil, List.forIn_cons, List.forIn_nil]
  refine wpAny_bind (wpAny_bind (wpAny_onRaise ?_))
  show wpAny _ _ (Builtin.SmallTypes.nextOf (.ref i1) >>= _) _ _ _
  by_cases hx : p.len us ≤ k
  · refine wpAny_bind (zs_end (p := p) (us := us) hh (ZS.st_at h1 fun o e => sa.extBut _ _ D.i1z e) (ZS.con_keep c1 (off z (.inl rfl)).1 sa.extBut) hx fun hb e sb ⟨oe, goe, coe⟩ => ?_)
    have zb : IsZip hb z TI TO .ellipsis := sb _ _ D.i1z.symm za
    have hez : e ≠ z := fun g => by subst g; rw [zb] at goe; cases goe; simp at coe
    refine wpAny_setField_rec zb (by simp) fun hc _ sc => hE hc e _ (fun c o g1 _ g3 _ g => sc.extBut _ _ g1 (sb _ _ g3 (sa.extBut _ _ g1 g))) ⟨oe, sc.extBut _ _ hez goe, coe⟩
  · have hy : q.len vs ≤ k := hend.resolve_left hx
    refine wpAny_bind (zs_item (p := p) (us := us) (ZS.st_at h1 fun o e => sa.extBut _ _ D.i1z e) (ZS.con_keep c1 (off z (.inl rfl)).1 sa.extBut) (by omega) fun x hb tkb ix h1b sb => wpAny_pure ?_)
    have tob : IsPair hb TO a b := sb.extBut _ _ D.TOi1 (sa.extBut _ _ D.TOz hTO)
    refine wpAny_bind (wpAny_seqItems tob rfl ?_)
    refine wpAny_bind (wpAny_updateSeq_pair tob fun hc toc sc => ?_)
    refine wpAny_bind (wpAny_letGo (wpAny_pure ?_))
    refine wpAny_bind (wpAny_bind (wpAny_onRaise ?_))
    show wpAny _ _ (Builtin.SmallTypes.nextOf (.ref i2) >>= _) _ _ _
    refine wpAny_bind (zs_end (p := q) (us := vs) hh (ZS.st_at h2 fun o e => sc.extBut _ _ D.TOi2.symm (sb.extBut _ _ D.i12.symm (sa.extBut _ _ D.i2z e)))
      (ZS.con_keep (ZS.con_keep (ZS.con_keep c2 (off z (.inl rfl)).2 sa.extBut) (off i1 (.inr (.inr (.inl rfl)))).2 sb.extBut) (off TO (.inr (.inl rfl))).2 sc.extBut) hy fun hd e sd ⟨oe, goe, coe⟩ => ?_)
    have zd : IsZip hd z TI TO .ellipsis := sd _ _ D.i2z.symm (sc.extBut _ _ D.TOz.symm (sb.extBut _ _ D.i1z.symm za))
    have hez : e ≠ z := fun g => by subst g; rw [zd] at goe; cases goe; simp at coe
    refine wpAny_setField_rec zd (by simp) fun hc2 _ sc2 => hE hc2 e _ (fun c o g1 g2 g3 g4 g => sc2.extBut _ _ g1 (sd _ _ g4 (sc.extBut _ _ g2 (sb.extBut _ _ g3 (sa.extBut _ _ g1 g))))) ⟨oe, sc2.extBut _ _ hez goe, coe⟩
theorem next_zipn {z TI TO i1 i2 : Addr} {p q : ZS} {us vs : List Value} {k : Nat} {a b : Value} {Q : Option Value → Shared → Prop} (D : ZOff z TI TO i1 i2 p q) (off : ∀ c, c = z ∨ c = TO ∨ c = i1 ∨ c = i2 → p.off c ∧ q.off c)
    (hz : IsZip s.heap z TI TO .none) (hTI : IsPair s.heap TI (.ref i1) (.ref i2)) (hTO : IsPair s.heap TO a b)
    (h1 : p.st i1 k s.heap) (h2 : q.st i2 k s.heap) (c1 : p.con us s.heap) (c2 : q.con vs s.heap) (hx : k < p.len us) (hy : k < q.len vs)
    (hQ : ∀ x y h' tk, p.itm us k x → q.itm vs k y → IsZip h' z TI TO (rawInt s.heap.objs.size) → IsPair h' TO x y → p.st i1 (k + 1) h' → q.st i2 (k + 1) h' → IsPair h' s.heap.objs.size x y → h'.objs.size = s.heap.objs.size + 1 →
      (∀ c o, c ≠ z → c ≠ TO → c ≠ i1 → c ≠ i2 → s.heap.get? c = some o → h'.get? c = some o) → Q (some (.ref s.heap.objs.size)) { s with heap := h', toks := tk }) : wpAny (model prog w) A (pyNext (.ref z)) Q E s := by
  have hT : s.TypeIs (.ref z) "zip" := ⟨_, hz, rfl⟩
  unfold pyNext
  exact wpAny_bind (wpAny_attempt (wpAny_callSpecial?_slot (name := Str.ofString "__next__") hT PySem.F.slot_zip_next (wpAny_call_entry PySem.F.slot_zip_next hT PySem.F.entry_zip_next
      (zipn_item D off hz hTI hTO h1 h2 c1 c2 hx hy fun x y h' tk ix iy a1 a2 a3 a4 a5 a6 a7 => wpAny_pure (hQ x y h' tk ix iy a1 a2 a3 a4 a5 a6 a7)) (PySem.F.args_zip_next_1 _))))
theorem next_zipn_end {z TI TO i1 i2 : Addr} {p q : ZS} {us vs : List Value} {k : Nat} {a b : Value} {Q : Option Value → Shared → Prop} (hh : A.handled = none) (D : ZOff z TI TO i1 i2 p q) (off : ∀ c, c = z ∨ c = TO ∨ c = i1 ∨ c = i2 → p.off c ∧ q.off c)
    (hz : IsZip s.heap z TI TO .none) (hTI : IsPair s.heap TI (.ref i1) (.ref i2)) (hTO : IsPair s.heap TO a b)
    (h1 : p.st i1 k s.heap) (h2 : q.st i2 k s.heap) (c1 : p.con us s.heap) (c2 : q.con vs s.heap) (hend : p.len us ≤ k ∨ q.len vs ≤ k)
    (hQ : ∀ h' tk, (∀ c o, c ≠ z → c ≠ TO → c ≠ i1 → c ≠ i2 → s.heap.get? c = some o → h'.get? c = some o) → Q none { s with heap := h', toks := tk }) : wpAny (model prog w) A (pyNext (.ref z)) Q E s := by
  have hT : s.TypeIs (.ref z) "zip" := ⟨_, hz, rfl⟩
  unfold pyNext
  refine wpAny_bind (wpAny_attempt (wpAny_callSpecial?_slot (name := Str.ofString "__next__") hT PySem.F.slot_zip_next (wpAny_call_entry PySem.F.slot_zip_next hT PySem.F.entry_zip_next (zipn_end hh D off hz hTI hTO h1 h2 c1 c2 hend fun h' e tk hk ⟨o, ho, hc⟩ => ?_) (PySem.F.args_zip_next_1 _))))
  refine wpAny_bind (wpAny_isInstance (T := "StopIteration") (b := true) ⟨o, ho, hc⟩ isSubtype_stop ?_)
  exact wpAny_pure (hQ _ tk hk)
end
end L2

end
section
set_option maxHeartbeats 4000000
namespace L2
open PySem PySem.Spec PyProof.Rows
section
variable {prog : Program} {w : World} {A : Around} {E : Value → Shared → Prop} {s : Shared}
/-- iter(u) lays o -/
def Iters (prog : Program) (w : World) (s : Shared) (u : Value) (o : Obj) : Prop := ∀ (A : Around) (E : Value → Shared → Prop) (Q : Value → Shared → Prop), Q (.ref s.heap.objs.size) { s with heap := s.heap.push o } → wpAny (model prog w) A (pyIter u) Q E s
abbrev zipT2 (h : Heap) (o1 o2 : Obj) : Heap := (h.push o1).push o2
abbrev zipT3 (h : Heap) (o1 o2 : Obj) : Heap := (zipT2 h o1 o2).push { cls := .type "tuple", data := .seq #[.ref h.objs.size, .ref (h.push o1).objs.size] }
abbrev zipT4 (h : Heap) (o1 o2 : Obj) : Heap := (zipT3 h o1 o2).push { cls := .type "tuple", data := .seq #[.none, .none] }
abbrev zipT5 (h : Heap) (o1 o2 : Obj) : Heap := (zipT4 h o1 o2).push { cls := .type "zip", data := .fields #[.none, .bool false, .bool false, .ref (zipT2 h o1 o2).objs.size, .ref (zipT3 h o1 o2).objs.size] }
theorem zip_newn (u1 u2 : Value) (o1 o2 : Obj) : MeetsIn prog w (Builtin.«zip.__new__» ⟨[.type "zip", u1, u2], []⟩) (fun _ R s => Iters prog w s u1 o1 ∧ Iters prog w { s with heap := s.heap.push o1 } u2 o2 ∧ R (.ok (.ret (.ref (zipT4 s.heap o1 o2).objs.size))) { s with heap := zipT5 s.heap o1 o2 }) :=
  .of_wp fun A R s h => by
    obtain ⟨hp, g, d, tk, os⟩ := s
    obtain ⟨i1, i2, h⟩ := h
    have hsub := sub_zip
    have j1 : ∀ {A : Around} {E : Value → Shared → Prop} {Q : Value → Shared → Prop}, Q (.ref hp.objs.size) ⟨hp.push o1, g, d, tk, os⟩ → wpAny (model prog w) A (pyIter u1) Q E ⟨hp, g, d, tk, os⟩ := fun {A E Q} q => i1 A E Q q
    have j2 : ∀ {A : Around} {E : Value → Shared → Prop} {Q : Value → Shared → Prop}, Q (.ref (hp.push o1).objs.size) ⟨(hp.push o1).push o2, g, d, tk, os⟩ → wpAny (model prog w) A (pyIter u2) Q E ⟨hp.push o1, g, d, tk, os⟩ := fun {A E Q} q => i2 A E Q q
    wp_walk using j1, j2
    exact ⟨_, rfl, h⟩
theorem call_zipn {u1 u2 : Value} {o1 o2 : Obj} {Q : Value → Shared → Prop} (i1 : Iters prog w s u1 o1) (i2 : Iters prog w { s with heap := s.heap.push o1 } u2 o2) (f1 : o1.isFreed = false) (f2 : o2.isFreed = false)
    (h : ∀ h', IsZip h' (s.heap.objs.size + 4) (s.heap.objs.size + 2) (s.heap.objs.size + 3) .none → IsPair h' (s.heap.objs.size + 2) (.ref s.heap.objs.size) (.ref (s.heap.objs.size + 1)) →
      IsPair h' (s.heap.objs.size + 3) .none .none → h'.get? s.heap.objs.size = some o1 → h'.get? (s.heap.objs.size + 1) = some o2 →
      (∀ c o, s.heap.get? c = some o → h'.get? c = some o) → Q (.ref (s.heap.objs.size + 4)) { s with heap := h' }) : wpAny (model prog w) A (call (.type "zip") [u1, u2]) Q E s := by
  refine callType_newIn PySem.F.called_zip (by decide) (PySem.F.typeCall_zip_2 _ _) (PySem.F.newCall_zip_2 _ _) (fun obj => PySem.F.args_object_init_3 obj _ _) PySem.F.entry_zip_new (zip_newn u1 u2 o1 o2) ⟨i1, i2, ?_⟩
  have z1 : (s.heap.push o1).objs.size = s.heap.objs.size + 1 := Heap.size_push ..
  have z2 : (zipT2 s.heap o1 o2).objs.size = s.heap.objs.size + 2 := by rw [Heap.size_push, z1]
  have z3 : (zipT3 s.heap o1 o2).objs.size = s.heap.objs.size + 3 := by rw [Heap.size_push, z2]
  have z4 : (zipT4 s.heap o1 o2).objs.size = s.heap.objs.size + 4 := by rw [Heap.size_push, z3]
  have g5 : (zipT5 s.heap o1 o2).get? (zipT4 s.heap o1 o2).objs.size = some _ := Heap.get?_push_size _ rfl
  have g4 : (zipT5 s.heap o1 o2).get? (zipT3 s.heap o1 o2).objs.size = some _ := Heap.get?_push_of_some _ (Heap.get?_push_size _ rfl)
  have g3 : (zipT5 s.heap o1 o2).get? (zipT2 s.heap o1 o2).objs.size = some _ := Heap.get?_push_of_some _ (Heap.get?_push_of_some _ (Heap.get?_push_size _ rfl))
  have g2 : (zipT5 s.heap o1 o2).get? (s.heap.push o1).objs.size = some o2 := Heap.get?_push_of_some _ (Heap.get?_push_of_some _ (Heap.get?_push_of_some _ (Heap.get?_push_size _ f2)))
  have g1 : (zipT5 s.heap o1 o2).get? s.heap.objs.size = some o1 := Heap.get?_push_of_some _ (Heap.get?_push_of_some _ (Heap.get?_push_of_some _ (Heap.get?_push_of_some _ (Heap.get?_push_size _ f1))))
  show _ ∧ _
  rw [z2, z3, z4] at g5
  rw [z1, z2] at g3
  rw [z3] at g4
  rw [z1] at g2
  rw [z4]
  exact ⟨⟨_, g5, rfl⟩, h _ g5 g3 g4 g1 g2 fun c o x => Heap.get?_push_of_some _ (Heap.get?_push_of_some _ (Heap.get?_push_of_some _ (Heap.get?_push_of_some _ (Heap.get?_push_of_some _ x))))⟩
theorem zs_iters {p : ZS} {u : Value} {us : List Value} (r : RelV p.val u) (c : p.con us s.heap) : ∃ o : Obj, o.isFreed = false ∧ Iters prog w s u o ∧ ∀ (h' : Heap) (i : Addr), h'.get? i = some o → p.st i 0 h' := by
  cases p with
  | L a =>
    cases r
    exact ⟨{ cls := .type "list_iterator", data := .fields #[.ref a, .int 0 0] }, rfl, fun A E Q q => wpAny_pyIter_list c q, fun h' i e => ⟨_, e, rfl, rfl⟩⟩
  | T a =>
    cases r
    exact ⟨{ cls := .type "tuple_iterator", data := .fields #[.ref a, .int 0 0] }, rfl, fun A E Q q => wpAny_pyIter_tuple c q, fun h' i e => ⟨_, e, rfl, rfl⟩⟩
  | S x =>
    obtain ⟨t, rfl⟩ := r
    cases ha : x.cps.all (· < 128)
    · exact ⟨{ cls := .type "str_iterator", data := .fields #[.str x t, .int 0 0] }, rfl, fun A E Q q => wpAny_pyIter_wide ha q, fun h' i e => ⟨_, t, .inr rfl, _, e, rfl, rfl⟩⟩
    · exact ⟨{ cls := .type "str_ascii_iterator", data := .fields #[.str x t, .int 0 0] }, rfl, fun A E Q q => wpAny_pyIter_ascii ha q, fun h' i e => ⟨_, t, .inl rfl, _, e, rfl, rfl⟩⟩
end
/-- the things at p and q as they stand at each turn, the items in new pairs -/
def Itzn (K : PySem.W.Frag) (p q : ZS) : It :=
  ⟨fun i H => ∃ (xs ys : List V) (x y : V), p.rd K H xs ∧ q.rd K H ys ∧ xs[i]? = some x ∧ ys[i]? = some y,
    fun i H v H' => ∃ T x y, v = .ref T ∧ H T = none ∧ H' = upd H T (.tup [x, y]) ∧ (∀ xs, p.rd K H xs → xs[i]? = some x) ∧ ∀ ys, q.rd K H ys → ys[i]? = some y,
    fun i H => ∃ xs ys : List V, p.rd K H xs ∧ q.rd K H ys ∧ (xs.length ≤ i ∨ ys.length ≤ i)⟩
section
variable {X : Cx} {pins : List (Addr × Obj)} {σ : St} {H : Hp} {s : Shared}
theorem Inv.zs (I : Inv X pins σ H s) {p : ZS} {xs : List V} (r : p.rd X.K H xs) : ∃ us : List Value, p.con us s.heap ∧ p.len us = xs.length ∧ (∀ k u, p.itm us k u → ∃ x, xs[k]? = some x ∧ RelV x u) ∧ (∀ b : Addr, s.heap.objs.size ≤ b → p.off b) := by
  cases p with
  | L a =>
    obtain ⟨its, rv, pl, _⟩ := I.list r
    refine ⟨its, pl.isList, rv.length.symm, fun k u e => ?_, fun b hb z => ?_⟩
    · have hk : k < xs.length := by
        have := (List.getElem?_eq_some_iff.mp e).1
        rw [rv.length]; exact this
      obtain ⟨u', e', r'⟩ := rv.get (List.getElem?_eq_getElem hk)
      rw [show its[k]? = some u from e] at e'
      cases e'
      exact ⟨_, List.getElem?_eq_getElem hk, r'⟩
    · have := pl.lt
      rw [z] at this
      exact absurd this (Nat.not_lt.mpr hb)
  | T a =>
    obtain ⟨its, rv, pl, _⟩ := I.tuple r
    refine ⟨its, pl, rv.length.symm, fun k u e => ?_, fun b hb z => ?_⟩
    · have hk : k < xs.length := by
        have := (List.getElem?_eq_some_iff.mp e).1
        rw [rv.length]; exact this
      obtain ⟨u', e', r'⟩ := rv.get (List.getElem?_eq_getElem hk)
      rw [show its[k]? = some u from e] at e'
      cases e'
      exact ⟨_, List.getElem?_eq_getElem hk, r'⟩
    · obtain ⟨o, ho, _⟩ := pl
      have := Heap.lt_size ho
      rw [z] at this
      exact absurd this (Nat.not_lt.mpr hb)
  | S x =>
    have r : xs = signs x := r
    refine ⟨[], trivial, ?_, fun k u e => ?_, fun b hb => trivial⟩
    · rw [r]; unfold signs; rw [List.length_map]; rfl
    · obtain ⟨c, t, e, rfl⟩ := e
      refine ⟨.str ⟨#[c]⟩, ?_, ⟨t, rfl⟩⟩
      rw [r]; unfold signs
      rw [List.getElem?_map]
      rw [Array.getElem?_toList, e]
      rfl
end
end L2

end
section
set_option maxHeartbeats 4000000
namespace L2
open PySem PySem.Spec PyProof.Rows
theorem Inv.zs_inj {X : Cx} {pins : List (Addr × Obj)} {σ : St} {H : Hp} {s : Shared} (I : Inv X pins σ H s) {p : ZS} {xs ys : List V} (h1 : p.rd X.K H xs) (h2 : p.rd X.K H ys) : xs = ys := by
  cases p with
  | L a => exact I.list_inj h1 h2
  | T a => exact I.tuple_inj h1 h2
  | S x => exact Eq.trans (show xs = signs x from h1) (show ys = signs x from h2).symm
theorem turn_zipn {P : Program} {w : World} {K : PySem.W.Frag} {elts : List Expr} {kk : Nat} {tpos : Pos} {p q : ZS} {z TI TO i1 i2 : Addr} (D : ZOff z TI TO i1 i2 p q) (off : ∀ c, c = z ∨ c = TO ∨ c = i1 ∨ c = i2 → p.off c ∧ q.off c) :
    Turn P w K (.Tuple elts kk tpos) (Itzn K p q) [z, TI, TO, i1, i2] z (fun i h => IsZip h z TI TO .none ∧ IsPair h TI (.ref i1) (.ref i2) ∧ (∃ x y, IsPair h TO x y) ∧ p.st i1 i h ∧ q.st i2 i h) where
  mem := by simp
  obj := fun i h st c hc => by
    obtain ⟨hz, hTI, ⟨x, y, hTO⟩, h1, h2⟩ := st
    have e' : c = z ∨ c = TI ∨ c = TO ∨ c = i1 ∨ c = i2 := by simpa using hc
    rcases e' with g | g | g | g | g
    · rw [g]; exact ⟨_, hz, fun v q => nomatch q⟩
    · rw [g]; exact ⟨_, hTI, fun v q => nomatch q⟩
    · rw [g]; exact ⟨_, hTO, fun v q => nomatch q⟩
    · rw [g]; exact ZS.st_obj h1
    · rw [g]; exact ZS.st_obj h2
  keep := fun i h h' st k => by
    obtain ⟨hz, hTI, ⟨x, y, hTO⟩, h1, h2⟩ := st
    exact ⟨k z (by simp) _ hz, k TI (by simp) _ hTI, ⟨x, y, k TO (by simp) _ hTO⟩, ZS.st_at h1 fun o g => k i1 (by simp) o g, ZS.st_at h2 fun o g => k i2 (by simp) o g⟩
  item := by
    intro X hP hw hK hc i pins s σ H E I hf st hg
    subst hP hw hK
    obtain ⟨hz, hTI, ⟨x0, y0, hTO⟩, h1, h2⟩ := st
    obtain ⟨xs, ys, x, y, hqx, hqy, hx, hy⟩ := hg
    obtain ⟨us, c1, l1, m1, _⟩ := I.zs hqx
    obtain ⟨vs, c2, l2, m2, _⟩ := I.zs hqy
    have lx := (List.getElem?_eq_some_iff.mp hx).1
    have ly := (List.getElem?_eq_some_iff.mp hy).1
    have hzl : z < s.heap.objs.size := Heap.lt_size hz
    refine next_zipn D off hz hTI hTO h1 h2 c1 c2 (by omega) (by omega) fun u u2 h' tk iu iu2 z' TO' h1' h2' hT hsz hk => ?_
    obtain ⟨x', ex, ru⟩ := m1 _ _ iu
    obtain ⟨y', ey, ru2⟩ := m2 _ _ iu2
    rw [hx] at ex
    cases ex
    rw [hy] at ey
    cases ey
    refine ⟨_, rfl, wpAny_letOwnedTupleGo_zip (s := { s with heap := h', toks := tk }) z' fun h'' z'' sb => ?_⟩
    have hT2 : h''.get? s.heap.objs.size = some { cls := .type "tuple", data := .seq #[u, u2] } := (sb.2 _ (Nat.ne_of_gt hzl)).trans hT
    have new : ObjOk X.prog X.w (upd H s.heap.objs.size (.tup [x, y])) h'' s.heap.objs.size (.tup [x, y]) :=
      ⟨by show 2 ≤ sizeLine; decide, [u, u2], .cons ru (.cons ru2 .nil), ⟨_, hT2, rfl, _, rfl⟩⟩
    have I1 : Inv X pins σ (upd H s.heap.objs.size (.tup [x, y])) { s with heap := h'', toks := tk } :=
      I.turnedNew (t' := tk) (ch := [z, TI, TO, i1, i2]) (fun c o hb g => (sb.2 c (fun g' => hb (by simp [g']))).trans (hk c o (fun g' => hb (by simp [g'])) (fun g' => hb (by simp [g'])) (fun g' => hb (by simp [g'])) (fun g' => hb (by simp [g'])) g)) hf (Nat.le_refl _) new
    refine ⟨.ref s.heap.objs.size, _, I1, rfl, ⟨_, x, y, rfl, I.hok.fresh (Nat.le_refl _), rfl, fun l hl => by rw [I.zs_inj hl hqx]; exact hx, fun l hl => by rw [I.zs_inj hl hqy]; exact hy⟩, ⟨z'', ?_, ⟨u, u2, ?_⟩, ?_, ?_⟩, fun c hcm => ?_⟩
    · exact (sb.2 _ D.TIz).trans (hk _ _ D.TIz D.TITO D.TIi1 D.TIi2 hTI)
    · exact (sb.2 _ D.TOz).trans TO'
    · exact ZS.st_at h1' fun o g => (sb.2 _ D.i1z).trans g
    · exact ZS.st_at h2' fun o g => (sb.2 _ D.i2z).trans g
    · have hlt : c < s.heap.objs.size := by
        have e' : c = z ∨ c = TI ∨ c = TO ∨ c = i1 ∨ c = i2 := by simpa using hcm
        rcases e' with g | g | g | g | g
        · rw [g]; exact hzl
        · rw [g]; exact Heap.lt_size hTI
        · rw [g]; exact Heap.lt_size hTO
        · rw [g]; exact ZS.st_lt h1
        · rw [g]; exact ZS.st_lt h2
      rw [upd_ne (Nat.ne_of_lt hlt)]
      exact (hf c hcm).1
  done := by
    intro X hP hw hK hc i pins s σ H E I hf st hg
    subst hP hw hK
    obtain ⟨hz, hTI, ⟨x0, y0, hTO⟩, h1, h2⟩ := st
    obtain ⟨xs, ys, hqx, hqy, hend⟩ := hg
    obtain ⟨us, c1, l1, _⟩ := I.zs hqx
    obtain ⟨vs, c2, l2, _⟩ := I.zs hqy
    exact next_zipn_end (I.ok.hd hc) D off hz hTI hTO h1 h2 c1 c2 (by omega) fun h' tk hk => ⟨rfl, I.turnedL (t' := tk) (ch := [z, TI, TO, i1, i2]) (fun c o hb g =>
      hk c o (fun g' => hb (by simp [g'])) (fun g' => hb (by simp [g'])) (fun g' => hb (by simp [g'])) (fun g' => hb (by simp [g'])) g) hf⟩
  self := fun A i s Q E st h => wpAny_pyIter_zip st.1 h
theorem zoff_new (n : Nat) (p q : ZS) : ZOff (n + 4) (n + 2) (n + 3) n (n + 1) p q :=
  have e : ∀ {a b : Nat}, a ≠ b → (a : Addr) ≠ b := fun h => h
  ⟨e (by omega), e (by omega), e (by omega), e (by omega), e (by omega), e (by omega), e (by omega), e (by omega), e (by omega), e (by omega)⟩
def iZipn (K : PySem.W.Frag) (ta : TA) : TI := fun σ H R => ta σ H fun vs H1 => ∃ (p q : ZS) (xs ys : List V), vs = [p.val, q.val] ∧ p.rd K H1 xs ∧ q.rd K H1 ys ∧ R (Itzn K p q) H1
theorem pi_zipn {X : Cx} {e e2 : Expr} {ta : TA} {p pos tpos : Pos} {elts : List Expr} {kk : Nat} (hg : Gl X "zip") (hm : X.mg "zip" = none) (ha : PA X [e, e2] ta)
    (hs : starEach [e, e2] X.env = (false, eval e X.env) :: starEach [e2] X.env := by rfl) (hpl : (backTo pos (starEach [e2] X.env)).any (·.1) = false := by rfl) :
    PI X (.Tuple elts kk tpos) (.Call (.Name "zip" p) [e, e2] [] pos) (iZipn X.K ta) := by
  intro pins s σ H R I h
  refine Call_ (ld_blt I hg hm boot_zip5 (PyProof.Rows.callWith_type1 (thn (ha pos pins s σ H _ I h) fun us s1 ⟨vs, H1, I1, r1, q1⟩ => ?_) hs hpl))
  obtain ⟨a, b, xs, ys, ex, hqx, hqy, q⟩ := q1
  subst ex
  cases r1 with
  | cons r rr =>
    cases rr with
    | cons r' rr =>
      cases rr
      obtain ⟨us, c1, l1, m1, o1⟩ := I1.zs hqx
      obtain ⟨vs, c2, l2, m2, o2⟩ := I1.zs hqy
      obtain ⟨ob1, fr1, it1, st1⟩ := zs_iters (prog := X.prog) (w := X.w) (s := s1) r c1
      have c2' : b.con vs (s1.heap.push ob1) := by
        cases b with
        | L a => exact Heap.IsList.push c2 _
        | T a => exact Heap.IsTuple.push c2 _
        | S x => trivial
      obtain ⟨ob2, fr2, it2, st2⟩ := zs_iters (prog := X.prog) (w := X.w) (s := { s1 with heap := s1.heap.push ob1 }) r' c2'
      refine call_zipn it1 it2 fr1 fr2 fun h' hz hTI hTO h1 h2 hk => wpAny_pyIter_zip hz ?_
      have I2 : Inv X pins σ H1 { s1 with heap := h' } := I1.kept (t' := s1.toks) hk
      refine ⟨s1.heap.objs.size + 4, [s1.heap.objs.size + 4, s1.heap.objs.size + 2, s1.heap.objs.size + 3, s1.heap.objs.size, s1.heap.objs.size + 1], _, _, H1, rfl, I2, turn_zipn (p := a) (q := b) (zoff_new _ a b) (fun c hc => ?_), ⟨hz, hTI, ⟨_, _, hTO⟩, st1 _ _ h1, st2 _ _ h2⟩, fun c hcm => ?_, q⟩
      · have : s1.heap.objs.size ≤ c := by
          rcases hc with z | z | z | z <;> (rw [z]; first | exact Nat.le_refl _ | exact Nat.le_add_right _ _)
        exact ⟨o1 c this, o2 c this⟩
      · have e' : c = s1.heap.objs.size + 4 ∨ c = s1.heap.objs.size + 2 ∨ c = s1.heap.objs.size + 3 ∨ c = s1.heap.objs.size ∨ c = s1.heap.objs.size + 1 := by simpa using hcm
        have hle : s1.heap.objs.size ≤ c := by
          rcases e' with z | z | z | z | z <;> (rw [z]; first | exact Nat.le_refl _ | exact Nat.le_add_right _ _)
        exact I1.fpOk hle (I1.hok.fresh hle)
/-! ### loops and comprehensions over anything that turns n times -/
theorem for_it {J : It} {n : Nat} {g : TG} {tb : TS} {D : Ends} {σ : St} {H : Hp} (Pv : Nat → St → Hp → Prop) (h0 : Pv 0 σ H)
    (hs : ∀ i σ H, i < n → Pv i σ H → J.go i H ∧ ∀ x H', J.yld i H x H' → g x σ H' fun σ2 H2 => tb { D with nx := Pv (i + 1), ct := Pv (i + 1), bk := D.nx } σ2 H2) (hd : ∀ σ H, Pv n σ H → J.stop n H ∧ D.nx σ H) :
    ∃ W : Nat → Nat → St → Hp → Prop, (∃ m, W 0 m σ H) ∧ ∀ i m σ H, W i m σ H →
      (J.stop i H ∧ D.nx σ H) ∨ (J.go i H ∧ ∃ N : St → Hp → Prop, (∀ σ' H', N σ' H' → ∃ m', m' < m ∧ W (i + 1) m' σ' H') ∧ ∀ x H', J.yld i H x H' → g x σ H' fun σ2 H2 => tb { D with nx := N, ct := N, bk := D.nx } σ2 H2) := by
  refine ⟨fun i m σ H => m = n - i ∧ i ≤ n ∧ Pv i σ H, ⟨n, by simp, Nat.zero_le _, h0⟩, ?_⟩
  rintro i m σ H ⟨rfl, hi, p⟩
  by_cases hlt : i < n
  · obtain ⟨a, b⟩ := hs i σ H hlt p
    exact .inr ⟨a, Pv (i + 1), fun σ' H' p' => ⟨n - (i + 1), by omega, rfl, hlt, p'⟩, b⟩
  · have e : i = n := by omega
    subst e
    exact .inl (hd σ H p)
theorem lc_it {J : It} {n : Nat} {g : TG} {tt : TT} {te : TE} {vs : List Nat} {σ : St} {H1 : Hp} {D : Addr} {Qd : Hp → Prop} (Pv : Nat → Hp → Prop) (h0 : Pv 0 (upd H1 D (.lst [])))
    (hs : ∀ i H, i < n → Pv i H → J.go i H ∧ ∀ x H', J.yld i H x H' → g x (wipe σ vs) H' fun σ2 H2 => wipe σ2 vs = wipe σ vs ∧ tt σ2 H2 fun b H3 =>
      if b = true then te σ2 H3 fun y H4 => ∃ acc, H4 D = some (.lst acc) ∧ acc.length < sizeLine ∧ Pv (i + 1) (upd H4 D (.lst (acc ++ [y]))) else Pv (i + 1) H3) (hd : ∀ H, Pv n H → J.stop n H ∧ Qd H) :
    ∃ W : Nat → Nat → Hp → Prop, (∃ m, W 0 m (upd H1 D (.lst []))) ∧ ∀ i m H, W i m H →
      (J.stop i H ∧ Qd H) ∨ (J.go i H ∧ ∃ Nx : Hp → Prop, (∀ H', Nx H' → ∃ m', m' < m ∧ W (i + 1) m' H') ∧ ∀ x H', J.yld i H x H' → g x (wipe σ vs) H' fun σ2 H2 => wipe σ2 vs = wipe σ vs ∧ tt σ2 H2 fun b H3 =>
        if b = true then te σ2 H3 fun y H4 => ∃ acc, H4 D = some (.lst acc) ∧ acc.length < sizeLine ∧ Nx (upd H4 D (.lst (acc ++ [y]))) else Nx H3) := by
  refine ⟨fun i m H => m = n - i ∧ i ≤ n ∧ Pv i H, ⟨n, by simp, Nat.zero_le _, h0⟩, ?_⟩
  rintro i m H ⟨rfl, hi, p⟩
  by_cases hlt : i < n
  · obtain ⟨a, b⟩ := hs i H hlt p
    exact .inr ⟨a, Pv (i + 1), fun H' p' => ⟨n - (i + 1), by omega, rfl, hlt, p'⟩, b⟩
  · have e : i = n := by omega
    subst e
    exact .inl (hd H p)
end L2

end
section
set_option maxHeartbeats 4000000
namespace L2
open PySem PySem.Spec PyProof.Rows
/-! ### pairs of numbers -/
abbrev C2 := Int × Int
def Pr (_K : PySem.W.Frag) (H : Hp) (v : V) (c : C2) : Prop := ∃ p, v = .ref p ∧ H p = some (.tup [.int c.1, .int c.2])
abbrev Prs (K : PySem.W.Frag) (H : Hp) : List V → List C2 → Prop := Paired (Pr K H)
/-- a list of pairs -/
def PL (K : PySem.W.Frag) (H : Hp) (l : Addr) (cs : List C2) : Prop := ∃ xs, H l = some (.lst xs) ∧ Prs K H xs cs
theorem Same.tup {K : PySem.W.Frag} {H H' : Hp} {a : Addr} {xs : List V} (e : Same H H') (h : SqT K H a xs) : SqT K H' a xs := by
  rcases h with (h | ⟨o, h⟩) | h
  · exact .inl (.inl (e _ _ h))
  · exact .inl (.inr ⟨o, e _ _ h⟩)
  · exact .inr h
theorem Pr.keep {K : PySem.W.Frag} {H H' : Hp} {v : V} {c : C2} (e : Same H H') (h : Pr K H v c) : Pr K H' v c := by
  obtain ⟨p, a, b⟩ := h
  exact ⟨p, a, e _ _ b⟩
theorem Prs.keep {K : PySem.W.Frag} {H H' : Hp} {xs : List V} {cs : List C2} (e : Same H H') (h : Prs K H xs cs) : Prs K H' xs cs := Paired.imp' (fun _ _ q => Pr.keep e q) h
theorem PL.keep {K : PySem.W.Frag} {H H' : Hp} {l : Addr} {cs : List C2} (e : Same H H') (h : PL K H l cs) : PL K H' l cs := by
  obtain ⟨xs, a, b⟩ := h
  exact ⟨xs, e _ _ a, Prs.keep e b⟩
theorem Pr.put {K : PySem.W.Frag} {H : Hp} {l : Addr} {ys zs : List V} {v : V} {c : C2} (hl : H l = some (.lst ys)) (h : Pr K H v c) : Pr K (upd H l (.lst zs)) v c := by
  obtain ⟨p, a, b⟩ := h
  exact ⟨p, a, by rw [upd_ne (ne_of b hl (by intro z; cases z))]; exact b⟩
theorem Pr.sq {K : PySem.W.Frag} {H : Hp} {v : V} {c : C2} (h : Pr K H v c) : ∃ p, v = .ref p ∧ SqT K H p [.int c.1, .int c.2] := by
  obtain ⟨p, a, b⟩ := h
  exact ⟨p, a, SqT.of b⟩
theorem Prs.put {K : PySem.W.Frag} {H : Hp} {l : Addr} {ys zs xs : List V} {cs : List C2} (hl : H l = some (.lst ys)) (h : Prs K H xs cs) : Prs K (upd H l (.lst zs)) xs cs :=
  Paired.imp' (fun _ _ h => Pr.put hl h) h

/-- the pair at a value, as the heap has it -/
def prOf (h : Heap) : Value → Option C2
  | .ref a => match h.get? a with
    | some o => match o.data with
      | .seq its _ => match its.toList with
        | [.int i _, .int j _] => some (i, j)
        | _ => none
      | _ => none
    | none => none
  | _ => none
section
variable {X : Cx} {pins : List (Addr × Obj)} {σ : St} {H : Hp} {s : Shared}
theorem pr_eqv (a b : C2) : PyData.eqv (.tuple [.int a.1, .int a.2]) (.tuple [.int b.1, .int b.2]) = decide (a = b) := by
  obtain ⟨a1, a2⟩ := a
  obtain ⟨b1, b2⟩ := b
  simp only [PyData.eqv, PyData.eqvAll, Bool.and_true]
  by_cases h1 : a1 = b1
  · by_cases h2 : a2 = b2
    · simp [h1, h2]
    · simp [h1, h2]
  · simp [h1]
def prEq (h : Heap) (c : C2) (u : Value) : Bool := decide (prOf h u = some c)
end
section
variable {X : Cx}
def rInP (K : PySem.W.Frag) (neg : Bool) : R2 := fun x y H Q => ∃ p xs c cs, y = .ref p ∧ (SqL K H p xs ∨ SqT K H p xs) ∧ Pr K H x c ∧ Prs K H xs cs ∧ Q (.bl (if neg then !decide (c ∈ cs) else decide (c ∈ cs))) H
def rCountP (K : PySem.W.Frag) : V → List V → Hp → VK → Prop := fun x xs H Q => ∃ (a : Addr) (ys : List V) (y : V) (c : C2) (cs : List C2), x = V.ref a ∧ xs = [y] ∧ SqL K H a ys ∧ Prs K H ys cs ∧ Pr K H y c ∧ Q (.int (cs.count c : Nat)) H
end
end L2

end
section
set_option maxHeartbeats 4000000
namespace L2
open PySem PySem.Spec PyProof.Rows
/-! ### sorted(a list of pairs) -/
def plt (a b : C2) : Bool := decide (a.1 < b.1 ∨ (a.1 = b.1 ∧ a.2 < b.2))
def Rising (cs : List C2) : Prop := cs.Pairwise fun a b => plt b a = false
def sh0 : Nat → Bool := fun _ => false
theorem lex_pair (a b : C2) : PyProof.Rows.lexLt PyProof.Rows.itemOrd [Sum.inl a.1, Sum.inl a.2] [Sum.inl b.1, Sum.inl b.2] = plt a b := by
  show (decide (a.1 < b.1) || (!decide (b.1 < a.1) && (decide (a.2 < b.2) || (!decide (b.2 < a.2) && false)))) = _
  unfold plt
  by_cases h1 : a.1 < b.1
  · simp [h1]
  · by_cases h2 : b.1 < a.1
    · have : ¬ a.1 = b.1 := by omega
      simp [h1, h2, this]
    · have : a.1 = b.1 := by omega
      simp [this]
def unref : Value → Addr
  | .ref a => a
  | _ => 0
theorem perm_refs {out : List Value} {ps : List Addr} (h : out.Perm (ps.map Value.ref)) : ∃ ps' : List Addr, out = ps'.map Value.ref ∧ ps'.Perm ps := by
  refine ⟨out.map unref, ?_, ?_⟩
  · rw [List.map_map]
    refine (List.map_id out).symm.trans (List.map_congr_left fun u hu => ?_)
    obtain ⟨a, _, rfl⟩ := List.mem_map.mp (h.mem_iff.mp hu)
    rfl
  · have := h.map unref
    rw [List.map_map] at this
    have e : ps.map (unref ∘ Value.ref) = ps := (List.map_congr_left fun a _ => rfl).trans (List.map_id ps)
    rw [e] at this
    exact this
theorem Paired.fn {α β : Type} {F : α → β → Prop} (d : ∀ a b b', F a b → F a b' → b = b') [Inhabited β] : ∀ {l₁ : List α} {l₂ : List β}, Paired F l₁ l₂ → ∃ f : α → β, l₂ = l₁.map f ∧ ∀ a ∈ l₁, F a (f a) := by
  intro l₁ l₂ r
  classical
  refine ⟨fun a => if h : ∃ b, F a b then Classical.choose h else default, ?_, ?_⟩
  · induction r with
    | nil => rfl
    | @cons a b l₁ l₂ r t ih =>
      rw [List.map_cons, ← ih]
      have h : ∃ b, F a b := ⟨b, r⟩
      rw [dif_pos h]
      rw [d a _ _ r (Classical.choose_spec h)]
  · intro a ha
    have h : ∃ b, F a b := by
      induction r with
      | nil => cases ha
      | @cons a' b l₁ l₂ r t ih =>
        rcases List.mem_cons.mp ha with rfl | ha
        · exact ⟨b, r⟩
        · exact ih ha
    dsimp only
    rw [dif_pos h]
    exact Classical.choose_spec h
theorem paired_map {α β : Type} {F : α → β → Prop} {f : α → β} : ∀ {l : List α}, (∀ a ∈ l, F a (f a)) → Paired F l (l.map f)
  | [], _ => .nil
  | a :: l, h => .cons (h a List.mem_cons_self) (paired_map fun b hb => h b (List.mem_cons_of_mem _ hb))
section
variable {X : Cx}
def rSortedP (K : PySem.W.Frag) : List V → Hp → VK → Prop := fun vs H Q => ∃ (a : Addr) (xs : List V) (cs : List C2), vs = [V.ref a] ∧ SqL K H a xs ∧ Prs K H xs cs ∧
  ∀ (xs' : List V) (cs' : List C2) (l : Addr), Prs K H xs' cs' → cs'.Perm cs → Rising cs' → H l = none → Q (.ref l) (upd H l (.lst xs'))
theorem cr_sortedP : CallR X (.builtin "sorted") (rSortedP X.K) := by
  intro pins s σ H vs us Q I r h
  obtain ⟨a, xs, cs, rfl, hs, hp, q⟩ := h
  obtain ⟨its, rv, hl, hz⟩ := I.list hs
  rw [Vals.ref1 r]
  obtain ⟨f, ef, hf⟩ := Paired.fn (fun v c c' (h : Pr X.K H v c) h' => by
    obtain ⟨p, rfl, h⟩ := h
    obtain ⟨p', e, h'⟩ := h'
    cases e
    have := I.tuple_inj (SqT.of h) (SqT.of h')
    obtain ⟨c1, c2⟩ := c
    obtain ⟨d1, d2⟩ := c'
    simp only [List.cons.injEq, V.int.injEq, and_true] at this
    rw [this.1, this.2]) hp
  -- the addresses
  obtain ⟨ps, eps⟩ : ∃ ps : List Addr, xs = ps.map V.ref := by
    refine ⟨xs.map fun v => match v with | .ref p => p | _ => 0, ?_⟩
    rw [List.map_map]
    refine (List.map_id xs).symm.trans (List.map_congr_left fun v hv => ?_)
    obtain ⟨p, rfl, _⟩ := hf v hv
    rfl
  subst eps
  have eits : its = ps.map Value.ref := by
    clear hs hp ef hf hz hl
    induction ps generalizing its with
    | nil => cases rv; rfl
    | cons p ps ih =>
      cases rv with
      | cons r1 r2 =>
        cases r1
        rw [ih _ r2]
        rfl
  subst eits
  have key : ∀ p ∈ ps, PyProof.Rows.G.tupKeyC s.heap sh0 (.ref p) = some [Sum.inl (f (.ref p)).1, Sum.inl (f (.ref p)).2] ∧ ∃ u, PyProof.Rows.TupOf s.heap sh0 (.ref p) u := by
    intro p hpm
    obtain ⟨p', e, h⟩ := hf (.ref p) (List.mem_map_of_mem hpm)
    cases e
    obtain ⟨its2, rv2, ⟨o, eo, cl, n, d⟩, _⟩ := I.tuple (SqT.of h)
    cases rv2 with
    | cons r1 rv2 =>
      cases rv2 with
      | cons r2 rv2 =>
        cases rv2
        obtain ⟨t1, rfl⟩ := r1
        obtain ⟨t2, rfl⟩ := r2
        refine ⟨?_, _, p, o, _, n, rfl, eo, cl, d, rfl, fun _ => ⟨_, _, rfl⟩, fun z => nomatch z⟩
        unfold PyProof.Rows.G.tupKeyC
        have e1 : PyProof.Rows.G.isTupObj s.heap (.ref p) = true := by simp [PyProof.Rows.G.isTupObj, eo, cl]
        rw [if_pos e1]
        simp only [PyProof.Rows.tupKey, eo, d]
        rfl
  have tups : ∃ fs, PyProof.Rows.TupsOf s.heap sh0 (ps.map Value.ref) fs := by
    clear hs hp ef hf hz hl rv q r
    induction ps with
    | nil => exact ⟨[], .nil⟩
    | cons p ps ih =>
      obtain ⟨fs, t⟩ := ih fun p' h => key p' (List.mem_cons_of_mem _ h)
      obtain ⟨u, hu⟩ := (key p List.mem_cons_self).2
      exact ⟨u :: fs, .cons hu t⟩
  obtain ⟨fs, tups⟩ := tups
  have hlen : (ps.map Value.ref).length ≤ sizeLine := by
    rw [List.length_map] at hz ⊢
    exact hz
  refine PyProof.Rows.G.sorted_tups (shape := sh0) hl.isList tups (fun v hv => ?_) hlen fun st' hperm hsort _ => ?_
  · obtain ⟨p, hpm, rfl⟩ := List.mem_map.mp hv
    exact ⟨_, (key p hpm).1⟩
  have hpl : (arrOf st').toList.Perm ((ps.map Value.ref).zip (ps.map Value.ref)) := by
    have := Array.perm_iff_toList_perm.mp hperm
    rw [pairsOf_toList] at this
    exact this
  have hout : ((arrOf st').toList.map (·.2)).Perm (ps.map Value.ref) := by
    have := hpl.map (·.2)
    rw [show ((ps.map Value.ref).zip (ps.map Value.ref)).map (·.2) = ps.map Value.ref by rw [List.map_snd_zip]; exact Nat.le_refl _] at this
    exact this
  obtain ⟨ps', eo, hpp⟩ := perm_refs hout
  obtain ⟨ep, he'⟩ := PyProof.Rows.sortedAll_at s.heap (ps.map Value.ref) ((arrOf st').map (·.2))
  have hlen' : (ps'.map V.ref).length ≤ sizeLine := by
    rw [List.length_map, hpp.length_eq]
    rw [List.length_map] at hlen
    exact hlen
  have eo' : ((arrOf st').map (·.2)).toList = ps'.map Value.ref := by rw [Array.toList_map]; exact eo
  have hvals : Vals (ps'.map V.ref) ((arrOf st').map (·.2)).toList := by
    rw [eo']
    clear eo' hlen' he' hpp eo
    induction ps' with
    | nil => exact .nil
    | cons p ps' ih => exact .cons rfl ih
  have hmem : ∀ p ∈ ps', p ∈ ps := fun p h => hpp.mem_iff.mp h
  refine ⟨.ref _, upd H (s.heap.objs.size + 1) (.lst (ps'.map V.ref)), I.laid (t' := s.toks) (fun _ _ => PyProof.Rows.sortedAll_old) (Nat.le_succ _) ⟨hlen', _, ep, hvals, he'⟩, rfl, q (ps'.map V.ref) ((ps'.map V.ref).map f) _ ?_ ?_ ?_ (I.hok.fresh (Nat.le_succ _))⟩
  · refine paired_map fun v hv => ?_
    obtain ⟨p, hpm, rfl⟩ := List.mem_map.mp hv
    exact hf _ (List.mem_map_of_mem (hmem p hpm))
  · rw [ef]
    exact (hpp.map V.ref).map f
  · unfold Rising
    rw [List.pairwise_iff_getElem]
    intro i j hi hj hij
    have hsz : (arrOf st').size = ps'.length := by
      have := congrArg List.length eo
      simpa using this
    have hj' : j < ps'.length := by simpa using hj
    have hi' : i < ps'.length := by omega
    have hpz : (pairsOf (ps.map Value.ref)).size = ps'.length := by rw [pairsOf_size, List.length_map, hpp.length_eq]
    have hs := hsort i j (Nat.le_of_lt hij) (by rw [hpz]; exact hj')
    have kk : ∀ (k : Nat) (hk : k < ps'.length), KK (PyProof.Rows.G.tupKindC s.heap sh0) (arrOf st') k = [Sum.inl (f (.ref ps'[k])).1, Sum.inl (f (.ref ps'[k])).2] := by
      intro k hk
      have hk2 : k < (arrOf st').size := by omega
      have hme : (arrOf st')[k] ∈ (ps.map Value.ref).zip (ps.map Value.ref) := hpl.mem_iff.mp (by simp)
      have h12 := mem_zip_self hme
      have e2 : (arrOf st')[k].2 = Value.ref ps'[k] := by
        have := congrArg (fun l => l[k]?) eo
        simp only [List.getElem?_map, List.getElem?_eq_getElem hk, Array.getElem?_toList, Array.getElem?_eq_getElem hk2, Option.map_some, Option.some.injEq] at this
        exact this
      unfold KK
      rw [Array.getElem?_eq_getElem hk2]
      dsimp only
      rw [h12.1, e2]
      show (PyProof.Rows.G.tupKeyC s.heap sh0 (.ref ps'[k])).getD _ = _
      rw [(key _ (hmem _ (List.getElem_mem hk))).1]
      rfl
    rw [kk i hi', kk j hj'] at hs
    have hs : PyProof.Rows.lexLt PyProof.Rows.itemOrd _ _ = false := hs
    rw [lex_pair] at hs
    simpa using hs
end
end L2

end
section
set_option maxHeartbeats 4000000
namespace L2
open PySem PySem.Spec PyProof.Rows
/-! ### texts of w and f -/
theorem occ_cnt (x : Str) (c : Nat) : ∀ (m i : Nat) (st : Array Nat × Nat), i + m = x.length + 1 → st.1.size ≤ i → st.2 ≤ i →
    (forIn (List.range' i m) st (StrLaws.occBody x ⟨#[c]⟩ x.length (x.length + 1))).run.fst.size = st.1.size + (x.cps.toList.drop i).count c
  | 0, i, st, h, _, _ => by
    have : x.cps.toList.drop i = [] := List.drop_eq_nil_of_le (by simp [Str.length] at h ⊢; omega)
    rw [this]
    simp
  | m + 1, i, st, h, h1, h2 => by
    rw [List.range'_succ, List.forIn_cons]
    have key := StrLaws.subAt_one x c i
    by_cases hc : x.cps.toList[i]? = some c
    · have hs := key.mpr hc
      have e : StrLaws.occBody x ⟨#[c]⟩ x.length (x.length + 1) i st = pure (ForInStep.yield (st.fst.push i, i + 1)) := by
        unfold StrLaws.occBody
        rw [if_pos ⟨⟨⟨by omega, h2⟩, hs.1⟩, hs.2⟩]
        rfl
      rw [e]
      have ih := occ_cnt x c m (i + 1) (st.fst.push i, i + 1) (by omega) (by simp; omega) (Nat.le_refl _)
      refine Eq.trans ih ?_
      obtain ⟨hlt, hv⟩ := List.getElem?_eq_some_iff.mp hc
      rw [List.drop_eq_getElem_cons hlt, hv, List.count_cons]
      simp
      omega
    · have e : StrLaws.occBody x ⟨#[c]⟩ x.length (x.length + 1) i st = pure (ForInStep.yield (st.fst, st.snd)) := by
        unfold StrLaws.occBody
        rw [if_neg fun z => hc (key.mp ⟨z.1.2, z.2⟩)]
      rw [e]
      have ih := occ_cnt x c m (i + 1) (st.fst, st.snd) (by omega) (by dsimp only; omega) (by dsimp only; omega)
      refine Eq.trans ih ?_
      by_cases hlt : i < x.cps.toList.length
      · rw [List.drop_eq_getElem_cons hlt, List.count_cons]
        have : ¬ x.cps.toList[i] = c := fun z => hc (by rw [List.getElem?_eq_getElem hlt, z])
        rw [beq_false_of_ne this]
        rfl
      · rw [List.drop_eq_nil_of_le (by omega), List.drop_eq_nil_of_le (by omega)]
theorem count_sign (x : Str) (c : Nat) : Txt.count x ⟨#[c]⟩ = ((x.cps.toList.count c : Nat) : Int) := by
  unfold Txt.count
  rw [StrLaws.occ_eq, Array.length_toList, occ_cnt x c (x.length + 1 - 0) 0 (#[], 0) (by omega) (Nat.le_refl _) (Nat.le_refl _)]
  simp
def cw (b : Bool) : Nat := if b then 119 else 102
def stS (l : List Bool) : Str := ⟨(l.map cw).toArray⟩
theorem stS_len (l : List Bool) : (stS l).length = l.length := by simp [stS, Str.length]
theorem stS_list (l : List Bool) : (stS l).cps.toList = l.map cw := by simp [stS]
theorem cw_inj {a b : Bool} (h : cw a = cw b) : a = b := by cases a <;> cases b <;> first | rfl | (exact absurd h (by decide))
theorem count_cw (l : List Bool) (b : Bool) : (l.map cw).count (cw b) = l.count b := by
  induction l with
  | nil => rfl
  | cons a l ih =>
    rw [List.map_cons, List.count_cons, List.count_cons, ih]
    cases a <;> cases b <;> rfl
theorem count_w (l : List Bool) : Txt.count (stS l) "w" = ((l.count true : Nat) : Int) := by
  refine Eq.trans (count_sign (stS l) 119) ?_
  rw [stS_list]
  exact congrArg _ (count_cw l true)
theorem count_f (l : List Bool) : Txt.count (stS l) "f" = ((l.count false : Nat) : Int) := by
  refine Eq.trans (count_sign (stS l) 102) ?_
  rw [stS_list]
  exact congrArg _ (count_cw l false)
theorem cw_map_inj : ∀ {a b : List Bool}, a.map cw = b.map cw → a = b
  | [], [], _ => rfl
  | [], _ :: _, h => nomatch h
  | _ :: _, [], h => nomatch h
  | x :: a, y :: b, h => by
    rw [List.map_cons, List.map_cons, List.cons.injEq] at h
    rw [cw_inj h.1, cw_map_inj h.2]
theorem stS_inj {a b : List Bool} (h : stS a = stS b) : a = b := cw_map_inj (by rw [← stS_list, ← stS_list, h])
theorem stS_append (a b : List Bool) : stS a ++ stS b = stS (a ++ b) := by
  have e : ∀ x y : Str, (x ++ y) = ⟨x.cps ++ y.cps⟩ := fun x y => rfl
  rw [e]
  unfold stS
  simp
theorem stS_w : ("w" : Str) = stS [true] := rfl
theorem stS_f : ("f" : Str) = stS [false] := rfl
theorem len_count (l : List Bool) : l.length = l.count true + l.count false := by
  induction l with
  | nil => rfl
  | cons a l ih => cases a <;> simp [List.count_cons, ih] <;> omega
/-- a stair -/
structure Stair (l : List Bool) : Prop where
  w1 : 1 ≤ l.count true
  w8 : l.count true ≤ 8
  f1 : 1 ≤ l.count false
  f8 : l.count false ≤ 8
theorem Stair.len {l : List Bool} (h : Stair l) : l.length ≤ 16 := by
  have := len_count l
  have := h.w8
  have := h.f8
  omega
theorem mulS_eq {n : Nat} (b : Bool) (h : n ≤ 8) (s : Str) (hs : s = stS [b]) : Txt.mul s (n : Int) = stS (List.replicate n b) := by
  subst hs
  have hk : n = 0 ∨ n = 1 ∨ n = 2 ∨ n = 3 ∨ n = 4 ∨ n = 5 ∨ n = 6 ∨ n = 7 ∨ n = 8 := by omega
  cases b <;> rcases hk with rfl | rfl | rfl | rfl | rfl | rfl | rfl | rfl | rfl <;> decide +kernel
theorem cutS_stS (l : List Bool) (lo hi : Option Int) : cutS (stS l) lo hi = stS ((l.drop (HT.sIx l.length 0 lo)).take (HT.sIx l.length l.length hi - HT.sIx l.length 0 lo)) := by
  unfold cutS
  rw [stS_list, stS_len]
  unfold stS
  rw [← List.map_drop, ← List.map_take]
end L2

end
section
set_option maxHeartbeats 4000000
namespace L2
open PySem PySem.Spec PyProof.Rows
/-! ### corners and squares, pushed -/
def step (p : C2) (b : Bool) : C2 := if b then (p.1, p.2 - 1) else (p.1 + 1, p.2)
def go (p : C2) : List Bool → C2
  | [] => p
  | b :: r => go (step p b) r
def pre (p : C2) : List Bool → List C2
  | [] => []
  | b :: r => p :: pre (step p b) r
def cor (p : C2) (l : List Bool) : List C2 := pre p l ++ [go p l]
def row (p : C2) : List C2 := (List.range p.1.toNat).map fun k => ((1 : Int) + (k : Nat), p.2)
def sq (p : C2) : List Bool → List C2
  | [] => []
  | b :: r => (if b then row p else []) ++ sq (step p b) r
end L2

end
section
set_option maxHeartbeats 4000000
namespace L2
open PySem PySem.Spec PyProof.Rows
section
variable {K : PySem.W.Frag}
/-- all but d stands, new things may have come -/
def Ext (d : Addr) (H H' : Hp) : Prop := ∀ b o, b ≠ d → H b = some o → H' b = some o
theorem Ext.refl (d : Addr) (H : Hp) : Ext d H H := fun _ _ _ h => h
theorem Ext.trans {d : Addr} {H H1 H2 : Hp} (a : Ext d H H1) (b : Ext d H1 H2) : Ext d H H2 := fun c o n h => b c o n (a c o n h)
theorem Ext.but {d : Addr} {H H' : Hp} (h : But d H H') : Ext d H H' := fun b o n e => by rw [h b n]; exact e
theorem Ext.same {d : Addr} {H H' : Hp} (h : Same H H') : Ext d H H' := fun b o _ e => h b o e
theorem Ext.new {d a : Addr} {H H' : Hp} {o : HO} (h : Ext d H H') (n : H' a = none) : Ext d H (upd H' a o) := fun b u nb e => by
  have := h b u nb e
  rw [upd_ne (ne_of_none this n)]
  exact this
theorem Same.new' {H H' : Hp} {a : Addr} {o : HO} (h : Same H H') (n : H' a = none) : Same H (upd H' a o) := fun b u e => by
  have := h b u e
  rw [upd_ne (ne_of_none this n)]
  exact this
/-- a list that stands apart from d -/
theorem Ext.list {d a : Addr} {H H' : Hp} {xs : List V} (h : Ext d H H') (n : a ≠ d) (e : SqL K H a xs) : SqL K H' a xs := by
  rcases e with (e | ⟨o, e⟩) | e
  · exact .inl (.inl (h _ _ n e))
  · exact .inl (.inr ⟨o, h _ _ n e⟩)
  · exact .inr e
theorem Ext.tup {d a : Addr} {H H' : Hp} {xs ys : List V} (h : Ext d H H') (hd : H d = some (.lst ys)) (e : SqT K H a xs) : SqT K H' a xs := by
  rcases e with (e | ⟨o, e⟩) | e
  · exact .inl (.inl (h _ _ (ne_of e hd (by intro z; cases z)) e))
  · exact .inl (.inr ⟨o, h _ _ (ne_of e hd (by intro z; cases z)) e⟩)
  · exact .inr e
theorem Draw.lst {H : Hp} {d : Addr} (z : Draw H d) : ∃ xs, H d = some (.lst xs) := by
  obtain ⟨l, ns, p, c, g, a, _⟩ := z.ex
  exact ⟨_, a⟩
theorem Draw.new {H : Hp} {d a : Addr} {o : HO} (z : Draw H d) (n : H a = none) : Draw (upd H a o) d := z.keep fun b u e => by
  rw [upd_ne (ne_of_none e n)]
  exact e
theorem log_small {n : Nat} (h : n < 1000) : (n : Int).natAbs.log2 < 1000 := by
  have e : (n : Int).natAbs = n := rfl
  rw [e]
  by_cases h0 : n = 0
  · subst h0; decide
  · exact (Nat.log2_lt h0).mpr (Nat.lt_of_lt_of_le h (Nat.le_of_lt (Nat.lt_two_pow_self)))
theorem paired_append {α β : Type} {F : α → β → Prop} : ∀ {a : List α} {b : List β} {a' : List α} {b' : List β}, Paired F a b → Paired F a' b' → Paired F (a ++ a') (b ++ b')
  | _, _, _, _, .nil, h => h
  | _, _, _, _, .cons r t, h => .cons r (paired_append t h)
theorem paired_at {α β : Type} {F : α → β → Prop} : ∀ {a : List α} {b : List β} {i : Nat} {x : α}, Paired F a b → a[i]? = some x → ∃ y, b[i]? = some y ∧ F x y
  | _, _, _, _, .nil, h => by simp at h
  | _, _, 0, _, .cons r t, h => by
    simp only [List.getElem?_cons_zero, Option.some.injEq] at h
    subst h
    exact ⟨_, rfl, r⟩
  | _, _, i + 1, _, .cons r t, h => by
    rw [List.getElem?_cons_succ] at h
    obtain ⟨y, e, q⟩ := paired_at t h
    exact ⟨y, by rw [List.getElem?_cons_succ]; exact e, q⟩
/-- a corner between two unlike cells -/
def Good (l : List Bool) (c : Nat) : Prop := ∃ (a b : List Bool) (x : Bool), l = a ++ x :: (!x) :: b ∧ c = a.length + 1
abbrev dC (c : C2) : PyData := .tuple [.int c.1, .int c.2]
theorem Pr.dp {H : Hp} {v : V} {c : C2} (h : Pr K H v c) : Dp K H v (dC c) := by
  obtain ⟨p, rfl, hq⟩ := h.sq
  exact .tup hq (.cons (.int _) (.cons (.int _) .nil))
theorem Prs.dp {H : Hp} : ∀ {xs : List V} {cs : List C2}, Prs K H xs cs → DpAll K H xs (cs.map dC)
  | _, _, .nil => .nil
  | _, _, .cons r t => .cons (Pr.dp r) (Prs.dp t)
end
end L2

end
section
set_option maxHeartbeats 4000000
namespace L2
open PySem PySem.Spec PyProof.Rows
/-! ### exceptions whose class has an __init__ of its own -/
def excInI (K : PySem.W.Frag) (C : Addr) (bmB : List Value) (newId : String) : Bool := match K.lookup C with
  | some ⟨.type "type", _, .cls cd, sl⟩ => (match cd.mro, sl.toList with
    | .ref C' :: bm, [_, _, _, _, some (.builtin n), _] => C' == C && n == newId && !cd.hasDel && PySem.W.tailIn K bmB bm
    | _, _ => false)
  | _ => false
section
variable {prog : Program} {w : World} {A : Around} {E : Value → Shared → Prop} {h : Heap} {g : Array GenState} {d : Drawn} {t : Nat} {os : OsState} {K : PySem.W.Frag}
variable {nm q : Str} {C N f : Addr} {bs bm bmB : List Value} {hdct : Bool} {sn : List Str} {sub : List Value} {ab : Bool} {col : Option Bool} {dd : Option Addr} {k0 k1 k2 k3 k5 : Option Value} {B newId initId : String}
abbrev excH (h : Heap) (C : Addr) (rest : List Value) : Heap := (h.push { cls := .type "tuple", data := .seq rest.toArray }).push { cls := .ref C, data := .fields #[.ref h.objs.size, .none, .none, .none, .bool false, .none] }
end
/-! ### C.__init__(self, text), C without an __init__ of its own -/
section
variable {prog : Program} {w : World} {A : Around} {E : Value → Shared → Prop} {s : Shared}
end
end L2

end
section
set_option maxHeartbeats 4000000
namespace L2
open PySem PySem.Spec PyProof.Rows
/-- an exception that is being made -/
abbrev XQ (e C : Addr) (d : Option Addr) : HO := .ext fun h => ExAt h e C d .none
section
variable {X : Cx} {x : Str} {CE : Addr} {mc : Value} {B newId initId : String} {bmB : List Value} {e : Expr} {es : List Expr} {t : TA} {p apos pos : Pos}
def tXin (K : PySem.W.Frag) (bmB : List Value) (newId : String) (t : TA) : TE := fun σ H Q => t σ H fun vs H1 => ∃ e C d rest, vs = .ref e :: rest ∧ H1 e = some (XQ e C d) ∧ excInI K C bmB newId = true ∧ rest.length ≤ 1000 ∧ Q .non H1
end
end L2

end
section
set_option maxHeartbeats 4000000
namespace L2
open PySem PySem.Spec PyProof.Rows
/-! ### e.name = v on an exception without a dict -/
abbrev bmV : List Value := [.type "ValueError", .type "Exception", .type "BaseException", .type "object"]
section
variable {prog : Program} {w : World} {A : Around} {E : Value → Shared → Prop} {s : Shared} {K : PySem.W.Frag}
end
end L2

end
section
set_option maxHeartbeats 4000000
namespace L2
open PySem PySem.Spec PyProof.Rows
section
variable {M : Model} {A : Around} {E : Value → Shared → Prop} {s : Shared} {env : Env}
end
/-! ### an exception tracked no more -/
section
variable {X : Cx} {pins : List (Addr × Obj)} {σ : St} {H : Hp} {s : Shared}
def drp (H : Hp) (a : Addr) : Hp := fun b => if b = a then none else H b
end
end L2

end
section
set_option maxHeartbeats 4000000
namespace L2
open PySem PySem.Spec PyProof.Rows
/-- an exception class of the text with an __init__ of its own, straight under CE, which is straight under ValueError -/
structure XCls (K : PySem.W.Frag) (C CE : Addr) : Prop where
  ini : excInI K C bmV "ValueError.__new__" = true
  set : PySem.W.findIn K (.ref C) "__setattr__" = some (some (.builtin "object.__setattr__"))
  cls : ∃ cd, PySem.W.clsIn K C = some cd ∧ cd.hasDict = true ∧ cd.mro = .ref C :: .ref CE :: bmV
section
variable {X : Cx}
def sXset (K : PySem.W.Frag) (CE : Addr) (ta tv : TE) (f : Str) : TS := fun D σ H => tv σ H fun y H1 => ta σ H1 fun x H2 => ∃ e C, x = .ref e ∧ H2 e = some (XQ e C none) ∧ XCls K C CE ∧ PySem.W.takerIn K C f = some none ∧
  ∀ dx, H2 dx = none → D.nx σ (upd (upd H2 dx (.xd [(f, y)])) e (XQ e C (some dx)))
end
section
variable {X : Cx} {CX : CXT} {k : Nat} {f C CE : Addr} {fd : FuncData} {ps : List Str} {sp : Sp} {ds : List Value} {dvs : List V} {initId : String}

def tRaiseI (C : Addr) (sp : Sp) (dvs : List V) (E : XK) (t : TA) : TS := fun _ σ H => t σ H fun vs H1 => vs.length ≤ sizeLine ∧ ∀ e, H1 e = none → sp (.ref e :: (vs ++ dvs)) (upd H1 e (XQ e C none)) (fun v H2 => v = .non ∧ ∃ dx, H2 e = some (XQ e C (some dx)) ∧ E (.ref C) (some dx) (drp H2 e)) E0
end
end L2

end
section
set_option maxHeartbeats 4000000
namespace L2
open PySem PySem.Spec PyProof.Rows PySem.W
section
variable {prog : Program} {w : World} {A : Around} {E : Value → Shared → Prop} {s : Shared} {K : Frag} {x D : Addr} {ox : Obj} {od : Option Obj} {name : Str}
end
/-- what its class is to an attribute of an exception -/
structure XGet (K : Frag) (C : Addr) (f : Str) : Prop where
  ga : findIn K (.ref C) "__getattribute__" = some (some (.builtin "BaseException.__getattribute__"))
  gn : findIn K (.ref C) "__getattr__" = some none
  hd : hasDictIn K C = true
  no : findIn K (.ref C) f = some none
  mr : mroIn K C (.type "BaseException") = some true
section
variable {X : Cx} {e : Expr} {ta : TE} {f : Str} {pos : Pos}
def tXfld (X : Cx) (ta : TE) (f : Str) : TE := fun σ H Q => ta σ H fun x H1 => ∃ ea oe C dx fs v, x = .ref ea ∧ (ea, oe) ∈ X.pn ∧ ExO C (some dx) oe ∧ H1 dx = some (.xd fs) ∧ fs.lookup f = some v ∧ XGet X.K C f ∧ Q v H1
end
/-- a def with defaults that raises nothing -/
theorem FunD.ok0 {P : Program} {w : World} {K : PySem.W.Frag} {mg : Str → Option Value} {base : Heap} {x qual : Str} {st : Stmt} {f : Addr} {fd : FuncData} {ds : List Value} {N ps : List Str} {k : Nat} {sp : Sp} (F : FunD K x qual st f fd ds) (S : FnScope N ps (defScope st)) (len : ∀ vs H Q E, sp vs H Q E → vs.length = ps.length)
    (hbody : ∀ (cdv : Value) (A : Around) (outer : List Env) (s : Shared) (H : Hp) (vs : List V) (Q : VK) (E : XK), Room k (A.deeper (envOfC qual (defScope st) s.heap.objs.size f cdv)) → sp vs H Q E →
      ∃ t, PSs (cxOf CX0 P w K mg base N qual (defScope st) f cdv A outer s H E).nox (defBody st) t ∧ t { nx := fun _ H' => Q .non H', rt := Q } (start N vs) H) : FnOk P w K mg base CX0 (k + 1) f fd ps sp := by
  obtain ⟨oc, od, kV, doc, pm, an, cdv, ct, osl, T, o, n, rfl, lk, hcd, _, _⟩ := F.ex
  refine fn_of lk hcd S len fun A outer s H vs Q E hr hsp => ?_
  obtain ⟨t, h, q⟩ := hbody cdv A outer s H vs Q E hr hsp
  exact ⟨t, h.nox, q⟩
end L2

end
section
set_option maxHeartbeats 4000000
namespace L2
open PySem PySem.Spec PyProof.Rows
theorem kt_bool (K : PySem.W.Frag) : PySem.W.kitOne K (.type "NoneType") (.type "bool") = some false ∧ PySem.W.kitOne K (.type "bool") (.type "bool") = some true ∧ PySem.W.kitOne K (.type "int") (.type "bool") = some false ∧ PySem.W.kitOne K (.type "str") (.type "bool") = some false ∧ PySem.W.kitOne K (.type "list") (.type "bool") = some false ∧ PySem.W.kitOne K (.type "tuple") (.type "bool") = some false := by
  refine ⟨?_, ?_, ?_, ?_, ?_, ?_⟩ <;> with_unfolding_all rfl
theorem kt_two (K : PySem.W.Frag) : PySem.W.kitAny K (.type "int") [.type "int", .type "str"] = some true ∧ PySem.W.kitAny K (.type "str") [.type "int", .type "str"] = some true ∧ PySem.W.kitAny K (.type "list") [.type "int", .type "str"] = some false ∧ PySem.W.kitAny K (.type "tuple") [.type "int", .type "str"] = some false := by
  refine ⟨?_, ?_, ?_, ?_⟩ <;> with_unfolding_all rfl
theorem kt_int (K : PySem.W.Frag) : PySem.W.kitOne K (.type "int") (.type "int") = some true ∧ PySem.W.kitOne K (.type "str") (.type "int") = some false := by
  refine ⟨?_, ?_⟩ <;> with_unfolding_all rfl
theorem kt_list (K : PySem.W.Frag) : PySem.W.kitOne K (.type "list") (.type "list") = some true ∧ PySem.W.kitOne K (.type "tuple") (.type "list") = some false := by
  refine ⟨?_, ?_⟩ <;> with_unfolding_all rfl
theorem kt_tuple (K : PySem.W.Frag) : PySem.W.kitOne K (.type "list") (.type "tuple") = some false ∧ PySem.W.kitOne K (.type "tuple") (.type "tuple") = some true := by
  refine ⟨?_, ?_⟩ <;> with_unfolding_all rfl
/-- flat and equal, or two lists (two tuples) of things that are R of one another -/
def StepR (R : Hp → V → V → Prop) (H : Hp) (x y : V) : Prop := (flatV x = true ∧ x = y) ∨ (∃ a b xs ys, x = .ref a ∧ y = .ref b ∧ H a = some (.lst xs) ∧ H b = some (.lst ys) ∧ xs.length = ys.length ∧ xs.length < sizeLine ∧ ∀ (i : Nat) x y, xs[i]? = some x → ys[i]? = some y → R H x y) ∨
  ∃ a b xs ys, x = .ref a ∧ y = .ref b ∧ H a = some (.tup xs) ∧ H b = some (.tup ys) ∧ xs.length = ys.length ∧ xs.length < sizeLine ∧ ∀ (i : Nat) x y, xs[i]? = some x → ys[i]? = some y → R H x y
/-- the same data on both sides, of so many floors -/
def Alike : Nat → Hp → V → V → Prop
  | 0 => fun _ _ _ => False
  | n + 1 => StepR (Alike n)
theorem Alike.keep {H H' : Hp} (s : Same H H') : ∀ {n : Nat} {x y : V}, Alike n H x y → Alike n H' x y
  | 0, _, _, h => h
  | n + 1, x, y, h => by
    show StepR (Alike n) H' x y
    rcases (show StepR (Alike n) H x y from h) with h | ⟨a, b, xs, ys, e1, e2, h1, h2, hl, hz, k⟩ | ⟨a, b, xs, ys, e1, e2, h1, h2, hl, hz, k⟩
    · exact Or.inl h
    · exact Or.inr (Or.inl ⟨a, b, xs, ys, e1, e2, s _ _ h1, s _ _ h2, hl, hz, fun i x y p q => Alike.keep s (k i x y p q)⟩)
    · exact Or.inr (Or.inr ⟨a, b, xs, ys, e1, e2, s _ _ h1, s _ _ h2, hl, hz, fun i x y p q => Alike.keep s (k i x y p q)⟩)
theorem Alike.flat {H : Hp} {n : Nat} {x : V} (h : flatV x = true) : Alike (n + 1) H x x := Or.inl ⟨h, rfl⟩
def spR (R : Hp → V → V → Prop) : Sp := fun vs H Q _ => ∃ x y, vs = [x, y] ∧ R H x y ∧ ∀ H', Same H H' → Q (.bl true) H'
theorem FnOk.never {P : Program} {w : World} {K : PySem.W.Frag} {mg : Str → Option Value} {base : Heap} {CX : CXT} {k : Nat} {f : Addr} {fd : FuncData} {ps : List Str} : FnOk P w K mg base CX k f fd ps (spR fun _ _ _ => False) :=
  ⟨fun _ _ _ _ h => by obtain ⟨_, _, _, z, _⟩ := h; exact z.elim, fun _ _ _ _ _ _ _ _ _ _ _ _ _ h => by obtain ⟨_, _, _, z, _⟩ := h; exact z.elim⟩
theorem Same.new {H H' : Hp} {p : Addr} {o : HO} (s : Same H H') (hp : H' p = none) : Same H (upd H' p o) := fun b u e => by
  have z := s b u e
  rw [upd_ne (ne_of_none z hp)]
  exact z
/-- a list that the def has made is changed -/
theorem Same.turn {H H' : Hp} {p : Addr} {o : HO} (s : Same H H') (hp : H p = none) : Same H (upd H' p o) := fun b u e => by
  rw [upd_ne (ne_of_none e hp)]
  exact s b u e
end L2

end
section
set_option maxHeartbeats 4000000
namespace L2
open PySem PySem.Spec PyProof.Rows
/-- the refusals in the order of the laws' list -/
def errNames : List String := ["BadSize", "BadStair", "BadNumber", "NoColumn", "NoCell", "NoCorner", "NoEdge", "NotJoined", "NotSlit", "Unlike", "Wide", "BadView", "BadDrawing", "NoPatch", "TooMany", "BadName", "BadText", "NoCard", "NoPlan", "Taken", "SameCard", "Full", "NothingLeft"]
/-- where they stand -/
structure Errs (K : PySem.W.Frag) (mg : Str → Option Value) (e : Nat → Addr) (cE rE : Addr) : Prop where
  m0 : mg "BadSize" = some (.ref (e 0))
  m1 : mg "BadStair" = some (.ref (e 1))
  m2 : mg "BadNumber" = some (.ref (e 2))
  m3 : mg "NoColumn" = some (.ref (e 3))
  m4 : mg "NoCell" = some (.ref (e 4))
  m5 : mg "NoCorner" = some (.ref (e 5))
  m6 : mg "NoEdge" = some (.ref (e 6))
  m7 : mg "NotJoined" = some (.ref (e 7))
  m8 : mg "NotSlit" = some (.ref (e 8))
  m9 : mg "Unlike" = some (.ref (e 9))
  m10 : mg "Wide" = some (.ref (e 10))
  m11 : mg "BadView" = some (.ref (e 11))
  m12 : mg "BadDrawing" = some (.ref (e 12))
  m13 : mg "NoPatch" = some (.ref (e 13))
  m14 : mg "TooMany" = some (.ref (e 14))
  m15 : mg "BadName" = some (.ref (e 15))
  m16 : mg "BadText" = some (.ref (e 16))
  m17 : mg "NoCard" = some (.ref (e 17))
  m18 : mg "NoPlan" = some (.ref (e 18))
  m19 : mg "Taken" = some (.ref (e 19))
  m20 : mg "SameCard" = some (.ref (e 20))
  m21 : mg "Full" = some (.ref (e 21))
  m22 : mg "NothingLeft" = some (.ref (e 22))
  mC : mg "CardError" = some (.ref cE)
  mR : mg "RoomError" = some (.ref rE)
  mV : mg "ValueError" = none
  mL : mg "LookupError" = none
  qC : clsIn K cE [.type "ValueError", .type "Exception", .type "BaseException", .type "object"] = true
  qR : clsIn K rE [.type "LookupError", .type "Exception", .type "BaseException", .type "object"] = true
/-- the j-th refusal's class, by itself -/
structure ErrAt (K : PySem.W.Frag) (e : Nat → Addr) (cE rE : Addr) (j : Nat) : Prop where
  lt : j < 23
  z : ExcK K (e j)
  is : ∀ i, i < 23 → PySem.W.kitOne K (.ref (e j)) (.ref (e i)) = some (decide (i = j))
  c : PySem.W.kitOne K (.ref (e j)) (.ref cE) = some (decide (j < 17))
  v : PySem.W.kitOne K (.ref (e j)) (.type "ValueError") = some (decide (j < 17))
  r : PySem.W.kitOne K (.ref (e j)) (.ref rE) = some (!decide (j < 17))
  l : PySem.W.kitOne K (.ref (e j)) (.type "LookupError") = some (!decide (j < 17))
def spKind (K : PySem.W.Frag) (e : Nat → Addr) (cE rE : Addr) : Addr → Obj → Sp := fun ea oe vs H Q _ => ∃ j, vs = [.ref ea] ∧ ErrAt K e cE rE j ∧ oe.cls = .ref (e j) ∧ ExD oe ∧ ExDict oe H ∧ ∀ H', Same H H' → Q (.str (errNames.getD j "")) H'
def flg (j n : Nat) : List V := (List.range n).map fun i => V.bl (decide (i = j))
theorem flg_room : ∀ j, j < 23 → inV (.bl true) (cutV (flg j 23) (some 17) none) = (!decide (j < 17)) ∧ (cutV (flg j 23) (some 17) none).all flatV = true := by decide +kernel
def wordsA : Str := "BadSize BadStair BadNumber NoColumn NoCell NoCorner NoEdge NotJoined NotSlit Unlike Wide BadView "
def wordsB : Str := "BadDrawing NoPatch TooMany BadName BadText NoCard NoPlan Taken SameCard Full NothingLeft"
theorem words_split : Txt.split (wordsA ++ wordsB) " " = errNames.map Str.ofString := by decide +kernel
theorem words_len : wordsA.length + wordsB.length ≤ 1000 := by decide +kernel
theorem join_one : ∀ j, j < 23 → Txt.join "+" [Str.ofString (errNames.getD j "")] = Str.ofString (errNames.getD j "") := by decide +kernel
theorem ExDict.keep {oe : Obj} {H H' : Hp} (h : ExDict oe H) (s : Same H H') : ExDict oe H' := by
  rcases h with h | ⟨dx, u, a, b⟩
  · exact .inl h
  · exact .inr ⟨dx, u, a, s _ _ b⟩
end L2

end
section
set_option maxHeartbeats 4000000
namespace L2
open PySem PySem.Spec PyProof.Rows
section
variable {X : Cx} {o : Expr} {to : TE} {i : Nat} {x : Str} {apos pos p1 p2 p3 p4 p5 p6 : Pos} {j1 j2 j3 : Nat}
def tRep (to : TE) (i : Nat) : TE := fun σ H Q => to σ H fun a H1 => ∃ (z : Str) (n : Nat), a = .str z ∧ z.length ≤ 1000 ∧ σ[i]? = some (some (.int (n : Nat))) ∧ ∀ z' : Str, z'.length ≤ z.length → Q (.str z') H1
end
end L2

end
section
set_option maxHeartbeats 4000000
namespace L2
open PySem PySem.Spec PyProof.Rows
/-! ### the wall cells of a stair -/
def ws (p : C2) : List Bool → List C2
  | [] => []
  | b :: r => (if b then [p] else []) ++ ws (step p b) r
/-- two rising lists of the same pairs are one -/
theorem plt_total {a b : C2} (h1 : plt a b = false) (h2 : plt b a = false) : a = b := by
  obtain ⟨a1, a2⟩ := a
  obtain ⟨b1, b2⟩ := b
  have h1 := of_decide_eq_false h1
  have h2 := of_decide_eq_false h2
  dsimp only at h1 h2
  have e1 : a1 = b1 := by omega
  have e2 : a2 = b2 := by omega
  rw [e1, e2]
theorem rising_eq : ∀ {a b : List C2}, a.Perm b → Rising a → Rising b → a = b
  | [], b, h, _, _ => (List.nil_perm.mp h).symm
  | x :: a, [], h, _, _ => nomatch List.perm_nil.mp h
  | x :: a, y :: b, h, ha, hb => by
    have hx := (List.pairwise_cons.mp ha).1
    have hy := (List.pairwise_cons.mp hb).1
    have e : x = y := by
      have m1 : y ∈ x :: a := h.mem_iff.mpr List.mem_cons_self
      have m2 : x ∈ y :: b := h.mem_iff.mp List.mem_cons_self
      rcases List.mem_cons.mp m1 with e | m1
      · exact e.symm
      · rcases List.mem_cons.mp m2 with e | m2
        · exact e
        · exact plt_total (hy x m2) (hx y m1)
    subst e
    rw [rising_eq (List.Perm.cons_inv h) (List.pairwise_cons.mp ha).2 (List.pairwise_cons.mp hb).2]
/-! ### a call of one of two defs that a list holds -/
section
variable {X : Cx} {CX : CXT} {k1 k2 : Nat} {f1 f2 : Addr} {fd1 fd2 : FuncData} {ps1 ps2 : List Str} {sp1 sp2 : Sp} {E : XK} {e0 e : Expr} {es : List Expr} {t0 : TE} {t : TA} {pos : Pos}
def tCallE (f1 f2 : Addr) (sp1 sp2 : Sp) (E : XK) (t0 : TE) (t : TA) : TE := fun σ H Q => t0 σ H fun v H1 => (v = .ref f1 ∧ t σ H1 fun vs H2 => sp1 (vs ++ []) H2 Q E) ∨ (v = .ref f2 ∧ t σ H1 fun vs H2 => sp2 (vs ++ []) H2 Q E)
end
end L2

end
section
set_option maxHeartbeats 4000000
namespace L2
open PySem PySem.Spec PyProof.Rows
/-! ### a text turned round -/
def revS (z : Str) : Str := ⟨z.cps.toList.reverse.toArray⟩
section
variable {X : Cx} {e st : Expr} {te ts : TE} {pos p2 : Pos}
def tRevS (te ts : TE) : TE := fun σ H Q => te σ H fun v H1 => ts σ H1 fun u H2 => ∃ z, v = .str z ∧ u = .int (-1) ∧ z.length ≤ sizeLine ∧ Q (.str (revS z)) H2
end
end L2

end
section
set_option maxHeartbeats 4000000
namespace L2
open PySem PySem.Spec PyProof.Rows
section
variable {X : Cx} {a b : Expr} {ta : TA} {p p' pos pos' : Pos}
/-- list(range(a, b)) -/
def tLR (ta : TA) : TE := fun σ H Q => ta σ H fun vs H1 => ∃ i j : Int, vs = [.int i, .int j] ∧ (-(2 ^ 62) ≤ i ∧ i < 2 ^ 62 ∧ -(2 ^ 62) ≤ j ∧ j < 2 ^ 62) ∧ (j - i).toNat ≤ 1000 ∧
  ∀ l, H1 l = none → Q (.ref l) (upd H1 l (.lst ((List.range (j - i).toNat).map fun k => V.int (i + (k : Nat)))))
theorem vals_items {i : Int} {n : Nat} {acc : Array Value} (h : ItemsOf (fun k v => ∃ t, v = .int (i + (k : Nat) * 1) t) acc n) : Vals ((List.range n).map fun k => V.int (i + (k : Nat))) acc.toList := by
  obtain ⟨hn, hk⟩ := h
  have key : ∀ (m : Nat), m ≤ n → Vals ((List.range m).map fun k => V.int (i + (k : Nat))) (acc.toList.take m) := by
    intro m
    induction m with
    | zero => intro _; rw [List.take_zero]; exact .nil
    | succ m ih =>
      intro hm
      have hlt : m < acc.size := by omega
      have e : acc[m]? = some acc[m] := by simp [hlt]
      obtain ⟨t, et⟩ := hk m _ e
      have e2 : acc.toList[m]? = some acc[m] := by simp [hlt]
      rw [List.range_succ, List.map_append, List.take_succ, e2]
      refine Vals.append (ih (by omega)) (.cons ⟨t, ?_⟩ .nil)
      show acc[m] = Value.int (i + (m : Nat)) t
      rw [et, Int.mul_one]
  have := key n (Nat.le_refl _)
  rw [← hn, ← Array.length_toList, List.take_length] at this
  rw [Array.length_toList, hn] at this
  exact this
theorem pe_listRange (hh : X.A.handled = none) (hgl : Gl X "list") (hml : X.mg "list" = none) (hg : Gl X "range") (hm : X.mg "range" = none) (ha : PA X [a, b] ta)
    (he : starEach [.Call (.Name "range" p') [a, b] [] pos'] X.env = [(false, eval (.Call (.Name "range" p') [a, b] [] pos') X.env)] := by rfl)
    (hs : starEach [a, b] X.env = [(false, eval a X.env), (false, eval b X.env)] := by rfl) (hs2 : starEach [b] X.env = [(false, eval b X.env)] := by rfl) :
    PE X (.Call (.Name "list" p) [.Call (.Name "range" p') [a, b] [] pos'] [] pos) (tLR ta) := by
  intro pins s σ H Q I h
  refine wpAny_Call_Name_kw (ld_blt I hgl hml boot_list ?_)
  refine PyProof.Rows.callWith_type1 ?_ he rfl
  rw [he]
  show wpAny _ _ (spliced [(false, eval (.Call (.Name "range" p') [a, b] [] pos') X.env)]) _ _ s
  refine Calls.spliced_cons (Call_ (ld_blt I hg hm boot_range (PyProof.Rows.callWith_type1 (thn (ha pos' pins s σ H _ I h) fun us s1 ⟨vs, H1, I1, r1, q1⟩ => ?_) (by rw [hs, hs2]) (by rw [hs2]; rfl))))
  obtain ⟨i, j, e, ⟨q1, q2, q3, q4⟩, hlen, q⟩ := q1
  subst e
  cases r1 with
  | cons r rr =>
    cases rr with
    | cons r' rr =>
      cases rr
      obtain ⟨t, rfl⟩ := r
      obtain ⟨t', rfl⟩ := r'
      refine call_range_2 (Calls.spliced_nil ?_)
      have I2 : Inv X pins σ H1 { s1 with heap := s1.heap.push { cls := .type "range", data := .fields #[.int i t, .int j t', .int 1 s1.toks] }, toks := s1.toks + 1 } := I1.kept fun b o e => Heap.get?_push_of_some _ e
      have hn : Builtin.Range.rangeSize i j 1 = ((j - i).toNat : Nat) := by rw [rangeSize_one]; split <;> omega
      refine call_list_range hh (IsRange.new ..) (small_one q1 q2 q3 q4) hn (by omega) fun h' tk acc' c' hk hS hacc => ?_
      have rv := vals_items hacc
      refine ⟨.ref _, upd H1 _ (.lst ((List.range (j - i).toNat).map fun k => V.int (i + (k : Nat)))), I2.laid (t' := tk) hk (Nat.le_refl _) ⟨?_, acc'.toList, c', rv, ?_⟩, rfl, q _ (I2.hok.fresh (Nat.le_refl _))⟩
      · rw [List.length_map, List.length_range]
        exact Nat.le_trans hlen (by decide)
      · rw [Array.toArray_toList]; exact hS
end
section
variable {X : Cx} {i : Nat} {x : Str} {es : List Expr} {tr : TA} {p1 p2 p3 p4 p5 p6 apos cpos : Pos} {k1 k2 k3 : Nat}
/-- (x + "x", x.replace("w", ""), ..) -/
def tTwo (i : Nat) (tr : TA) : TA := fun σ H Q => ∃ z : Str, σ[i]? = some (some (.str z)) ∧ 1 ≤ z.length ∧ z.length ≤ 1000 ∧ tr σ H fun xs H2 => Q (.str (z ++ "x") :: .str (Txt.replace z "w" "") :: xs) H2
end
end L2

end
section
set_option maxHeartbeats 4000000
namespace L2
open PySem PySem.Spec PyProof.Rows
/-! ### a set of up to four pairs: its table -/
def tab (led : Bool) (l : List Nat) : SetTable := ⟨7, l.toArray, #[], 0, led, 0, true⟩
/-- rising lists of places: n of them from lo on -/
def rlists : Nat → Nat → List (List Nat)
  | 0, _ => [[]]
  | n + 1, lo => (List.range 8).flatMap fun a => if lo ≤ a then (rlists n (a + 1)).map (a :: ·) else []
def Pl (n : Nat) : List (List Nat) := rlists n 0
theorem pl_len : ∀ n, n ≤ 4 → ∀ l ∈ Pl n, l.length = n := by decide +kernel
def rchB (l : List Nat) : Nat → SetTable.Probe → Bool
  | 0, p => decide ((tab true l).slot p.j = .empty)
  | n + 1, p => decide ((tab true l).slot p.j = .empty) || rchB l n ((tab true l).advance p)
theorem rch0 : ∀ n, n ≤ 3 → ∀ l ∈ Pl n, ∀ i, i < 8 → rchB l 7 ⟨i, 0, i, 0, none⟩ = true := by decide +kernel
def PGood (p : SetTable.Probe) : Prop := p.more = 0 ∧ p.j = p.i ∧ p.i < 8 ∧ p.dummy = none
theorem runEnd7 (i : Nat) : SetTable.runEnd 7 i - i = 0 := by
  unfold SetTable.runEnd
  rw [if_neg (by omega)]
  omega
theorem adv_eq (led : Bool) (l : List Nat) {p : SetTable.Probe} (h : PGood p) : (tab led l).advance p = ⟨(p.i * 5 + 1 + p.perturb / 32) % 8, 0, (p.i * 5 + 1 + p.perturb / 32) % 8, p.perturb / 32, none⟩ := by
  obtain ⟨h1, h2, h3, h4⟩ := h
  obtain ⟨pj, pm, pi, pp, pd⟩ := p
  simp only at h1 h2 h3 h4
  subst h1 h2 h4
  unfold SetTable.advance
  rw [if_neg (show ¬ (0 > 0) by decide)]
  show (⟨_, SetTable.runEnd 7 _ - _, _, _, none⟩ : SetTable.Probe) = _
  rw [runEnd7]
  rfl
theorem adv_good (led : Bool) (l : List Nat) {p : SetTable.Probe} (h : PGood p) : PGood ((tab led l).advance p) := by
  rw [adv_eq led l h]
  exact ⟨rfl, rfl, Nat.mod_lt _ (by decide), rfl⟩
theorem rchk {n : Nat} (hn : n ≤ 3) {l : List Nat} (hl : l ∈ Pl n) : ∀ (k : Nat) (p : SetTable.Probe), PGood p → p.perturb < 32 ^ k → rchB l (k + 7) p = true
  | 0, p, hg, hp => by
    obtain ⟨h1, h2, h3, h4⟩ := hg
    obtain ⟨pj, pm, pi, pp, pd⟩ := p
    simp only at h1 h2 h3 h4 hp
    subst h1 h2 h4
    have e : pp = 0 := by omega
    subst e
    exact rch0 n hn l hl pj h3
  | k + 1, p, hg, hp => by
    show (decide ((tab true l).slot p.j = .empty) || rchB l (k + 7) ((tab true l).advance p)) = true
    rw [Bool.or_eq_true]
    refine .inr (rchk hn hl k _ (adv_good true l hg) ?_)
    rw [adv_eq true l hg]
    show p.perturb / 32 < 32 ^ k
    rw [Nat.pow_succ] at hp
    exact Nat.div_lt_of_lt_mul (by omega)
theorem start_good (led : Bool) (l : List Nat) (h : Int) : PGood ((tab led l).probeStart h) ∧ ((tab led l).probeStart h).perturb < 32 ^ 13 := by
  have hb : SetTable.bits h < 2 ^ 64 := by
    unfold SetTable.bits
    have := Int.emod_lt_of_pos h (show (0 : Int) < 2 ^ 64 by decide)
    have := Int.emod_nonneg h (show (2 ^ 64 : Int) ≠ 0 by decide)
    omega
  refine ⟨⟨runEnd7 _, rfl, Nat.mod_lt _ (Nat.succ_pos 7), rfl⟩, ?_⟩
  show SetTable.bits h < 32 ^ 13
  exact Nat.lt_of_lt_of_le hb (by decide)
/-- what a probe meets -/
theorem probe_go (led : Bool) (l : List Nat) (hashAt : Nat → Int) (h : Int) : ∀ (n : Nat) (p : SetTable.Probe) (fuel : Nat), PGood p → rchB l n p = true → n < fuel →
    (∃ j, SetTable.probe.go (tab led l) hashAt h fuel p = some (.empty j none) ∧ (tab led l).slot j = .empty ∧ j < 8) ∨
    (∃ (j i : Nat) (nx : SetTable.Probe) (m : Nat), SetTable.probe.go (tab led l) hashAt h fuel p = some (.candidate j i nx) ∧ (tab led l).slot j = .live i ∧ hashAt i = h ∧ PGood nx ∧ m < n ∧ rchB l m nx = true) := by
  intro n
  induction n with
  | zero =>
    intro p fuel hg hr hf
    obtain ⟨f, rfl⟩ : ∃ f, fuel = f + 1 := ⟨fuel - 1, by omega⟩
    have he : (tab led l).slot p.j = .empty := of_decide_eq_true hr
    refine .inl ⟨p.j, ?_, he, by rw [hg.2.1]; exact hg.2.2.1⟩
    rw [SetTable.probe.go, he]
    show some (SetTable.Met.empty p.j p.dummy) = _
    rw [hg.2.2.2]
  | succ n ih =>
    intro p fuel hg hr hf
    obtain ⟨f, rfl⟩ : ∃ f, fuel = f + 1 := ⟨fuel - 1, by omega⟩
    have hr' : (decide ((tab led l).slot p.j = .empty) || rchB l n ((tab led l).advance p)) = true := hr
    rw [Bool.or_eq_true] at hr'
    cases hs : (tab led l).slot p.j with
    | empty =>
      refine .inl ⟨p.j, ?_, hs, by rw [hg.2.1]; exact hg.2.2.1⟩
      rw [SetTable.probe.go, hs]
      show some (SetTable.Met.empty p.j p.dummy) = _
      rw [hg.2.2.2]
    | dummy =>
      exfalso
      unfold SetTable.slot at hs
      dsimp only at hs
      split at hs
      · cases hs
      · have hd : SetTable.has (tab led l).dummies p.j = false := rfl
        rw [hd] at hs
        cases hs
    | live i =>
      have hr2 : rchB l n ((tab led l).advance p) = true := by
        rcases hr' with z | z
        · have := of_decide_eq_true z
          rw [hs] at this
          cases this
        · exact z
      by_cases hh : hashAt i = h
      · refine .inr ⟨p.j, i, (tab led l).advance p, n, ?_, hs, hh, adv_good led l hg, Nat.lt_succ_self n, hr2⟩
        rw [SetTable.probe.go, hs]
        show (if (hashAt i == h) = true then _ else _) = _
        rw [if_pos (by rw [hh]; exact beq_self_eq_true h)]
      · have e : SetTable.probe.go (tab led l) hashAt h (f + 1) p = SetTable.probe.go (tab led l) hashAt h f ((tab led l).advance p) := by
          rw [SetTable.probe.go, hs]
          show (if (hashAt i == h) = true then _ else _) = _
          rw [if_neg (by simpa using hh)]
        rw [e]
        rcases ih _ f (adv_good led l hg) hr2 (by omega) with z | ⟨j, i', nx, m, z1, z2, z3, z4, z5, z6⟩
        · exact .inl z
        · exact .inr ⟨j, i', nx, m, z1, z2, z3, z4, by omega, z6⟩
/-- a place more -/
def putL (l : List Nat) (j : Nat) : List Nat := (SetTable.insertAt l.toArray (SetTable.below l.toArray j) j).toList
theorem put_ok : ∀ n, n ≤ 3 → ∀ l ∈ Pl n, ∀ j, j < 8 → (tab true l).slot j = .empty → putL l j ∈ Pl (n + 1) ∧ SetTable.below l.toArray j ≤ n := by decide +kernel
theorem put_eq (led : Bool) (l : List Nat) (j : Nat) : (tab led l).put j = (tab led (putL l j), SetTable.below l.toArray j) := by
  unfold SetTable.put
  have hd : SetTable.has (tab led l).dummies j = false := rfl
  dsimp only
  rw [hd]
  rfl
theorem live_at : ∀ n, n ≤ 4 → ∀ l ∈ Pl n, ∀ j i, (tab true l).slot j = .live i → i < n := by
  intro n hn l hl j i h
  have e := pl_len n hn l hl
  unfold SetTable.slot at h
  dsimp only at h
  split at h
  · rename_i q
    cases h
    have q : l.toArray[SetTable.below l.toArray j]? = some j := eq_of_beq q
    have := (Array.getElem?_eq_some_iff.mp q).1
    have z : SetTable.below l.toArray j < n := by simpa [e] using this
    exact z
  · have hd : SetTable.has (tab true l).dummies j = false := rfl
    rw [hd] at h
    cases h
theorem walk0 : ∀ n, n ≤ 4 → ∀ l ∈ Pl n, SetTable.below l.toArray 0 = 0 := by decide +kernel
theorem walk1 : ∀ n, n ≤ 4 → ∀ l ∈ Pl n, ∀ i, i < n → SetTable.below l.toArray (l.getD i 0 + 1) = i + 1 := by decide +kernel
theorem full_not (led : Bool) {l : List Nat} (h : l.length ≤ 4) : (tab led l).tooFull = false := by
  unfold SetTable.tooFull SetTable.fill tab
  simp
  omega
theorem fits_tab (led : Bool) {l : List Nat} {n : Nat} (h : l.length = n) (hn : n ≤ 4) : (tab led l).fits n = true := by
  unfold SetTable.fits SetTable.fill tab
  simp [h]
  omega
theorem insertAt_list {α : Type} (xs : Array α) (p : Nat) (x : α) : (SetTable.insertAt xs p x).toList = xs.toList.take p ++ x :: xs.toList.drop p := by
  unfold SetTable.insertAt
  simp
  exact List.take_of_length_le (by simp)
theorem mid_perm {α : Type} (xs : List α) (p : Nat) (x : α) : (xs.take p ++ x :: xs.drop p).Perm (xs ++ [x]) := by
  have h2 : (xs.take p ++ x :: xs.drop p).Perm (x :: (xs.take p ++ xs.drop p)) := List.perm_middle
  rw [List.take_append_drop] at h2
  exact h2.trans (List.perm_append_singleton x xs).symm
end L2

end
section
set_option maxHeartbeats 4000000
namespace L2
open PySem PySem.Spec PyProof.Rows
section
variable {prog : Program} {w : World} {A : Around} {E : Value → Shared → Prop} {s : Shared}
abbrev PKy (prog : Program) (w : World) (h : Heap) (c : C2) (a : Addr) : Prop := IsTupleKey (intKind prog w) h [c.1, c.2] a
def hP (prog : Program) (w : World) (c : C2) : Int := tupleKeyHash (intKind prog w) [c.1, c.2]
theorem PKy.items {h : Heap} {c : C2} {a : Addr} (k : PKy prog w h c a) : ∃ o n t1 t2, h.get? a = some o ∧ o.cls = .type "tuple" ∧ o.data = .seq #[.int c.1 t1, .int c.2 t2] n := by
  obtain ⟨o, items, n, ho, hc, hd, hi⟩ := k
  obtain ⟨its⟩ := items
  cases hi with
  | cons h1 hi =>
    cases hi with
    | cons h2 hi =>
      cases hi
      obtain ⟨t1, rfl⟩ := Value.isInt_shape h1
      obtain ⟨t2, rfl⟩ := Value.isInt_shape h2
      exact ⟨o, n, t1, t2, ho, hc, hd⟩
/-- a pair's hash is one of values -/
theorem hbv_pair {c : C2} {a : Addr} {Q : Bool → Shared → Prop} (k : PKy prog w s.heap c a) (h : Q true s) : wpAny (model prog w) A (hashByValue 8 (.ref a)) Q E s := by
  have hT := k.typeIs
  obtain ⟨o, n, t1, t2, ho, hc, hd⟩ := k.items
  rw [hashByValue]
  refine wpAny_bind (wpAny_specialOf hT F.slot_tuple_hash.lookup ?_)
  dsimp only
  refine wpAny_bind (wpAny_seqItems ho hd ?_)
  refine wpAny_bind ?_
  show wpAny _ _ (forIn #[Value.int c.1 t1, Value.int c.2 t2] _ _) _ _ s
  rw [← Array.forIn_toList]
  show wpAny _ _ (forIn [Value.int c.1 t1, Value.int c.2 t2] _ _) _ _ s
  rw [List.forIn_cons]
  refine wpAny_bind ?_
  rw [show hashByValue 7 (Value.int c.1 t1) = pure true from rfl]
  refine wpAny_bind (wpAny_pure ?_)
  rw [if_neg (by decide)]
  refine wpAny_pure ?_
  dsimp only
  rw [List.forIn_cons]
  refine wpAny_bind ?_
  rw [show hashByValue 7 (Value.int c.2 t2) = pure true from rfl]
  refine wpAny_bind (wpAny_pure ?_)
  rw [if_neg (by decide)]
  refine wpAny_pure ?_
  dsimp only
  rw [List.forIn_nil]
  exact wpAny_pure (wpAny_pure h)
theorem oac_pair {c : C2} {a : Addr} {Q : Bool → Shared → Prop} (k : PKy prog w s.heap c a) (h : Q false s) : wpAny (model prog w) A (ofAClassStatement 8 (.ref a)) Q E s := by
  have hT := k.typeIs
  obtain ⟨o, n, t1, t2, ho, hc, hd⟩ := k.items
  rw [ofAClassStatement]
  refine wpAny_bind (wpAny_typeOf hT ?_)
  dsimp only
  rw [if_pos (by decide)]
  refine wpAny_bind (wpAny_pure ?_)
  rw [if_neg (by decide)]
  refine wpAny_bind (wpAny_seqItems ho hd ?_)
  dsimp only
  refine wpAny_bind ?_
  rw [← Array.forIn_toList]
  show wpAny _ _ (forIn [Value.int c.1 t1, Value.int c.2 t2] _ _) _ _ s
  rw [List.forIn_cons]
  refine wpAny_bind ?_
  rw [show ofAClassStatement 7 (Value.int c.1 t1) = pure false from rfl]
  refine wpAny_bind (wpAny_pure ?_)
  rw [if_neg (by decide)]
  refine wpAny_pure ?_
  dsimp only
  rw [List.forIn_cons]
  refine wpAny_bind ?_
  rw [show ofAClassStatement 7 (Value.int c.2 t2) = pure false from rfl]
  refine wpAny_bind (wpAny_pure ?_)
  rw [if_neg (by decide)]
  refine wpAny_pure ?_
  dsimp only
  rw [List.forIn_nil]
  exact wpAny_pure (wpAny_pure h)
/-- nobody sees a search among pairs -/
theorem scs_pairs {c : C2} {a : Addr} {Q : Bool → Shared → Prop} (k : PKy prog w s.heap c a) (ys : List Value) (hy : ∀ y ∈ ys, ∃ d b, y = Value.ref b ∧ PKy prog w s.heap d b) (h : Q false s) : wpAny (model prog w) A (searchCouldBeSeen (.ref a) ys) Q E s := by
  unfold searchCouldBeSeen
  refine wpAny_bind ?_
  induction ys with
  | nil =>
    rw [List.forIn_nil]
    exact wpAny_pure (wpAny_pure h)
  | cons y ys ih =>
    obtain ⟨d, b, rfl, kb⟩ := hy y List.mem_cons_self
    have ih := ih fun y hm => hy y (List.mem_cons_of_mem _ hm)
    rw [List.forIn_cons]
    refine wpAny_bind ?_
    dsimp only
    by_cases hab : (a == b || carriedByValue (Value.ref a) && carriedByValue (Value.ref b)) = true
    · rw [if_pos hab]
      exact wpAny_pure ih
    · rw [if_neg hab]
      refine wpAny_bind (wpAny_eqIsQuiet_tuple k ?_)
      rw [if_neg (by decide)]
      refine wpAny_bind (wpAny_eqIsQuiet_tuple kb ?_)
      rw [if_neg (by decide)]
      refine wpAny_bind (oac_pair k ?_)
      rw [if_neg (by decide)]
      refine wpAny_bind (oac_pair kb ?_)
      rw [if_neg (by decide)]
      exact wpAny_pure ih
def setO (es : Array (Int × Value)) (ep : Nat) (t : SetTable) : Obj := { cls := .type "set", dict := none, data := .set es ep t, slots := #[] }
def entP (prog : Program) (w : World) (d : C2 × Addr) : Int × Value := (hP prog w d.1, .ref d.2)
theorem search_pair {n : Nat} (hn : n ≤ 3) {l : List Nat} (hl : l ∈ Pl n) {es : Array (Int × Value)} {ep : Nat} {led : Bool} {S : Addr} {ds : List (C2 × Addr)} {x : Addr} {c : C2} (ho : s.heap.get? S = some (setO es ep (tab led l)))
    (he : es.toList = ds.map (entP prog w)) (hlen : ds.length = n) (hk : ∀ d ∈ ds, PKy prog w s.heap d.1 d.2) (hx : PKy prog w s.heap c x) (hnew : ∀ d ∈ ds, d.1 ≠ c) (hu : A.units < cLine) {Q : SetFound → Shared → Prop}
    (h : ∀ j, j < 8 → (tab led l).slot j = .empty → Q (.free j false) s) : ∀ (m fuel : Nat) (stand : Option SetTable.Probe), m < fuel → PGood (stand.getD ((tab led l).probeStart (hP prog w c))) → rchB l m (stand.getD ((tab led l).probeStart (hP prog w c))) = true → m < 220 →
      wpAny (model prog w) A (setSearchFrom S (.ref x) (hP prog w c) true fuel stand) Q E s := by
  intro m
  induction m using Nat.strongRecOn with
  | ind m ih =>
    intro fuel stand hf hg hr hm
    obtain ⟨f, rfl⟩ : ∃ f, fuel = f + 1 := ⟨fuel - 1, by omega⟩
    have hsz : es.size = n := by rw [← Array.length_toList, he, List.length_map, hlen]
    have hfit : (tab led l).fits es.size = true := by rw [hsz]; exact fits_tab led (pl_len n (by omega) l hl) (by omega)
    rw [setSearchFrom]
    refine wpAny_bind (wpAny_setState_of ho rfl hfit ?_)
    dsimp only
    rw [if_neg (by show ¬ ((7 % 2 == 0) = true); decide)]
    refine wpAny_bind (wpAny_pure ?_)
    rcases probe_go led l _ (hP prog w c) m _ 220 hg hr hm with ⟨j, e1, e2, e3⟩ | ⟨j, i, nx, m', e1, e2, e3, e4, e5, e6⟩
    · rw [show (tab led l).probe _ (hP prog w c) (stand.getD ((tab led l).probeStart (hP prog w c))) = some (.empty j none) from e1]
      exact wpAny_pure (h j e3 e2)
    · rw [show (tab led l).probe _ (hP prog w c) (stand.getD ((tab led l).probeStart (hP prog w c))) = some (.candidate j i nx) from e1]
      dsimp only
      have hi : i < n := live_at n (by omega) l hl j i e2
      have hid : i < ds.length := by omega
      have hes : es[i]? = some (entP prog w ds[i]) := by
        rw [← Array.getElem?_toList, he, List.getElem?_map, List.getElem?_eq_getElem hid]
        rfl
      have hkd := hk ds[i] (List.getElem_mem hid)
      have hcd := hnew ds[i] (List.getElem_mem hid)
      have hdec : decide ([ds[i].1.1, ds[i].1.2] = [c.1, c.2]) = false := by
        refine decide_eq_false fun q => hcd ?_
        injection q with q1 q2
        injection q2 with q2 _
        exact Prod.ext q1 q2
      have fin : ∀ led' : Bool, led' = led → wpAny (model prog w) A (do
          let equal ← holding [Value.ref ds[i].2] (eqBool (Value.ref ds[i].2) (Value.ref x))
          let st ← setState S
          if (true && equal) = true then pure (SetFound.there none)
          else match st.2.2.sameMemory (tab led l).moves (tab led l).mask with
            | some same =>
              match if same = true then st.2.2.slot j else SetTable.Slot.empty with
              | SetTable.Slot.live i' =>
                match st.1[i']? with
                | some (_, y') => do
                  let b ← isSame y' (Value.ref ds[i].2)
                  let still ← pure (if b = true then some i' else none)
                  match still with
                    | none => do
                      rule "set.search.anew"
                      setSearchFrom S (Value.ref x) (hP prog w c) true f none
                    | some i' =>
                      if equal = true then pure (SetFound.there (some i'))
                      else setSearchFrom S (Value.ref x) (hP prog w c) true f (some nx)
                | none => do
                  let still ← pure none
                  match still with
                    | none => do
                      rule "set.search.anew"
                      setSearchFrom S (Value.ref x) (hP prog w c) true f none
                    | some i' =>
                      if equal = true then pure (SetFound.there (some i'))
                      else setSearchFrom S (Value.ref x) (hP prog w c) true f (some nx)
              | _ => do
                let still ← pure none
                match still with
                  | none => do
                    rule "set.search.anew"
                    setSearchFrom S (Value.ref x) (hP prog w c) true f none
                  | some i' =>
                    if equal = true then pure (SetFound.there (some i'))
                    else setSearchFrom S (Value.ref x) (hP prog w c) true f (some nx)
            | _ => unsupported "set.changed-during-lookup:is-the-new-block-at-the-old-address") Q E s := fun led' el => by
        refine wpAny_bind (wpAny_holding (wpAny_eqBool_tuple hu hkd hx ?_))
        rw [hdec]
        refine wpAny_bind (wpAny_setState_of ho rfl hfit ?_)
        dsimp only
        rw [if_neg (by decide), show (tab led l).sameMemory (tab led l).moves (tab led l).mask = some true from rfl]
        dsimp only
        rw [if_pos rfl, e2]
        dsimp only
        rw [hes]
        dsimp only [entP]
        refine wpAny_bind ?_
        unfold isSame
        dsimp only
        rw [if_pos (beq_self_eq_true _)]
        refine wpAny_pure (wpAny_bind (wpAny_pure ?_))
        rw [if_pos rfl]
        dsimp only
        rw [if_neg (by decide)]
        exact ih m' e5 f (some nx) (by omega) e4 e6 (by omega)
      cases hled : led with
      | true =>
        subst hled
        rw [if_neg (show ¬ ((!(tab true l).led) = true) from fun z => nomatch z), hes]
        exact fin true rfl
      | false =>
        subst hled
        rw [if_pos (show (!(tab false l).led) = true from rfl)]
        refine wpAny_bind (scs_pairs hx _ (fun y hy => ?_) ?_)
        · obtain ⟨e', hm', rfl⟩ := List.mem_map.mp hy
          have hm2 : e' ∈ es.toList := by
            rw [Array.toList_filter] at hm'
            exact (List.mem_filter.mp hm').1
          rw [he] at hm2
          obtain ⟨d, hd, rfl⟩ := List.mem_map.mp hm2
          exact ⟨d.1, d.2, rfl, hk d hd⟩
        rw [if_neg (by decide), hes]
        exact fin false rfl
/-- the set at S holds the pairs ds, in the order of its entries -/
def SetP (prog : Program) (w : World) (h : Heap) (S : Addr) (led : Bool) (ds : List (C2 × Addr)) : Prop :=
  ∃ (es : Array (Int × Value)) (ep : Nat) (l : List Nat), h.get? S = some (setO es ep (tab led l)) ∧ l ∈ Pl ds.length ∧ es.toList = ds.map (entP prog w)
theorem add_pair {S : Addr} {led : Bool} {ds : List (C2 × Addr)} {c : C2} {x : Addr} {Q : Bool → Shared → Prop} (hS : SetP prog w s.heap S led ds) (hn : ds.length ≤ 3) (hk : ∀ d ∈ ds, PKy prog w s.heap d.1 d.2) (hx : PKy prog w s.heap c x) (hnew : ∀ d ∈ ds, d.1 ≠ c) (hu : A.units < cLine)
    (h : ∀ (h' : Heap) (ds' : List (C2 × Addr)), Heap.SameBut S s.heap h' → SetP prog w h' S led ds' → ds'.Perm (ds ++ [(c, x)]) → Q true { s with heap := h' }) :
    wpAny (model prog w) A (setAddHashed S (.ref x) (hP prog w c)) Q E s := by
  obtain ⟨es, ep, l, ho, hl, he⟩ := hS
  have hsz : es.size = ds.length := by rw [← Array.length_toList, he, List.length_map]
  have hll := pl_len _ (by omega) l hl
  have hfit : (tab led l).fits es.size = true := by rw [hsz]; exact fits_tab led hll (by omega)
  unfold setAddHashed
  refine wpAny_holding ?_
  rw [show (100000 : Nat) = 99999 + 1 from rfl, setAddHashedIn]
  refine wpAny_bind (wpAny_setState_of ho rfl hfit ?_)
  dsimp only
  rw [if_neg (show ¬ (byScan (.ref x) es = true) from fun z => nomatch z)]
  unfold setSearch
  obtain ⟨g1, g2⟩ := start_good led l (hP prog w c)
  refine wpAny_bind (search_pair hn hl ho he rfl hk hx hnew hu (fun j j8 je => ?_) 20 100000 none (by decide) g1 (rchk hn hl 13 _ g1 g2) (by decide))
  dsimp only
  refine wpAny_bind (wpAny_setState_of ho rfl hfit ?_)
  dsimp only
  rw [put_eq]
  dsimp only
  obtain ⟨q1, q2⟩ := put_ok _ hn l hl j j8 je
  have hes : (SetTable.insertAt es (SetTable.below l.toArray j) (hP prog w c, Value.ref x)).toList = (ds.take (SetTable.below l.toArray j) ++ (c, x) :: ds.drop (SetTable.below l.toArray j)).map (entP prog w) := by
    rw [insertAt_list, he, List.map_append, List.map_cons, List.map_take, List.map_drop]
    rfl
  have hlen : (ds.take (SetTable.below l.toArray j) ++ (c, x) :: ds.drop (SetTable.below l.toArray j)).length = ds.length + 1 := by
    rw [(mid_perm ds _ (c, x)).length_eq, List.length_append]
    rfl
  have hsz' : (SetTable.insertAt es (SetTable.below l.toArray j) (hP prog w c, Value.ref x)).size = ds.length + 1 := by rw [← Array.length_toList, hes, List.length_map, hlen]
  rw [if_pos (show (tab led (putL l j)).plain = true from rfl)]
  refine wpAny_bind (hbv_pair hx ?_)
  rw [if_pos rfl]
  refine wpAny_bind (wpAny_storeSet_of ho rfl ?_ (by rw [hsz']; exact Nat.le_trans (Nat.succ_le_succ hn) (by decide)))
  rw [full_not led (by rw [pl_len _ (by omega) _ q1]; omega)]
  rw [if_neg (by decide)]
  refine wpAny_pure (h _ _ (Heap.SameBut.update s.heap S _) ⟨_, ep + 1, putL l j, ?_, ?_, hes⟩ (mid_perm ds _ (c, x)))
  · exact Heap.get?_update_self _ ho rfl
  · rw [hlen]
    exact q1
end
end L2

end
section
set_option maxHeartbeats 4000000
namespace L2
open PySem PySem.Spec PyProof.Rows
theorem pky_keep {prog : Program} {w : World} {h h' : Heap} {c : C2} {a : Addr} (k : PKy prog w h c a) (q : ∀ o, h.get? a = some o → h'.get? a = some o) : PKy prog w h' c a := by
  obtain ⟨o, items, n, ho, r⟩ := k
  exact ⟨o, items, n, q o ho, r⟩
theorem setp_keep {prog : Program} {w : World} {h h' : Heap} {S : Addr} {led : Bool} {ds : List (C2 × Addr)} (k : SetP prog w h S led ds) (q : ∀ o, h.get? S = some o → h'.get? S = some o) : SetP prog w h' S led ds := by
  obtain ⟨es, ep, l, ho, r⟩ := k
  exact ⟨es, ep, l, q _ ho, r⟩
section
variable {prog : Program} {w : World} {A : Around} {R : Result → Shared → Prop} {I : Addr} {fp wr : List Addr} {G : Array GenState → Array GenState → Prop} {n : Nat} {P : Nat → Value → Prop} {St : Nat → Shared → Prop}
theorem loop_pairs (W : WalksS prog w A.in1 I fp wr G n P St) {S : Addr} (hSf : S ∉ fp) {led : Bool} {ps : List (C2 × Addr)} (hn : ps.length = n) (h4 : n ≤ 4) (hval : ∀ i v, P i v → ∃ d, ps[i]? = some d ∧ v = .ref d.2) (hnd : (ps.map (·.1)).Nodup)
    (hap : ∀ d ∈ ps, d.2 ∉ S :: wr) (hu : A.in1.units < cLine) : ∀ (k i : Nat) (s : Shared) (ds : List (C2 × Addr)), n - i = k → i ≤ n → St i s → SetP prog w s.heap S led ds → ds.Perm (ps.take i) → (∀ d ∈ ps, PKy prog w s.heap d.1 d.2) →
      (∀ s' ds, Moved (S :: wr) G s s' → SetP prog w s'.heap S led ds → ds.Perm ps → R (.ok (.ret .none)) s') → codeAny (model prog w) A (.builtin "set.update.loop" ⟨[.ref S, .ref I], []⟩) R s := by
  have hSw : S ∉ wr := fun q => hSf (W.sub S q)
  have hsub : ∀ b ∈ wr, b ∈ S :: wr := fun b q => List.mem_cons_of_mem S q
  intro k
  induction k with
  | zero =>
    intro i s ds hk hi hst hS hp hkk hR
    have hin : i = n := by omega
    refine (codeAny_builtin F.entry_set_update_loop) ?_
    rw [(Around.under_plainId F.plain_set_update_loop _)]
    show wpAny _ A.in1 (pyNext (Value.ref I) >>= _) _ _ s
    refine (wpAny_bind (W.done s _ _ (hin ▸ hst) fun s1 mv => ?_))
    rw [hin, List.take_of_length_le (by omega)] at hp
    exact wpAny_pure (hR s1 ds (mv.mono hsub) (setp_keep hS fun o e => mv.heap S o hSw e) hp)
  | succ k ih =>
    intro i s ds hk hi hst hS hp hkk hR
    have hlt : i < n := by omega
    refine (codeAny_builtin F.entry_set_update_loop) ?_
    rw [(Around.under_plainId F.plain_set_update_loop _)]
    show wpAny _ A.in1 (pyNext (Value.ref I) >>= _) _ _ s
    refine (wpAny_bind (W.item i s _ _ hlt hst fun v s1 hP1 st1 mv => ?_))
    obtain ⟨d, hd, rfl⟩ := hval i v hP1
    have hdm : d ∈ ps := List.mem_of_getElem? hd
    have hk1 : ∀ d ∈ ps, PKy prog w s1.heap d.1 d.2 := fun d q => pky_keep (hkk d q) fun o e => mv.heap d.2 o (fun z => hap d q (hsub _ z)) e
    have hS1 := setp_keep hS fun o e => mv.heap S o hSw e
    have hnew : ∀ d' ∈ ds, d'.1 ≠ d.1 := by
      intro d' hd' e
      have hm : d' ∈ ps.take i := hp.mem_iff.mp hd'
      obtain ⟨j, hj⟩ := List.mem_iff_getElem?.mp hm
      have hji : j < i := by
        have := (List.getElem?_eq_some_iff.mp hj).1
        rw [List.length_take] at this
        omega
      rw [List.getElem?_take_of_lt hji] at hj
      have e1 : (ps.map (·.1))[j]? = some d'.1 := by rw [List.getElem?_map, hj]; rfl
      have e2 : (ps.map (·.1))[i]? = some d.1 := by rw [List.getElem?_map, hd]; rfl
      obtain ⟨l1, g1⟩ := List.getElem?_eq_some_iff.mp e1
      obtain ⟨l2, g2⟩ := List.getElem?_eq_some_iff.mp e2
      exact (List.pairwise_iff_getElem.mp hnd) j i l1 l2 hji (by rw [g1, g2, e])
    have hdl : ds.length = i := by rw [hp.length_eq, List.length_take]; omega
    show wpAny _ A.in1 (holding [Value.ref d.2] (setAdd S (Value.ref d.2)) >>= _) _ _ s1
    refine (wpAny_bind (wpAny_holding ?_))
    unfold setAdd
    refine (wpAny_holding (wpAny_bind (wpAny_pyHash_tuple hu (hk1 d hdm) ?_)))
    refine add_pair (s := { s1 with toks := s1.toks + 3 }) hS1 (by omega) (fun d' q => hk1 d' (List.mem_of_mem_take (hp.mem_iff.mp q))) (hk1 d hdm) hnew hu fun h' ds' sb hS2 hp2 => ?_
    have sk : ∀ b, b ≠ S → ∀ o, s1.heap.get? b = some o → h'.get? b = some o := fun b hb o e => by rw [sb.2 b hb]; exact e
    refine (wpAny_pure ⟨plainId_quiet F.plain_set_update_loop _, ih (i + 1) _ ds' (by omega) hlt (W.frame _ s1 _ _ st1 (by show s1.toks ≤ s1.toks + 3; omega) fun b hb o e => sk b (fun z => hSf (z ▸ hb)) o e) hS2 ?_ ?_ fun s2 ds2 mv2 hS3 hp3 => ?_⟩)
    · refine hp2.trans ?_
      rw [List.take_succ, hd]
      exact hp.append_right _
    · intro d' q
      exact pky_keep (hk1 d' q) fun o e => sk d'.2 (fun z => hap d' q (z ▸ List.mem_cons_self)) o e
    · refine hR s2 ds2 ((Moved.trans W.gtrans ((mv.mono hsub).then_heap (by show s1.toks ≤ s1.toks + 3; omega) fun b o hb e => ?_)) mv2) hS3 hp3
      exact sk b (fun z => hb (z ▸ List.mem_cons_self)) o e
end
end L2

end
section
set_option maxHeartbeats 4000000
namespace L2
open PySem PySem.Spec PyProof.Rows
def byT (w : World) : Bool := w.params.followText "set-order"
section
variable {prog : Program} {w : World} {A : Around} {E : Value → Shared → Prop} {s : Shared}
theorem set_new1 (u : Value) {Q1 : Value → Shared → Prop} (h : Q1 (.ref s.heap.objs.size) { s with heap := s.heap.push (setO #[] 0 (tab (!byT w) [])) }) :
    codeAny (model prog w) A (.call (.builtin "set.__new__") ⟨[.type "set", u], []⟩) (wants Q1 E) s := by
  refine (codeAny_of_tree ?_)
  show wpAny _ A.in1 (checkBuiltinCall "set.__new__" ⟨[.type "set", u], []⟩ >>= fun _ => again (.builtin "set.__new__" ⟨[.type "set", u], []⟩)) _ _ s
  refine (wpAny_bind (wpAny_of_eq (F.newCall_set_1 u) (wpAny_pure ⟨plainId_quiet F.plain_set_new _, (codeAny_builtin F.entry_set_new) ?_⟩)))
  rw [(Around.under_plainId F.plain_set_new _)]
  unfold Builtin.«set.__new__» Builtin.Frozenset.newClass
  have hq := sub_set_self
  obtain ⟨hp, g, d, tk, os⟩ := s
  dsimp only
  wp_walk
  refine (wpAny_askSetting (wpAny_pure ?_))
  dsimp only
  simp only [newObj]
  exact wpAny_bind (wpAny_alloc (wpAny_pure (wpAny_pure h)))
set_option maxHeartbeats 16000000 in
theorem call_set_pairs {l : Addr} {ps : List (C2 × Addr)} {Q : Value → Shared → Prop} (hh : A.handled = none) (hl : s.heap.IsList l (ps.map fun d => Value.ref d.2).toArray) (h4 : ps.length ≤ 4) (hnd : (ps.map (·.1)).Nodup) (hk : ∀ d ∈ ps, PKy prog w s.heap d.1 d.2) (hu : A.in1.in1.in1.units < cLine)
    (h : ∀ (h' : Heap) (tk : Nat) (ds : List (C2 × Addr)), SetP prog w h' s.heap.objs.size (!byT w) ds → ds.Perm ps → (∀ b o, s.heap.get? b = some o → h'.get? b = some o) → Q (.ref s.heap.objs.size) { s with heap := h', toks := tk }) :
    wpAny (model prog w) A (call (.type "set") [.ref l]) Q E s := by
  obtain ⟨c, tl, hmro⟩ := F.called_set.mro
  have y1 := F.called_set.made
  have y2 := F.called_set.sub
  refine (wpAny_call (codeAny_of_tree ?_))
  show wpAny _ _ (callAny (Value.type "set") _) _ _ _
  refine (wpAny_pure ⟨Code.quiet_builtin _ (by decide +kernel), (codeAny_builtin F.entry_type_call) ?_⟩)
  rw [(Around.under_plain (weight_type_call_type "set" [.ref l] []) rfl)]
  have y3 := F.called_set.notType
  have y4 := F.called_set.canCreate
  have y5 := F.typeCall_set_1 (.ref l)
  repeat (any_goals (first | assumption | wp_step))
  refine (codeAny_mono (set_new1 (.ref l) (E := E) (Q1 := fun obj s1 => obj = .ref s.heap.objs.size ∧ s1 = { s with heap := s.heap.push (setO #[] 0 (tab (!byT w) [])) }) ⟨rfl, rfl⟩)) fun r s1 hr => ?_
  cases r with
  | error e => exact hr
  | ok fl =>
    cases fl with
    | ret obj =>
      obtain ⟨rfl, rfl⟩ := hr
      have hS : (s.heap.push (setO #[] 0 (tab (!byT w) []))).get? s.heap.objs.size = some (setO #[] 0 (tab (!byT w) [])) := Heap.get?_push_size _ rfl
      have hT : Shared.TypeIs { s with heap := s.heap.push (setO #[] 0 (tab (!byT w) [])) } (.ref s.heap.objs.size) "set" := ⟨_, hS, rfl⟩
      have y6 := F.called_set.init.lookup
      have y7 := F.called_set.init.bind (.ref s.heap.objs.size)
      repeat (any_goals (first | assumption | wp_step))
      refine (codeAny_mono (codeAny_call_builtin (R := wants (fun r s2 => r = .none ∧ ∃ h' tk ds, s2 = { s with heap := h', toks := tk } ∧ SetP prog w h' s.heap.objs.size (!byT w) ds ∧ ds.Perm ps ∧ (∀ b o, s.heap.get? b = some o → h'.get? b = some o)) E)
        F.called_set.init.plain F.entry_set_init (check_set_init_1 hT ?_))) fun r2 s2 hr2 => ?_
      · obtain ⟨ol, hol, hcl, nl, hdl⟩ := hl
        obtain ⟨oc, odi, oda, osl⟩ := ol
        simp only at hcl hdl
        subst hcl hdl
        have hol2 : (s.heap.push (setO #[] 0 (tab (!byT w) []))).get? l = some { cls := .type "list", dict := odi, data := .seq (ps.map fun d => Value.ref d.2).toArray nl, slots := osl } := Heap.get?_push_of_some _ hol
        have z1 := F.sub_list_set
        have z2 := F.sub_list_frozenset
        have z3 : (Value.type "list" == Value.type "dict") = false := by decide
        have hl1 : (s.heap.push (setO #[] 0 (tab (!byT w) []))).IsList l (ps.map fun d => Value.ref d.2).toArray := ⟨_, hol2, rfl, nl, rfl⟩
        have hused : ∀ (Q' : Bool → Shared → Prop) (E' : Value → Shared → Prop), Q' false { s with heap := s.heap.push (setO #[] 0 (tab (!byT w) [])) } → wpAny (model prog w) A.in1.in1 (setUsed s.heap.objs.size) Q' E' { s with heap := s.heap.push (setO #[] 0 (tab (!byT w) [])) } := fun Q' E' q => by
          unfold setUsed
          exact wpAny_bind (wpAny_setState_of hS rfl rfl (wpAny_pure q))
        unfold Builtin.«set.__init__» noKeywords Builtin.Frozenset.updateFrom
        generalize hPI : pyIter = PI
        wp_walk
        subst hPI
        refine (wpAny_pyIter_list hl1 (wpAny_bind (wpAny_runValue ?_)))
        have hlS : l < s.heap.objs.size := Heap.lt_size hol
        have hh3 : A.in1.in1.in1.handled = none := by simp [hh]
        have szp : (s.heap.push (setO #[] 0 (tab (!byT w) []))).objs.size = s.heap.objs.size + 1 := Heap.size_push ..
        have hneI : l ≠ (s.heap.push (setO #[] 0 (tab (!byT w) []))).objs.size := by rw [szp]; exact Nat.ne_of_lt (Nat.lt_succ_of_lt hlS)
        have hSf : s.heap.objs.size ∉ [(s.heap.push (setO #[] 0 (tab (!byT w) []))).objs.size, l] := by
          rw [szp]
          simp only [List.mem_cons, List.not_mem_nil, or_false, not_or]
          exact ⟨Nat.ne_of_lt (Nat.lt_succ_self _), Nat.ne_of_gt hlS⟩
        have lt2 : ∀ d ∈ ps, d.2 < s.heap.objs.size := fun d q => by
          obtain ⟨o, _, _, ho, _⟩ := hk d q
          exact Heap.lt_size ho
        refine loop_pairs (S := s.heap.objs.size) (led := !byT w) (ps := ps) ((Walks.list hh3 _ l hneI (ps.map fun d => Value.ref d.2).toArray).toS) hSf (by simp) (by simpa using h4) (fun i v hv => ?_) hnd (fun d q => ?_) hu ((ps.map fun d => Value.ref d.2).toArray.size - 0) 0 _ [] (by omega) (Nat.zero_le _)
          ⟨⟨_, Heap.get?_push_size _ rfl, rfl, rfl⟩, (hl1.push _)⟩ ⟨#[], 0, [], Heap.get?_push_of_some _ hS, by decide, rfl⟩ (by rw [List.take_zero]) (fun d q => pky_keep (hk d q) fun o e => Heap.get?_push_of_some _ (Heap.get?_push_of_some _ e)) fun s3 ds mv hS3 hp3 => ?_
        · have hv : ((ps.map fun d => Value.ref d.2).toArray)[i]? = some v := hv
          rw [List.getElem?_toArray, List.getElem?_map] at hv
          cases hd : ps[i]? with
          | none => rw [hd] at hv; cases hv
          | some d => rw [hd] at hv; cases hv; exact ⟨d, rfl, rfl⟩
        · have hb := lt2 d q
          rw [szp]
          simp only [List.mem_cons, List.not_mem_nil, or_false, not_or]
          exact ⟨Nat.ne_of_lt hb, Nat.ne_of_lt (Nat.lt_succ_of_lt hb)⟩
        · obtain ⟨h', g', d', tk', os'⟩ := s3
          have eg : g' = s.gens := mv.gens
          have ed : d' = s.drawn := mv.drawn
          have eo : os' = s.os := mv.os
          subst eg ed eo
          refine (wpAny_pure (wpAny_pure ⟨rfl, h', tk', ds, rfl, hS3, hp3, fun b o e => ?_⟩))
          have hb := Heap.lt_size e
          refine mv.heap b o ?_ (Heap.get?_push_of_some _ (Heap.get?_push_of_some _ e))
          rw [szp]
          simp only [List.mem_cons, List.not_mem_nil, or_false, not_or]
          exact ⟨Nat.ne_of_lt hb, Nat.ne_of_lt (Nat.lt_succ_of_lt hb)⟩
      · cases r2 with
        | error e => exact hr2
        | ok f2 =>
          cases f2 with
          | ret r =>
            obtain ⟨rfl, h', tk, ds, rfl, hS', hp', hk'⟩ := hr2
            repeat (any_goals (first | assumption | wp_step))
            exact h _ _ _ hS' hp' hk'
          | _ => exact hr2.elim
    | _ => exact hr.elim
end
end L2

end
section
set_option maxHeartbeats 4000000
namespace L2
open PySem PySem.Spec PyProof.Rows
theorem slot_si_next : Slot "set_iterator" "__next__" "set_iterator.__next__" :=
  .of (owner := "set_iterator") (n := "__next__") (by rw [typeLookup_type, builtinLookup_eq_fast]; (kernel_rfl)) (by decide +kernel) (by decide +kernel) (by decide +kernel) (.inl (by decide +kernel)) (by rw [isSubtype_type]; (kernel_rfl))
theorem entry_si_next : entryFor table "set_iterator.__next__" = some Builtin.«set_iterator.__next__» := entryFor_of_tree (by (kernel_rfl))
theorem args_si_next (a : Value) : argsOk "set_iterator.__next__" ⟨[a], []⟩ := by (unfold argsOk; kernel_rfl)
theorem slot_si_iter : Slot "set_iterator" "__iter__" "set_iterator.__iter__" :=
  .of (owner := "set_iterator") (n := "__iter__") (by rw [typeLookup_type, builtinLookup_eq_fast]; (kernel_rfl)) (by decide +kernel) (by decide +kernel) (by decide +kernel) (.inl (by decide +kernel)) (by rw [isSubtype_type]; (kernel_rfl))
theorem entry_s_iter : entryFor table "set.__iter__" = some Builtin.«frozenset.__iter__» := entryFor_alias (id' := "frozenset.__iter__") (by (kernel_rfl)) rfl (by decide +kernel) (by (kernel_rfl))
def itO (a : Addr) (slot i n ep : Int) : Obj := { cls := .type "set_iterator", data := .fields #[.int slot 0, .int i 0, .ref a, .int n 0, .int ep 0] }
section
variable {prog : Program} {w : World} {A : Around} {E : Value → Shared → Prop} {s : Shared}
theorem drawn_no {S : Addr} {es : Array (Int × Value)} {ep : Nat} {led : Bool} {l : List Nat} {Q : Bool → Shared → Prop} (ho : s.heap.get? S = some (setO es ep (tab led l))) (hfit : (tab led l).fits es.size = true) (h : Q false s) : wpAny (model prog w) A (setDrawn S) Q E s := by
  unfold setDrawn setsByText
  refine wpAny_bind (wpAny_setState_of ho rfl hfit ?_)
  refine wpAny_bind (wpAny_bind (wpAny_askSetting (wpAny_pure (wpAny_pure ?_))))
  dsimp only
  generalize Params.followText _ "set-order" = b
  cases b
  · exact h
  · exact h
theorem iter_set {S : Addr} {es : Array (Int × Value)} {ep : Nat} {led : Bool} {l : List Nat} {n : Nat} {Q : Value → Shared → Prop} (ho : s.heap.get? S = some (setO es ep (tab led l))) (hl : l ∈ Pl n) (h4 : n ≤ 4) (hsz : es.size = n)
    (h : Q (.ref s.heap.objs.size) { s with heap := s.heap.push (itO S 0 0 n ep) }) : wpAny (model prog w) A (pyIter (.ref S)) Q E s := by
  have hT : s.TypeIs (.ref S) "set" := ⟨_, ho, rfl⟩
  have hfit : (tab led l).fits es.size = true := by rw [hsz]; exact fits_tab led (pl_len n h4 l hl) h4
  refine wpAny_pyIter_slot hT F.slot_set_iter (wpAny_call_entry F.slot_set_iter hT entry_s_iter ?_ (F.args_set_iter_1 _))
  unfold Builtin.«frozenset.__iter__» Builtin.Frozenset.slot0 slotArgs
  simp only [List.isEmpty_nil, Bool.not_true, Bool.false_eq_true, if_false, bind_assoc, List.length_nil, bne_self_eq_false]
  unfold Builtin.Frozenset.addrOf Builtin.Frozenset.sizeOf
  refine wpAny_bind (wpAny_pure ?_)
  refine wpAny_bind (wpAny_pure (wpAny_bind (wpAny_bind (wpAny_setEntries_of ho rfl hfit (wpAny_pure (wpAny_bind (drawn_no ho hfit ?_)))))))
  rw [if_neg (by decide)]
  refine wpAny_bind (wpAny_pure (wpAny_bind (wpAny_setEpoch_of ho rfl hfit ?_)))
  rw [hsz]
  exact wpAny_bind (wpAny_newObj_type (wpAny_pure ⟨_, rfl, "set_iterator", _, ⟨_, Heap.get?_push_size _ rfl, rfl⟩, slot_si_next.lookup, h⟩))
theorem pick_perm {α : Type} (next : Nat → Nat) : ∀ (fuel k : Nat) (left : List α) (out : Array α), left.length = fuel → (pickOrder.go next fuel k left out).toList.Perm (out.toList ++ left)
  | 0, k, left, out, h => by
    have e : left = [] := List.length_eq_zero_iff.mp h
    subst e
    rw [pickOrder.go, List.append_nil]
  | fuel + 1, k, left, out, h => by
    have hlt : next k % left.length < left.length := Nat.mod_lt _ (by omega)
    rw [pickOrder.go, List.getElem?_eq_getElem hlt]
    dsimp only
    refine (pick_perm next fuel (k + 1) _ _ (by rw [List.length_eraseIdx_of_lt hlt]; omega)).trans ?_
    rw [Array.toList_push, List.append_assoc]
    refine List.Perm.append_left _ ?_
    have hsplit := List.eraseIdx_eq_take_drop_succ left (next k % left.length)
    rw [hsplit]
    have e2 : left = left.take (next k % left.length) ++ left[next k % left.length] :: left.drop (next k % left.length + 1) := by rw [List.getElem_cons_drop, List.take_append_drop]
    refine List.Perm.trans ?_ (List.Perm.of_eq e2.symm)
    rw [List.singleton_append]
    exact List.perm_middle.symm
def ordS (w : World) (S : Addr) (ep : Nat) (es : Array (Int × Value)) : Array (Int × Value) := if byT w then pickOrder (w.params.setOrder S ep) es else es
theorem ord_perm (w : World) (S : Addr) (ep : Nat) (es : Array (Int × Value)) : (ordS w S ep es).toList.Perm es.toList := by
  unfold ordS
  split
  · refine (pick_perm _ es.size 0 es.toList #[] (by simp)).trans ?_
    simp
  · exact List.Perm.refl _
def slotAt (b : Bool) (l : List Nat) (i : Nat) : Nat := if b then 0 else match i with | 0 => 0 | i + 1 => l.getD i 0 + 1
theorem next_ok {S : Addr} {es : Array (Int × Value)} {ep : Nat} {l : List Nat} {n i : Nat} {Q : Option (Value × Nat) → Shared → Prop} (ho : s.heap.get? S = some (setO es ep (tab (!byT w) l))) (hl : l ∈ Pl n) (h4 : n ≤ 4) (hsz : es.size = n) (hi : i ≤ n)
    (h : Q (((ordS w S ep es)[i]?).map fun e => (e.2, slotAt (byT w) l (i + 1))) s) : wpAny (model prog w) A (setNext S (slotAt (byT w) l i) i ep) Q E s := by
  have hfit : (tab (!byT w) l).fits es.size = true := by rw [hsz]; exact fits_tab _ (pl_len n h4 l hl) h4
  unfold setNext setsByText
  refine wpAny_bind (wpAny_setState_of ho rfl hfit ?_)
  refine wpAny_bind (wpAny_bind (wpAny_askSetting (wpAny_pure ?_)))
  dsimp only
  show wpAny (model prog w) A (if byT w = true then _ else _) Q E s
  cases hb : byT w with
  | true =>
    rw [if_pos rfl, if_neg (by simp)]
    unfold setWalk setsByText
    rw [hb] at ho hfit
    refine wpAny_bind (wpAny_bind (wpAny_setState_of ho rfl hfit (wpAny_bind (wpAny_bind (wpAny_askSetting (wpAny_pure ?_))))))
    dsimp only
    show wpAny (model prog w) A (if byT w = true then _ else _) _ E s
    rw [hb, if_pos rfl]
    refine wpAny_bind (wpAny_askSetting (wpAny_pure (wpAny_pure ?_)))
    unfold ordS at h
    rw [hb, if_pos rfl] at h
    exact h
  | false =>
    rw [if_neg (by decide)]
    rw [if_neg (fun z => Bool.noConfusion z)]
    refine wpAny_bind (wpAny_of_eq (a := ()) rfl (wpAny_pure ?_))
    unfold ordS at h
    rw [hb, if_neg (by decide)] at h
    have hbl : SetTable.below (tab (!false) l).place (slotAt false l i) = i := by
      cases i with
      | zero => exact walk0 n h4 l hl
      | succ i => exact walk1 n h4 l hl i (by omega)
    rw [hbl]
    have hll := pl_len n h4 l hl
    by_cases hin : i < n
    · have e1 : es[i]? = some (es[i]'(by omega)) := by simp [hsz, hin]
      have e2 : (tab (!false) l).place[i]? = some (l.getD i 0) := by
        show l.toArray[i]? = _
        rw [List.getElem?_toArray, List.getElem?_eq_getElem (by omega), List.getD_eq_getElem?_getD, List.getElem?_eq_getElem (by omega)]
        rfl
      rw [e1, e2]
      rw [e1] at h
      exact h
    · have e1 : es[i]? = none := by
        rw [Array.getElem?_eq_none_iff]
        omega
      rw [e1]
      rw [e1] at h
      exact h
end
end L2

end
section
set_option maxHeartbeats 4000000
namespace L2
open PySem PySem.Spec PyProof.Rows
section
variable {prog : Program} {w : World} {A : Around} {E : Value → Shared → Prop} {s : Shared}
theorem sub_stop : isSubtype (.type "StopIteration") (.type "StopIteration") = pure true := by rw [isSubtype_type]; (kernel_rfl)
theorem si_item {S I : Addr} {es : Array (Int × Value)} {ep : Nat} {l : List Nat} {n i : Nat} {x : Int × Value} {Q : Option Value → Shared → Prop} (ho : s.heap.get? S = some (setO es ep (tab (!byT w) l))) (hl : l ∈ Pl n) (h4 : n ≤ 4) (hsz : es.size = n)
    (hI : s.heap.get? I = some (itO S (slotAt (byT w) l i) i n ep)) (hx : (ordS w S ep es)[i]? = some x) (hi : i ≤ n)
    (h : ∀ h', h'.get? I = some (itO S (slotAt (byT w) l (i + 1)) ((i + 1 : Nat) : Int) n ep) → Heap.SameBut I s.heap h' → Q (some x.2) { s with heap := h' }) : wpAny (model prog w) A (pyNext (.ref I)) Q E s := by
  have hT : s.TypeIs (.ref I) "set_iterator" := ⟨_, hI, rfl⟩
  have hfit : (tab (!byT w) l).fits es.size = true := by rw [hsz]; exact fits_tab _ (pl_len n h4 l hl) h4
  unfold pyNext
  refine wpAny_bind (wpAny_attempt (wpAny_callSpecial?_slot (name := Str.ofString "__next__") hT slot_si_next (wpAny_call_entry slot_si_next hT entry_si_next ?_ (args_si_next _))))
  unfold Builtin.«set_iterator.__next__» slotArgs
  simp only [List.isEmpty_nil, Bool.not_true, Bool.false_eq_true, if_false, bind_assoc, List.length_nil, bne_self_eq_false]
  refine wpAny_bind (wpAny_pure (wpAny_bind (wpAny_fieldsOf hI rfl ?_)))
  dsimp only
  refine wpAny_bind (wpAny_setEntries_of ho rfl hfit ?_)
  rw [hsz, if_neg (by simp), Int.toNat_natCast, Int.toNat_natCast, Int.toNat_natCast]
  refine wpAny_bind (next_ok ho hl h4 hsz hi ?_)
  rw [hx]
  dsimp only [Option.map_some]
  refine wpAny_bind (wpAny_setField hI rfl (by show 0 < 5; decide) ?_)
  have hI1 : (s.heap.update I (Obj.mapFields (·.setIfInBounds 0 (rawInt (slotAt (byT w) l (i + 1) : Nat))))).get? I = some (itO S (slotAt (byT w) l (i + 1)) i n ep) := (Heap.get?_update_self _ hI rfl).trans rfl
  refine wpAny_bind (wpAny_setField hI1 rfl (by show 1 < 5; decide) (wpAny_pure ⟨x.2, rfl, wpAny_pure (h _ ((Heap.get?_update_self _ hI1 rfl).trans rfl) ?_)⟩))
  exact (Heap.SameBut.update ..).trans (Heap.SameBut.update ..)
theorem si_end {S I : Addr} {es : Array (Int × Value)} {ep : Nat} {l : List Nat} {n : Nat} {Q : Option Value → Shared → Prop} (hh : A.handled = none) (ho : s.heap.get? S = some (setO es ep (tab (!byT w) l))) (hl : l ∈ Pl n) (h4 : n ≤ 4) (hsz : es.size = n)
    (hI : s.heap.get? I = some (itO S (slotAt (byT w) l n) n n ep)) (h : ∀ h', Heap.ExtBut I s.heap h' → Q none { s with heap := h' }) : wpAny (model prog w) A (pyNext (.ref I)) Q E s := by
  have hT : s.TypeIs (.ref I) "set_iterator" := ⟨_, hI, rfl⟩
  have hfit : (tab (!byT w) l).fits es.size = true := by rw [hsz]; exact fits_tab _ (pl_len n h4 l hl) h4
  unfold pyNext
  refine wpAny_bind (wpAny_attempt (wpAny_callSpecial?_slot (name := Str.ofString "__next__") hT slot_si_next (wpAny_call_entry slot_si_next hT entry_si_next ?_ (args_si_next _))))
  unfold Builtin.«set_iterator.__next__» slotArgs
  simp only [List.isEmpty_nil, Bool.not_true, Bool.false_eq_true, if_false, bind_assoc, List.length_nil, bne_self_eq_false]
  refine wpAny_bind (wpAny_pure (wpAny_bind (wpAny_fieldsOf hI rfl ?_)))
  dsimp only
  refine wpAny_bind (wpAny_setEntries_of ho rfl hfit ?_)
  rw [hsz, if_neg (by simp), Int.toNat_natCast, Int.toNat_natCast, Int.toNat_natCast]
  refine wpAny_bind (next_ok ho hl h4 hsz (Nat.le_refl n) ?_)
  have hnone : (ordS w S ep es)[n]? = none := by
    rw [Array.getElem?_eq_none_iff, ← Array.length_toList, (ord_perm w S ep es).length_eq, Array.length_toList, hsz]
    exact Nat.le_refl n
  rw [hnone]
  dsimp only [Option.map_none]
  refine wpAny_bind (wpAny_setField hI rfl (by show 2 < 5; decide) ?_)
  refine wpAny_bind ?_
  simp only [newExc, newTuple]
  refine wpAny_bind (wpAny_newObj_type ?_ (by size_fits))
  refine wpAny_bind (m := firstArgMember _ _) (wpAny_of_eq (a := Value.none) (by first | rfl | (simp only [firstArgMember]; rfl)) ?_)
  refine wpAny_newObj_type ?_ (by size_fits)
  simp only [raiseNew]
  refine wpAny_bind (wpAny_handled ?_)
  rw [show A.in1.handled = none from hh]
  refine wpAny_bind (wpAny_pure (wpAny_throw ?_))
  refine wpAny_bind (wpAny_isInstance (T := "StopIteration") (b := true) ⟨_, Heap.get?_push_size _ rfl, rfl⟩ sub_stop ?_)
  exact wpAny_pure (h _ (((Heap.SameBut.update ..).extBut.push _).push _))
theorem entry_si_iter : entryFor table "set_iterator.__iter__" = some Builtin.«dict_keyiterator.__iter__» := entryFor_alias (id' := "dict_keyiterator.__iter__") (by (kernel_rfl)) rfl (by decide +kernel) (by (kernel_rfl))
theorem args_si_iter (a : Value) : argsOk "set_iterator.__iter__" ⟨[a], []⟩ := by (unfold argsOk; kernel_rfl)
theorem iter_si {S I : Addr} {a b c d : Int} {Q : Value → Shared → Prop} (hI : s.heap.get? I = some (itO S a b c d)) (h : Q (.ref I) s) : wpAny (model prog w) A (pyIter (.ref I)) Q E s := by
  have hT : s.TypeIs (.ref I) "set_iterator" := ⟨_, hI, rfl⟩
  refine wpAny_pyIter_slot hT slot_si_iter (wpAny_call_entry slot_si_iter hT entry_si_iter ?_ (args_si_iter _))
  show wpAny _ _ (ret (Value.ref I)) _ _ s
  exact wpAny_pure ⟨_, rfl, "set_iterator", _, hT, slot_si_next.lookup, h⟩
theorem walks_set (hh : A.handled = none) (I S : Addr) (hne : S ≠ I) {es : Array (Int × Value)} {ep : Nat} {l : List Nat} {n : Nat} (hl : l ∈ Pl n) (h4 : n ≤ 4) (hsz : es.size = n) :
    Walks prog w A I [I, S] [I] n (fun i v => ∃ x, (ordS w S ep es)[i]? = some x ∧ v = x.2) (fun i h => h.get? I = some (itO S (slotAt (byT w) l i) i n ep) ∧ h.get? S = some (setO es ep (tab (!byT w) l))) where
  sub := fun b hb => by rw [List.mem_singleton.mp hb]; exact List.mem_cons_self
  frame := fun i h h' st k => ⟨k I List.mem_cons_self _ st.1, k S (List.mem_cons_of_mem _ List.mem_cons_self) _ st.2⟩
  item := fun i s Q E hi st k => by
    have hlen : (ordS w S ep es).size = n := by rw [← Array.length_toList, (ord_perm w S ep es).length_eq, Array.length_toList, hsz]
    have hx : (ordS w S ep es)[i]? = some ((ordS w S ep es)[i]'(by omega)) := by simp [hlen, hi]
    refine si_item st.2 hl h4 hsz st.1 hx (Nat.le_of_lt hi) fun h' e1 sb => ?_
    exact k _ h' s.toks ⟨_, hx, rfl⟩ ⟨e1, (sb.2 S hne).trans st.2⟩ fun b o hb e => (sb.2 b fun z => hb (z ▸ List.mem_cons_self)).trans e
  done := fun s Q E st k => si_end hh st.2 hl h4 hsz st.1 fun h' eb => k h' s.toks fun b o hb e => eb b o (fun z => hb (z ▸ List.mem_cons_self)) e
  self := fun i s Q E st q => iter_si st.1 q
theorem len_hint {S : Addr} {es : Array (Int × Value)} {ep : Nat} {t : SetTable} {Q : Bool → Shared → Prop} (ho : s.heap.get? S = some (setO es ep t)) (h : Q false s) : wpAny (model prog w) A (Builtin.List.listLengthHint (.ref S)) Q E s := by
  have hT : s.TypeIs (.ref S) "set" := ⟨_, ho, rfl⟩
  unfold Builtin.List.listLengthHint
  refine wpAny_bind (wpAny_specialOf hT F.slot_set_len.lookup ?_)
  dsimp only
  rw [show splitId "set.__len__" = some ("set", "__len__") from by decide +kernel]
  dsimp only
  refine wpAny_bind (wpAny_isInstance (b := true) hT sub_set_self ?_)
  rw [if_neg (by decide), if_pos (by decide +kernel)]
  exact wpAny_bind (wpAny_typeOf hT (wpAny_pure h))
theorem perm_map_ex {α β : Type} {f : α → β} {xs ys : List β} (h : xs.Perm ys) : ∀ ds : List α, ys = ds.map f → ∃ ds' : List α, xs = ds'.map f ∧ ds'.Perm ds := by
  induction h with
  | nil =>
    intro ds e
    cases ds with
    | nil => exact ⟨[], rfl, .refl _⟩
    | cons a r => cases e
  | cons x _ ih =>
    intro ds e
    cases ds with
    | nil => cases e
    | cons a r =>
      injection e with e1 e2
      obtain ⟨r', e3, p⟩ := ih r e2
      exact ⟨a :: r', by rw [List.map_cons, e1, e3], p.cons a⟩
  | swap x y l =>
    intro ds e
    match ds, e with
    | a :: b :: r, e =>
      injection e with e1 e2
      injection e2 with e2 e3
      exact ⟨b :: a :: r, by rw [List.map_cons, List.map_cons, e1, e2, e3], .swap a b r⟩
  | trans _ _ ih1 ih2 =>
    intro ds e
    obtain ⟨d2, e2, p2⟩ := ih2 ds e
    obtain ⟨d1, e1, p1⟩ := ih1 d2 e2
    exact ⟨d1, e1, p1.trans p2⟩
theorem items_eq {xs : Array (Int × Value)} {acc : Array Value} {n : Nat} (h : ItemsOf (fun i v => ∃ x, xs[i]? = some x ∧ v = x.2) acc n) (hn : xs.size = n) : acc.toList = xs.toList.map (·.2) := by
  apply List.ext_getElem?
  intro i
  rw [Array.getElem?_toList, List.getElem?_map, Array.getElem?_toList]
  by_cases hi : i < n
  · have e : acc[i]? = some (acc[i]'(by rw [h.1]; exact hi)) := by simp [h.1, hi]
    obtain ⟨x, hx, ev⟩ := h.2 i _ e
    rw [e, hx, ev]
    rfl
  · rw [Array.getElem?_eq_none_iff.mpr (by rw [h.1]; omega), Array.getElem?_eq_none_iff.mpr (by omega)]
    rfl
/-- the items of a set of pairs, in some order -/
theorem collect_set {S : Addr} {ds : List (C2 × Addr)} {R : List Value → Shared → Prop} (hh : A.handled = none) (hS : SetP prog w s.heap S (!byT w) ds) (h4 : ds.length ≤ 4)
    (h : ∀ (h' : Heap) (tk : Nat) (ds' : List (C2 × Addr)), ds'.Perm ds → (∀ b o, s.heap.get? b = some o → h'.get? b = some o) → R (ds'.map fun d => Value.ref d.2) { s with heap := h', toks := tk }) : wpAny (model prog w) A (collect (.ref S)) R E s := by
  obtain ⟨es, ep, l, ho, hl, he⟩ := hS
  have hsz : es.size = ds.length := by rw [← Array.length_toList, he, List.length_map]
  have hlt : S < s.heap.objs.size := Heap.lt_size ho
  unfold collect
  refine wpAny_bind (wpAny_runValue ((codeAny_builtin F.entry_proto_collect) ?_))
  rw [(Around.under_plainId F.plain_proto_collect _)]
  show wpAny _ A.in1 (newList [] >>= fun q => again (.builtin "list.__iadd__" ⟨[q, .ref S], []⟩)) _ _ s
  refine wpAny_bind (wpAny_newObj_type (wpAny_pure ⟨plainId_quiet F.plain_list_iadd _, (codeAny_builtin F.entry_list_iadd) ?_⟩))
  rw [(Around.under_plainId F.plain_list_iadd _)]
  have hL : (s.heap.push { cls := .type "list", data := .seq ([] : List Value).toArray }).get? s.heap.objs.size = some { cls := .type "list", data := .seq ([] : List Value).toArray } := Heap.get?_push_size _ rfl
  have ho1 : (s.heap.push { cls := .type "list", data := .seq ([] : List Value).toArray }).get? S = some (setO es ep (tab (!byT w) l)) := Heap.get?_push_of_some _ ho
  have hne : Builtin.List.listSameRef (.ref s.heap.objs.size) (.ref S) = false := by
    simp [Builtin.List.listSameRef]
    exact Nat.ne_of_gt hlt
  show wpAny _ A.in1 (Builtin.List.listExtendWith (.ref s.heap.objs.size) (.ref S) (.ref s.heap.objs.size)) _ _ _
  unfold Builtin.List.listExtendWith
  refine wpAny_bind (wpAny_typeOf (T := "set") ⟨_, ho1, rfl⟩ ?_)
  rw [if_neg (by rw [hne]; decide)]
  refine wpAny_bind (iter_set ho1 hl h4 hsz ?_)
  refine wpAny_bind (wpAny_holding (len_hint (Heap.get?_push_of_some _ ho1) ?_))
  rw [if_pos (by decide +kernel)]
  refine wpAny_bind (wpAny_rule ?_)
  have szp : (s.heap.push { cls := .type "list", data := .seq ([] : List Value).toArray }).objs.size = s.heap.objs.size + 1 := Heap.size_push ..
  have hI : ((s.heap.push { cls := .type "list", data := .seq ([] : List Value).toArray }).push (itO S 0 0 ds.length ep)).get? (s.heap.push { cls := .type "list", data := .seq ([] : List Value).toArray }).objs.size = some (itO S 0 0 ds.length ep) := Heap.get?_push_size _ rfl
  have hL1 : ((s.heap.push { cls := .type "list", data := .seq ([] : List Value).toArray }).push (itO S 0 0 ds.length ep)).get? s.heap.objs.size = some { cls := .type "list", data := .seq ([] : List Value).toArray } := Heap.get?_push_of_some _ hL
  have ho2 : ((s.heap.push { cls := .type "list", data := .seq ([] : List Value).toArray }).push (itO S 0 0 ds.length ep)).get? S = some (setO es ep (tab (!byT w) l)) := Heap.get?_push_of_some _ ho1
  have hkeep : ∀ b o, s.heap.get? b = some o → ((s.heap.push { cls := .type "list", data := .seq ([] : List Value).toArray }).push (itO S 0 0 ds.length ep)).get? b = some o := fun b o e => Heap.get?_push_of_some _ (Heap.get?_push_of_some _ e)
  have hIL : (s.heap.push { cls := .type "list", data := .seq ([] : List Value).toArray }).objs.size ≠ s.heap.objs.size := by rw [szp]; exact Nat.ne_of_gt (Nat.lt_succ_self _)
  have hSI : S ≠ (s.heap.push { cls := .type "list", data := .seq ([] : List Value).toArray }).objs.size := by rw [szp]; exact Nat.ne_of_lt (Nat.lt_succ_of_lt hlt)
  have hgt : ∀ b o, s.heap.get? b = some o → b ≠ (s.heap.push { cls := .type "list", data := .seq ([] : List Value).toArray }).objs.size := fun b o e => by rw [szp]; exact Nat.ne_of_lt (Nat.lt_succ_of_lt (Heap.lt_size e))
  dsimp only
  generalize (s.heap.push { cls := .type "list", data := .seq ([] : List Value).toArray }).objs.size = I at hI hIL hSI hgt ⊢
  generalize ((s.heap.push { cls := .type "list", data := .seq ([] : List Value).toArray }).push (itO S 0 0 ds.length ep)) = h2 at hI hL1 ho2 hkeep ⊢
  refine wpAny_bind ?_
  show wpAny _ A.in1 (updateSeq s.heap.objs.size (·.push .none) >>= fun _ => updateSeq s.heap.objs.size (·.pop)) _ _ _
  refine wpAny_bind (wpAny_updateSeq hL1 rfl ?_)
  have hL2 := Heap.get?_update_self (Obj.mapSeq (·.push Value.none)) hL1 rfl
  refine wpAny_updateSeq hL2 rfl ?_
  have hL3 := Heap.get?_update_self (Obj.mapSeq (·.pop)) hL2 rfl
  have oth : ∀ b o, b ≠ s.heap.objs.size → h2.get? b = some o → ((h2.update s.heap.objs.size (Obj.mapSeq (·.push Value.none))).update s.heap.objs.size (Obj.mapSeq (·.pop))).get? b = some o := fun b o hb e => (Heap.get?_update_other _ _ (Ne.symm hb)).trans ((Heap.get?_update_other _ _ (Ne.symm hb)).trans e)
  have W := (walks_set (prog := prog) (w := w) (A := A.in1) (by simpa using hh) I S hSI (es := es) (ep := ep) hl h4 hsz).toS
  have hst : slotAt (byT w) l 0 = 0 := by unfold slotAt; split <;> rfl
  refine wpAny_pure ⟨plainId_quiet F.plain_extend_loop _, codeAny_extend_loopS W (Nat.le_trans h4 (by decide)) s.heap.objs.size ?_ (.ref s.heap.objs.size) ds.length 0 _ _ _ rfl (Nat.zero_le _) ⟨?_, ?_⟩ hL3 (ItemsOf.nil _) fun s3 acc c mv hL4 hacc => ?_⟩
  · simp only [List.mem_cons, List.not_mem_nil, or_false, not_or]
    exact ⟨Ne.symm hIL, Nat.ne_of_gt hlt⟩
  · refine oth _ _ hIL ?_
    rw [hst]
    exact hI
  · exact oth _ _ (Nat.ne_of_lt hlt) ho2
  · show wpAny _ A (load s.heap.objs.size >>= _) _ _ s3
    refine wpAny_bind (wpAny_load hL4 ?_)
    have hsz2 : (ordS w S ep es).size = ds.length := by rw [← Array.length_toList, (ord_perm w S ep es).length_eq, Array.length_toList, hsz]
    have ea := items_eq hacc hsz2
    obtain ⟨ds', e', p'⟩ := perm_map_ex (ord_perm w S ep es) ds he
    rw [e', List.map_map] at ea
    obtain ⟨h', g', d', tk', os'⟩ := s3
    have eg : g' = s.gens := mv.gens
    have ed : d' = s.drawn := mv.drawn
    have eo : os' = s.os := mv.os
    subst eg ed eo
    refine wpAny_pure ?_
    show R acc.toList _
    rw [ea]
    refine h h' tk' ds' p' fun b o e => ?_
    refine mv.heap b o ?_ (oth b o (Nat.ne_of_lt (Heap.lt_size e)) (hkeep b o e))
    simp only [List.mem_cons, List.not_mem_nil, or_false, not_or]
    exact ⟨Nat.ne_of_lt (Heap.lt_size e), hgt b o e⟩
end
end L2

end
section
set_option maxHeartbeats 4000000
namespace L2
open PySem PySem.Spec PyProof.Rows
section
variable {prog : Program} {w : World} {A : Around} {E : Value → Shared → Prop} {s : Shared}
theorem pky_sort {h : Heap} {c : C2} {p : Addr} (k : PKy prog w h c p) : PyProof.Rows.G.tupKeyC h sh0 (.ref p) = some [Sum.inl c.1, Sum.inl c.2] ∧ ∃ u, PyProof.Rows.TupOf h sh0 (.ref p) u := by
  obtain ⟨o, n, t1, t2, eo, cl, d⟩ := k.items
  refine ⟨?_, _, p, o, _, n, rfl, eo, cl, d, rfl, fun _ => ⟨_, _, rfl⟩, fun z => nomatch z⟩
  unfold PyProof.Rows.G.tupKeyC
  have e1 : PyProof.Rows.G.isTupObj h (.ref p) = true := by simp [PyProof.Rows.G.isTupObj, eo, cl]
  rw [if_pos e1]
  simp only [PyProof.Rows.tupKey, eo, d]
  rfl
theorem pky_tups {h : Heap} : ∀ {ds : List (C2 × Addr)}, (∀ d ∈ ds, PKy prog w h d.1 d.2) → ∃ fs, PyProof.Rows.TupsOf h sh0 (ds.map fun d => Value.ref d.2) fs
  | [], _ => ⟨[], .nil⟩
  | d :: ds, k => by
    obtain ⟨fs, t⟩ := pky_tups fun d' q => k d' (List.mem_cons_of_mem _ q)
    obtain ⟨u, hu⟩ := (pky_sort (k d List.mem_cons_self)).2
    exact ⟨u :: fs, .cons hu t⟩
/-- sorted(a set of pairs) -/
theorem sorted_set {S : Addr} {ds : List (C2 × Addr)} {Q : Value → Shared → Prop} (hh : A.handled = none) (hS : SetP prog w s.heap S (!byT w) ds) (h4 : ds.length ≤ 4) (hk : ∀ d ∈ ds, PKy prog w s.heap d.1 d.2)
    (h : ∀ (h' : Heap) (tk : Nat) (a : Addr) (ep : Nat) (out : List (C2 × Addr)), S < a → (∀ b o, s.heap.get? b = some o → h'.get? b = some o) → h'.get? a = some (seqObj "list" (out.map fun d => Value.ref d.2).toArray ep) → out.Perm ds → Rising (out.map (·.1)) → Q (.ref a) { s with heap := h', toks := tk }) :
    wpAny (model prog w) A (call (.builtin "sorted") [.ref S]) Q E s := by
  refine (Calls.call_function_entry kind_sorted plain_sorted entry_sorted (args_sorted1 _)) ?_
  unfold Builtin.«sorted»
  refine wpAny_bind (m := checkCount "sorted" 1 1 _) (wpAny_pure (wpAny_bind (collect_set (by simpa using hh) hS h4 fun h1 tk1 ds1 p1 k1 => ?_)))
  have hlen : (ds1.map fun d => Value.ref d.2).length ≤ sizeLine := by
    rw [List.length_map, p1.length_eq]
    exact Nat.le_trans h4 (by decide)
  refine wpAny_bind (wpAny_newList ?_ hlen)
  have hoL : (h1.push (seqObj "list" (ds1.map fun d => Value.ref d.2).toArray 0)).get? h1.objs.size = some (seqObj "list" (ds1.map fun d => Value.ref d.2).toArray 0) := Heap.get?_push_size _ rfl
  have hk2 : ∀ d ∈ ds1, PKy prog w (h1.push (seqObj "list" (ds1.map fun d => Value.ref d.2).toArray 0)) d.1 d.2 := fun d q => pky_keep (hk d (p1.mem_iff.mp q)) fun o e => Heap.get?_push_of_some _ (k1 _ _ e)
  obtain ⟨fs, tups⟩ := pky_tups hk2
  refine wpAny_bind (wpAny_holding (wpAny_call_entry slot_list_sort ⟨_, hoL, rfl⟩ entry_list_sort (PyProof.Rows.G.list_sort_tups (shape := sh0) (s := { s with heap := h1.push (seqObj "list" (ds1.map fun d => Value.ref d.2).toArray 0), toks := tk1 }) hoL tups (fun v hv => ?_) hlen fun st hperm hsort _ => ⟨_, rfl, ?_⟩) (args_list_sort _)))
  · obtain ⟨d, q, rfl⟩ := List.mem_map.mp hv
    exact ⟨_, (pky_sort (hk2 d q)).1⟩
  have hpl : (arrOf st).toList.Perm ((ds1.map fun d => Value.ref d.2).zip (ds1.map fun d => Value.ref d.2)) := by
    have := Array.perm_iff_toList_perm.mp hperm
    rw [pairsOf_toList] at this
    exact this
  have hout : ((arrOf st).toList.map (·.2)).Perm (ds1.map fun d => Value.ref d.2) := by
    have := hpl.map (·.2)
    rw [show ((ds1.map fun d => Value.ref d.2).zip (ds1.map fun d => Value.ref d.2)).map (·.2) = ds1.map fun d => Value.ref d.2 by rw [List.map_snd_zip]; exact Nat.le_refl _] at this
    exact this
  obtain ⟨out, eo, hpp⟩ := perm_map_ex hout ds1 rfl
  obtain ⟨ep, he⟩ := PyProof.Rows.sortedHeap_at (out := (arrOf st).map (·.2)) hoL
  have eo' : (arrOf st).map (·.2) = (out.map fun d => Value.ref d.2).toArray := by
    have eo2 : ((arrOf st).map (·.2)).toList = out.map fun d => Value.ref d.2 := by rw [Array.toList_map]; exact eo
    rw [← eo2, Array.toArray_toList]
  rw [eo'] at he
  have hle : S < h1.objs.size := by
    obtain ⟨_, _, _, ho, _⟩ := hS
    exact Heap.lt_size (k1 _ _ ho)
  refine wpAny_pure ⟨_, rfl, h _ tk1 h1.objs.size ep out hle (fun b o e => ?_) (by rw [eo']; exact he) (hpp.trans p1) ?_⟩
  · have hb := Heap.lt_size (k1 b o e)
    rw [PyProof.Rows.sortedHeap_old (Nat.ne_of_lt hb) (by rw [size_push']; exact Nat.lt_succ_of_lt hb)]
    exact Heap.get?_push_of_some _ (k1 b o e)
  · unfold Rising
    rw [List.pairwise_iff_getElem]
    intro i j hi hj hij
    have hsz : (arrOf st).size = out.length := by
      have := congrArg List.length eo
      simpa using this
    have hj' : j < out.length := by simpa using hj
    have hi' : i < out.length := by omega
    have hpz : (pairsOf (ds1.map fun d => Value.ref d.2)).size = out.length := by rw [pairsOf_size, List.length_map, hpp.length_eq]
    have hs := hsort i j (Nat.le_of_lt hij) (by rw [hpz]; exact hj')
    have kk : ∀ (k : Nat) (hk : k < out.length), KK (PyProof.Rows.G.tupKindC (h1.push (seqObj "list" (ds1.map fun d => Value.ref d.2).toArray 0)) sh0) (arrOf st) k = [Sum.inl out[k].1.1, Sum.inl out[k].1.2] := by
      intro k hkk
      have hk3 : k < (arrOf st).size := by omega
      have hme : (arrOf st)[k] ∈ (ds1.map fun d => Value.ref d.2).zip (ds1.map fun d => Value.ref d.2) := hpl.mem_iff.mp (by simp)
      have h12 := mem_zip_self hme
      have e2 : (arrOf st)[k].2 = Value.ref out[k].2 := by
        have := congrArg (fun l => l[k]?) eo
        simp only [List.getElem?_map, List.getElem?_eq_getElem hkk, Array.getElem?_toList, Array.getElem?_eq_getElem hk3, Option.map_some, Option.some.injEq] at this
        exact this
      unfold KK
      rw [Array.getElem?_eq_getElem hk3]
      dsimp only
      rw [h12.1, e2]
      show (PyProof.Rows.G.tupKeyC _ sh0 (.ref out[k].2)).getD _ = _
      rw [(pky_sort (hk2 _ (hpp.mem_iff.mp (List.getElem_mem hkk)))).1]
      rfl
    rw [kk i hi', kk j hj'] at hs
    have hs : PyProof.Rows.lexLt PyProof.Rows.itemOrd _ _ = false := hs
    rw [lex_pair] at hs
    simpa using hs
end
end L2

end
section
set_option maxHeartbeats 4000000
namespace L2
open PySem PySem.Spec PyProof.Rows
theorem prs_ds {K : PySem.W.Frag} {H : Hp} : ∀ {xs : List V} {cs : List C2}, Prs K H xs cs → ∃ ds : List (C2 × Addr), xs = ds.map (fun d => V.ref d.2) ∧ cs = ds.map (·.1) ∧ ∀ d ∈ ds, H d.2 = some (.tup [.int d.1.1, .int d.1.2])
  | _, _, .nil => ⟨[], rfl, rfl, fun d q => nomatch q⟩
  | _, _, .cons (b := c) r t => by
    obtain ⟨p, rfl, hp⟩ := r
    obtain ⟨ds, e1, e2, k⟩ := prs_ds t
    refine ⟨(c, p) :: ds, by rw [List.map_cons, ← e1], by rw [List.map_cons, ← e2], fun d q => ?_⟩
    rcases List.mem_cons.mp q with rfl | q
    · exact hp
    · exact k d q
theorem ds_prs {K : PySem.W.Frag} {H : Hp} : ∀ {ds : List (C2 × Addr)}, (∀ d ∈ ds, H d.2 = some (.tup [.int d.1.1, .int d.1.2])) → Prs K H (ds.map fun d => V.ref d.2) (ds.map (·.1))
  | [], _ => .nil
  | d :: ds, k => .cons ⟨d.2, rfl, k d List.mem_cons_self⟩ (ds_prs fun d' q => k d' (List.mem_cons_of_mem _ q))
theorem vals_refs {ds : List (C2 × Addr)} : Vals (ds.map fun d => V.ref d.2) (ds.map fun d => Value.ref d.2) := by
  induction ds with
  | nil => exact .nil
  | cons d ds ih => exact .cons rfl ih
theorem vals_refs_eq : ∀ {ds : List (C2 × Addr)} {us : List Value}, Vals (ds.map fun d => V.ref d.2) us → us = ds.map fun d => Value.ref d.2
  | [], _, .nil => rfl
  | d :: ds, _, .cons r t => by rw [vals_refs_eq t, List.map_cons]; cases r; rfl
section
variable {X : Cx} {e : Expr} {te : TE} {p p' pos pos' : Pos}
theorem boot_sorted : bootBuiltins "sorted" = some (.builtin "sorted") := by decide +kernel
theorem boot_set : bootBuiltins "set" = some (.type "set") := by decide +kernel
def tSortedSet (K : PySem.W.Frag) (te : TE) : TE := fun σ H Q => te σ H fun v H1 => ∃ (a : Addr) (xs : List V) (cs : List C2), v = .ref a ∧ SqL K H1 a xs ∧ Prs K H1 xs cs ∧ cs.Nodup ∧ cs.length ≤ 4 ∧
  ∀ (xs' : List V) (cs' : List C2) (l : Addr), Prs K H1 xs' cs' → cs'.Perm cs → Rising cs' → H1 l = none → Q (.ref l) (upd H1 l (.lst xs'))
/-- sorted(set(e)), e a list of up to four pairs, no two of them the same -/
theorem pe_sortedSet (hh : X.A.handled = none) (hu : X.A.units + 64 < cLine) (hgs : Gl X "sorted") (hms : X.mg "sorted" = none) (hg : Gl X "set") (hm : X.mg "set" = none) (he : PE X e te)
    (hs1 : starEach [.Call (.Name "set" p') [e] [] pos'] X.env = [(false, eval (.Call (.Name "set" p') [e] [] pos') X.env)] := by rfl) (hs2 : starEach [e] X.env = [(false, eval e X.env)] := by rfl) :
    PE X (.Call (.Name "sorted" p) [.Call (.Name "set" p') [e] [] pos'] [] pos) (tSortedSet X.K te) := by
  intro pins s σ H Q I h
  refine wpAny_Call_Name_kw (ld_blt I hgs hms boot_sorted ?_)
  refine PyProof.Rows.callWith_builtin1 ?_ hs1 rfl
  rw [hs1]
  show wpAny _ _ (spliced [(false, eval (.Call (.Name "set" p') [e] [] pos') X.env)]) _ _ s
  refine Calls.spliced_cons (Call_ (ld_blt I hg hm boot_set (PyProof.Rows.callWith_type1 ?_ hs2 rfl)))
  rw [hs2]
  show wpAny _ _ (spliced [(false, eval e X.env)]) _ _ s
  refine Calls.spliced_cons (thn (he pins s σ H _ I h) fun v s1 ⟨x, H1, I1, r1, a, xs, cs, ex, hl, hp, hnd, h4, q⟩ => Calls.spliced_nil ?_)
  subst ex
  cases r1
  obtain ⟨ds, rfl, rfl, hds⟩ := prs_ds hp
  obtain ⟨its, rv, pl, hz⟩ := I1.list hl
  have ei := vals_refs_eq rv
  subst ei
  have hk : ∀ d ∈ ds, PKy X.prog X.w s1.heap d.1 d.2 := by
    intro d qd
    obtain ⟨its2, rv2, ⟨o, eo, cl, n, dd⟩, _⟩ := I1.tuple (SqT.of (K := X.K) (hds d qd))
    cases rv2 with
    | cons r1 rv2 =>
      cases rv2 with
      | cons r2 rv2 =>
        cases rv2
        obtain ⟨t1, rfl⟩ := r1
        obtain ⟨t2, rfl⟩ := r2
        exact ⟨o, _, n, eo, cl, dd, .cons (intKind_is _ _ _ _) (.cons (intKind_is _ _ _ _) .nil)⟩
  rw [List.length_map] at h4
  refine call_set_pairs hh pl.isList h4 hnd hk (by show X.A.units + 1 + 1 + 1 < cLine; omega) fun h2 tk2 ds2 hS2 p2 k2 => Calls.spliced_nil ?_
  refine sorted_set (s := { s1 with heap := h2, toks := tk2 }) hh hS2 (by rw [p2.length_eq]; exact h4) (fun d qd => pky_keep (hk d (p2.mem_iff.mp qd)) fun o eo => k2 _ _ eo) fun h3 tk3 a3 ep out hlt k3 he3 po hr => ?_
  have hmem : ∀ d ∈ out, H1 d.2 = some (.tup [.int d.1.1, .int d.1.2]) := fun d qd => hds d (p2.mem_iff.mp (po.mem_iff.mp qd))
  have hlen : (out.map fun d => V.ref d.2).length ≤ sizeLine := by
    rw [List.length_map, (po.trans p2).length_eq]
    exact Nat.le_trans h4 (by decide)
  refine ⟨.ref a3, upd H1 a3 (.lst (out.map fun d => V.ref d.2)), I1.laid (t' := tk3) (fun b o eb => k3 b o (k2 b o eb)) (Nat.le_of_lt hlt) ⟨hlen, _, ep, vals_refs, he3⟩, rfl, q _ (out.map (·.1)) a3 (ds_prs hmem) ((po.trans p2).map _) hr (I1.hok.fresh (Nat.le_of_lt hlt))⟩
end
end L2

end
section
set_option maxHeartbeats 4000000
namespace L2
open PySem PySem.Spec PyProof.Rows
section
variable {X : Cx} {e st : Expr} {es : List Expr} {te ts : TE} {tr : TA} {p p2 pos : Pos}
/-- *e, .. in a display -/
def tStar (K : PySem.W.Frag) (te : TE) (tr : TA) : TA := fun σ H Q => te σ H fun v H1 => ∃ (a : Addr) (ys : List V), v = .ref a ∧ (SqL K H1 a ys ∨ SqT K H1 a ys) ∧ tr σ H1 fun xs H2 => Q (ys ++ xs) H2
theorem pa_star (he : PE X e te) (hr : PA X es tr) : PA X (.Starred e p :: es) (tStar X.K te tr) := by
  intro pos pins s σ H Q I h
  refine PySem.W.items_star (thn (he pins s σ H _ I h) fun v s1 ⟨x, H1, I1, r1, a, ys, ex, hq, q⟩ => ?_)
  subst ex
  cases r1
  have fin : ∀ (its : List Value), Vals ys its → ∀ h' : Heap, (∀ b o, s1.heap.get? b = some o → h'.get? b = some o) → wpAny (model X.prog X.w) X.A (spliced (backTo pos (starEach es X.env))) (fun vs s3 => AP X pins σ Q (its ++ vs) s3) X.xe { s1 with heap := h' } := fun its rv h' k =>
    thn (hr pos pins _ σ H1 _ (I1.kept (t' := s1.toks) k) q) fun us s2 ⟨xs, H2, I2, r2, q2⟩ => ⟨ys ++ xs, H2, I2, rv.append r2, q2⟩
  unfold PySem.W.StarOf notIterableAtAll
  rcases hq with hq | hq
  · obtain ⟨its, rv, pl, hz⟩ := I1.list hq
    have hlen := rv.length
    obtain ⟨o, ho, hc, n, hd⟩ := pl.isList
    refine wpAny_bind (wpAny_specialOf (T := "list") ⟨o, ho, hc⟩ PySem.F.slot_list_iter.lookup (wpAny_pure ⟨rfl, ?_⟩))
    exact wpAny_collect_seq a (.inl rfl) ho hc hd (fun h' k => fin its rv h' k) (by simp only [List.size_toArray]; omega)
  · obtain ⟨its, rv, pl, hz⟩ := I1.tuple hq
    have hlen := rv.length
    obtain ⟨o, ho, hc, n, hd⟩ := pl
    refine wpAny_bind (wpAny_specialOf (T := "tuple") ⟨o, ho, hc⟩ PySem.F.slot_tuple_iter.lookup (wpAny_pure ⟨rfl, ?_⟩))
    exact wpAny_collect_seq a (.inr rfl) ho hc hd (fun h' k => fin its rv h' k) (by simp only [List.size_toArray]; omega)
/-- e[::-1], e a list -/
def tRevL (K : PySem.W.Frag) (te ts : TE) : TE := fun σ H Q => te σ H fun v H1 => ts σ H1 fun u H2 => ∃ (a : Addr) (ys : List V), v = .ref a ∧ u = .int (-1) ∧ SqL K H2 a ys ∧ ∀ l, H2 l = none → Q (.ref l) (upd H2 l (.lst ys.reverse))
theorem pe_revL {k : Nat} {p3 p4 : Pos} (he : PE X e te) (hs : PE X (.UnaryOp .USub (.Constant (.int 1) k p3) p4) ts) : PE X (.Subscript e (.Slice none none (some (.UnaryOp .USub (.Constant (.int 1) k p3) p4)) p2) pos) (tRevL X.K te ts) := by
  intro pins s σ H Q I h
  refine Subscript_ (thn (he pins s σ H _ I h) fun v s1 ⟨x, H1, I1, r1, q1⟩ => ?_)
  refine wpAny_Slice ?_
  rw [evalPart_none, evalPart_some]
  refine wpAny_pure (wpAny_pure (thn (hs pins s1 σ H1 _ I1 q1) fun vs s2 ⟨y, H2, I2, r2, a, ys, e1, e2, hl, q2⟩ => ?_))
  subst e1 e2
  cases r1
  obtain ⟨t', rfl⟩ := r2
  have I4 : Inv X pins σ H2 { s2 with heap := s2.heap.push { cls := .type "slice", data := .fields #[.none, .none, .int (-1) t'] } } := I2.kept (t' := s2.toks) fun b ob q => Heap.get?_push_of_some _ q
  obtain ⟨its, rv, ht, hz⟩ := I4.list hl
  have hlen := rv.length
  show wpAny (model X.prog X.w) X.A (subscriptTail e (.Slice none none (some (.UnaryOp .USub (.Constant (.int 1) k p3) p4)) p2) (.ref a) (.ref s2.heap.objs.size)) (EP X pins σ Q) X.xe { s2 with heap := s2.heap.push { cls := .type "slice", data := .fields #[.none, .none, .int (-1) t'] } }
  refine tail_any (T := "list") (ops := [.ref a, .ref s2.heap.objs.size]) ht.isList.typeIs slot_list_getitem.lookup ?_ (by with_unfolding_all rfl)
  refine wpAny_getItem_list_slice (st := some (-1)) ht.isList (Heap.IsSliceOf.new ..) .none .none (.int ..) (by decide) ?_ (by rw [List.size_toArray]; omega)
  rw [PySem.W.krv_pick]
  refine ⟨.ref _, upd H2 _ (.lst ys.reverse), I4.laid (t' := s2.toks) (fun b ob q => Heap.get?_push_of_some _ q) (Nat.le_refl _) ⟨by rw [List.length_reverse]; exact hz, _, 0, rv.reverse, Heap.get?_push_size _ rfl⟩, rfl, q2 _ (I4.hok.fresh (Nat.le_refl _))⟩
end
end L2

end
section
set_option maxHeartbeats 4000000
namespace L2
open PySem PySem.Spec PyProof.Rows
section
variable {X : Cx} {CX : CXT} {k : Nat} {f C : Addr} {fd : FuncData} {ps : List Str} {sp : Sp} {E : XK}
/-- a == b, both of a class whose __eq__ is a def of the text -/
def rEqO (C : Addr) (sp : Sp) (E : XK) : R2 := fun x y H Q => ∃ a b dx fs dx' fs', x = .ref a ∧ y = .ref b ∧ H a = some (.ins C dx fs) ∧ H b = some (.ins C dx' fs') ∧ sp [.ref a, .ref b] H (fun v H2 => ∃ z, v = .bl z ∧ Q (.bl z) H2) E
theorem op_eqO (hq : Meth X.K C "__eq__" f) (F : FnOk X.prog X.w X.K X.mg X.base CX k f fd ps sp) (hr : Room k X.A) (hb : Binds X.K fd ps []) (hx : Passes CX X E) : OpR X (compareOp .Eq) (rEqO C sp E) := by
  intro pins s σ H x y v u Q I rx ry h
  obtain ⟨a, b, dx, fs, dx', fs', rfl, rfl, ha, hbb, h⟩ := h
  cases rx
  cases ry
  obtain ⟨m, fr⟩ := I.fr
  obtain ⟨mA, O, _⟩ := ins_get I.hok ha
  obtain ⟨od, J, _⟩ := O.look
  obtain ⟨mB, O2, _⟩ := ins_get I.hok hbb
  obtain ⟨od2, J2, _⟩ := O2.look
  refine PySem.W.cmp_ofEq (PySem.W.cmp_K (op := .Eq) (by have := hr.units; omega) fr I.ok.mod.kin J J2.type (by unfold PySem.W.notFirst; simp) hq.at_ hq.fn ?_)
  refine thn (run_fn (us := [.ref a, .ref b]) (vs := [.ref a, .ref b]) (ds := []) (dvs := []) F hr hb .nil hx I (.cons rfl (.cons rfl .nil)) h) fun w' s' z => ?_
  obtain ⟨v, H2, I2, rv, zb, ev, q⟩ := z
  subst ev
  cases rv
  exact ⟨.bl zb, H2, I2, rfl, q⟩
end
end L2

end
section
set_option maxHeartbeats 4000000
namespace L2
open PySem PySem.Spec PyProof.Rows
/-! ### what may be compared -/
abbrev dS (l : List Bool) : PyData := .str (stS l)
theorem ok_stS (l : List Bool) : PyData.strOk (stS l) = true := by
  unfold PyData.strOk
  rw [Array.all_eq_true_iff_forall_mem]
  intro x hx
  have hx : x ∈ (stS l).cps.toList := Array.mem_toList_iff.mpr hx
  rw [stS_list] at hx
  obtain ⟨b, _, rfl⟩ := List.mem_map.mp hx
  cases b <;> decide
theorem lay_strs : ∀ ls : List (List Bool), PyData.canLayAll0 (ls.map dS) = true ∧ PyData.depthAll (ls.map dS) = 0
  | [] => ⟨rfl, rfl⟩
  | l :: ls => by
    obtain ⟨h1, h2⟩ := lay_strs ls
    refine ⟨?_, ?_⟩
    · rw [List.map_cons, PyData.canLayAll0, h1, PyData.canLay0, ok_stS]
      rfl
    · rw [List.map_cons, PyData.depthAll, h2, PyData.depth]
      rfl
theorem lay_prs : ∀ cs : List C2, PyData.canLayAll0 (cs.map dC) = true ∧ PyData.depthAll (cs.map dC) ≤ 1
  | [] => ⟨rfl, Nat.zero_le _⟩
  | c :: cs => by
    obtain ⟨h1, h2⟩ := lay_prs cs
    refine ⟨?_, ?_⟩
    · rw [List.map_cons, PyData.canLayAll0, h1]
      rfl
    · rw [List.map_cons, PyData.depthAll]
      have : PyData.depth (dC c) = 1 := rfl
      omega
theorem sh_strs (ls : List (List Bool)) : SeqAt.shaped (.tuple (ls.map dS)) = true := by
  obtain ⟨h1, h2⟩ := lay_strs ls
  unfold SeqAt.shaped
  rw [PyData.canLay0, PyData.depth, h1, h2]
  rfl
theorem sh_prs (cs : List C2) : SeqAt.shaped (.tuple (cs.map dC)) = true := by
  obtain ⟨h1, h2⟩ := lay_prs cs
  unfold SeqAt.shaped
  rw [PyData.canLay0, PyData.depth, h1, Bool.true_and]
  exact decide_eq_true (by omega)
section
variable {X : Cx}
/-- isinstance(x, C), C a class of the text -/
theorem call_isiO : CallR X (.builtin "isinstance") (fun xs H Q => ∃ x t c b, xs = [x, .ref c] ∧ TyOf X.K H x t ∧ PySem.W.kitOne X.K t (.ref c) = some b ∧ Q (.bl b) H) := by
  intro pins s σ H xs us Q I r h
  obtain ⟨x, t, c, b, rfl, ty, e, q⟩ := h
  cases r with
  | cons r1 rr =>
    cases rr with
    | cons r2 rr =>
      cases rr
      cases r2
      exact isinst_ok I r1 ty e fun tk => ⟨.bl b, H, I.tok _, rfl, q⟩
end
end L2

end
section
set_option maxHeartbeats 4000000
namespace L2
open PySem PySem.Spec PyProof.Rows
section
variable {X : Cx} {CX : CXT} {k : Nat} {f C : Addr} {fd : FuncData} {ps : List Str} {sp : Sp} {E : XK}
/-- len(a), a of a class whose __len__ is a def of the text -/
theorem call_lenO (hq : Meth X.K C "__len__" f) (F : FnOk X.prog X.w X.K X.mg X.base CX k f fd ps sp) (hr : Room (k + 1) X.A) (hb : Binds X.K fd ps []) (hx : Passes CX X E) :
    CallR X (.builtin "len") (fun xs H Q => ∃ a dx fs, xs = [.ref a] ∧ H a = some (.ins C dx fs) ∧ sp [.ref a] H (fun v H2 => ∃ n : Nat, v = .int (n : Nat) ∧ n ≤ 1000 ∧ Q (.int (n : Nat)) H2) E) := by
  intro pins s σ H xs us Q I r h
  obtain ⟨a, dx, fs, rfl, ha, h⟩ := h
  cases r with
  | cons r1 rr =>
    cases rr
    cases r1
    obtain ⟨m, fr⟩ := I.fr
    obtain ⟨mA, O, _⟩ := ins_get I.hok ha
    obtain ⟨od, J, _⟩ := O.look
    refine PySem.W.len_K fr I.ok.mod.kin J hq.at_ hq.fn ?_
    have r2 : Vals [V.ref a] [Value.ref a] := .cons rfl .nil
    have hl : ([Value.ref a] ++ []).length = ps.length := (F.len _ _ _ _ h)
    refine wpAny_call (codeAny_mono (F.run X.A.in1 X.stack s H ⟨[.ref a], []⟩ [.ref a] [.ref a] _ E hr.in1 I.env0.in1 (hb s [.ref a] I.kIn hl) r2 h) fun r s' hq' => ?_)
    cases r with
    | error e => exact hx pins σ H s e s' I hq'
    | ok fl =>
      cases fl with
      | ret u =>
        obtain ⟨v, H2, I2, rv, n, ev, hn, q⟩ := I.after hq'
        subst ev
        obtain ⟨tk, rfl⟩ := rv
        exact ⟨⟨by omega, Int.lt_of_le_of_lt (show ((n : Nat) : Int) ≤ 1000 by omega) (by decide)⟩, .int (n : Nat), H2, I2.tok _, ⟨_, rfl⟩, q⟩
      | next => exact False.elim hq'
      | brk => exact False.elim hq'
      | cont => exact False.elim hq'
end
end L2

end
section
set_option maxHeartbeats 4000000
namespace L2
open PySem
/-! ### what is known of a def, of a method, of a class, by its name alone -/
def OkC (CX : CXT) (P : Program) (w : World) (K : PySem.W.Frag) (mg : Str → Option Value) (base : Heap) (n : Nat) (x : Str) (ps : List Str) (ds : List V) (sp : Sp) : Prop :=
  ∃ (f : Addr) (fd : FuncData) (us : List Value), FnOk P w K mg base CX n f fd ps sp ∧ PySem.W.keepIn K (.ref f) = true ∧ Binds K fd ps us ∧ Vals ds us ∧ mg x = some (.ref f)
abbrev Ok (P : Program) (w : World) (K : PySem.W.Frag) (mg : Str → Option Value) (base : Heap) (n : Nat) (x : Str) (ps : List Str) (sp : Sp) : Prop := OkC CX0 P w K mg base n x ps [] sp
def MOkC (CX : CXT) (P : Program) (w : World) (K : PySem.W.Frag) (mg : Str → Option Value) (base : Heap) (C : Addr) (n : Nat) (x : Str) (ps : List Str) (ds : List V) (sp : Sp) : Prop :=
  ∃ (f : Addr) (fd : FuncData) (us : List Value), FnOk P w K mg base CX n f fd ps sp ∧ Binds K fd ps us ∧ Vals ds us ∧ Meth K C x f ∧ Cls K C
abbrev MOk (P : Program) (w : World) (K : PySem.W.Frag) (mg : Str → Option Value) (base : Heap) (C : Addr) (n : Nat) (x : Str) (ps : List Str) (sp : Sp) : Prop := MOkC CX0 P w K mg base C n x ps [] sp
def NOkC (CX : CXT) (P : Program) (w : World) (K : PySem.W.Frag) (mg : Str → Option Value) (base : Heap) (C : Addr) (n : Nat) (x : Str) (ps : List Str) (ds : List V) (sp : Sp) : Prop :=
  ∃ (f : Addr) (fd : FuncData) (us : List Value), FnOk P w K mg base CX n f fd ps sp ∧ Binds K fd ps us ∧ Vals ds us ∧ Mk K C f ∧ mg x = some (.ref C)
section
variable {P : Program} {w : World} {K : PySem.W.Frag} {mg : Str → Option Value} {base : Heap} {CX : CXT}
theorem ok_mk {n : Nat} {x : Str} {ps : List Str} {sp : Sp} {f : Addr} {fd : FuncData} (g : FnOk P w K mg base CX n f fd ps sp) (k : PySem.W.keepIn K (.ref f) = true) (b : Binds K fd ps []) (m : mg x = some (.ref f)) : OkC CX P w K mg base n x ps [] sp := ⟨f, fd, [], g, k, b, .nil, m⟩
theorem mok_mk {C : Addr} {n : Nat} {x : Str} {ps : List Str} {sp : Sp} {f : Addr} {fd : FuncData} (g : FnOk P w K mg base CX n f fd ps sp) (b : Binds K fd ps []) (m : Meth K C x f) (c : Cls K C) : MOkC CX P w K mg base C n x ps [] sp := ⟨f, fd, [], g, b, .nil, m, c⟩
end
section
variable {X : Cx} {CX : CXT} {n k : Nat} {C : Addr} {ps : List Str} {sp : Sp} {dvs : List V} {E : XK} {x m : Str} {p pos apos : Pos} {e o : Expr} {es : List Expr} {ta : TE} {t : TA}
/-- a call of a def -/
theorem pe_okC (g : OkC CX X.prog X.w X.K X.mg X.base n x ps dvs sp) (hr : Room k X.A) (hg : Gl X x) (hx : Passes CX X E) (ha : PA X (e :: es) t) (hn : n ≤ k := by decide)
    (hdb : (x == ("__debug__" : Str)) = false := by decide) (he : starEach (e :: es) X.env = (false, eval e X.env) :: starEach es X.env := by rfl) (hpl : (backTo pos (starEach es X.env)).any (·.1) = false := by rfl) :
    PE X (.Call (.Name x p) (e :: es) [] pos) (tCall sp dvs E t) := by
  obtain ⟨f, fd, us, F, hk, hb, hd, hm⟩ := g
  exact pe_call F (hr.mono hn) hg hm hk hb hd hx ha hdb he hpl
theorem pe_ok (g : OkC CX0 X.prog X.w X.K X.mg X.base n x ps dvs sp) (hr : Room k X.A) (hg : Gl X x) (ha : PA X (e :: es) t) (hn : n ≤ k := by decide)
    (hdb : (x == ("__debug__" : Str)) = false := by decide) (he : starEach (e :: es) X.env = (false, eval e X.env) :: starEach es X.env := by rfl) (hpl : (backTo pos (starEach es X.env)).any (·.1) = false := by rfl) :
    PE X (.Call (.Name x p) (e :: es) [] pos) (tCall sp dvs E0 t) := pe_okC g hr hg pass0 ha hn hdb he hpl
/-- a call of a method, with and without arguments -/
theorem pe_mokC {pl : Sem Bool} (g : MOkC CX X.prog X.w X.K X.mg X.base C n m ps dvs sp) (hr : Room k X.A) (hx : Passes CX X E) (he : PE X o ta) (ha : PA X (e :: es) t) (hn : n ≤ k := by decide)
    (hst : starEach (e :: es) X.env = (false, eval e X.env) :: starEach es X.env := by rfl) (hpl : (backTo pos (starEach es X.env)).any (·.1) = false := by rfl)
    (ht : eval (.Call (.Attribute o m apos) (e :: es) [] pos) X.env = (do
      let ov ← eval o X.env
      standAt apos.atName
      let (f, first) ← holding [ov] (getMethod ov m pl)
      callWith pos f first (backTo pos (starEach (e :: es) X.env)) (backToKw pos (keywordEach [] X.env))) := by rfl) :
    PE X (.Call (.Attribute o m apos) (e :: es) [] pos) (tMeth C m sp dvs E ta t) := by
  obtain ⟨f, fd, us, F, hb, hd, hm, c⟩ := g
  exact pe_meth he c hm F (hr.mono hn) hb hd hx ha hst hpl ht
theorem pe_mokC0 {pl : Sem Bool} (g : MOkC CX X.prog X.w X.K X.mg X.base C n m ps dvs sp) (hr : Room k X.A) (hx : Passes CX X E) (he : PE X o ta) (hn : n ≤ k := by decide)
    (ht : eval (.Call (.Attribute o m apos) [] [] pos) X.env = (do
      let ov ← eval o X.env
      standAt apos.atName
      let (f, first) ← holding [ov] (getMethod ov m pl)
      callWith pos f first (backTo pos (starEach [] X.env)) (backToKw pos (keywordEach [] X.env))) := by rfl) :
    PE X (.Call (.Attribute o m apos) [] [] pos) (tMeth C m sp dvs E ta tNil) := by
  obtain ⟨f, fd, us, F, hb, hd, hm, c⟩ := g
  exact pe_meth0 he c hm F (hr.mono hn) hb hd hx ht
theorem pe_mok0 {pl : Sem Bool} (g : MOkC CX0 X.prog X.w X.K X.mg X.base C n m ps dvs sp) (hr : Room k X.A) (he : PE X o ta) (hn : n ≤ k := by decide)
    (ht : eval (.Call (.Attribute o m apos) [] [] pos) X.env = (do
      let ov ← eval o X.env
      standAt apos.atName
      let (f, first) ← holding [ov] (getMethod ov m pl)
      callWith pos f first (backTo pos (starEach [] X.env)) (backToKw pos (keywordEach [] X.env))) := by rfl) :
    PE X (.Call (.Attribute o m apos) [] [] pos) (tMeth C m sp dvs E0 ta tNil) := pe_mokC0 g hr pass0 he hn ht
/-- a new one of a class -/
theorem pe_nokC (g : NOkC CX X.prog X.w X.K X.mg X.base C n x ps dvs sp) (hr : Room k X.A) (hg : Gl X x) (hx : Passes CX X E) (ha : PA X (e :: es) t) (hn : n + 1 ≤ k := by decide)
    (hdb : (x == ("__debug__" : Str)) = false := by decide) (he : starEach (e :: es) X.env = (false, eval e X.env) :: starEach es X.env := by rfl) (hpl : (backTo pos (starEach es X.env)).any (·.1) = false := by rfl) :
    PE X (.Call (.Name x p) (e :: es) [] pos) (tMake C sp dvs E t) := by
  obtain ⟨f, fd, us, F, hb, hd, M, hm⟩ := g
  exact pe_make M F (hr.mono hn) hg hm hb hd hx ha hdb he hpl
theorem pe_nok (g : NOkC CX0 X.prog X.w X.K X.mg X.base C n x ps dvs sp) (hr : Room k X.A) (hg : Gl X x) (ha : PA X (e :: es) t) (hn : n + 1 ≤ k := by decide)
    (hdb : (x == ("__debug__" : Str)) = false := by decide) (he : starEach (e :: es) X.env = (false, eval e X.env) :: starEach es X.env := by rfl) (hpl : (backTo pos (starEach es X.env)).any (·.1) = false := by rfl) :
    PE X (.Call (.Name x p) (e :: es) [] pos) (tMake C sp dvs E0 t) := pe_nokC g hr hg pass0 ha hn hdb he hpl
end
end L2

end
section
set_option maxHeartbeats 4000000
namespace L2
open PySem
/-! ### lists of things -/
abbrev RR (α : Type) := Hp → V → α → Prop
def Keeps {α : Type} (R : RR α) : Prop := ∀ H H' x d, Same H H' → R H x d → R H' x d
def LOf {α : Type} (R : RR α) : RR (List α) := fun H v ds => ∃ a xs, v = .ref a ∧ H a = some (.lst xs) ∧ Paired (R H) xs ds
def RI : RR Int := fun _ x n => x = .int n
def RS : RR Str := fun _ x z => x = .str z
def RB : RR Bool := fun _ x b => x = .bl b
def RP : RR C2 := fun H x c => ∃ p, x = .ref p ∧ H p = some (.tup [.int c.1, .int c.2])
/-- the same of both: the law's own look finds them the same -/
def Likes {α : Type} (n : Nat) (R : RR α) : Prop := ∀ H x y d, R H x d → R H y d → Alike n H x y
/-! ### what is new -/
/-- of the later heap what the earlier one had not -/
def nw (H H' : Hp) : Hp := fun b => if (H b).isSome then none else H' b
/-- a list that is being made at D -/
def Bld {α : Type} (R : RR α) (H : Hp) (D : Addr) (H2 : Hp) (ds : List α) : Prop := ∃ zs, H2 D = some (.lst zs) ∧ Paired (R (drp (nw H H2) D)) zs ds ∧ Same H H2
section
variable {α : Type} {R : RR α} {H H1 H2 H3 : Hp} {D : Addr} {ds : List α}
end
end L2

end
section
set_option maxHeartbeats 4000000
namespace L2
open PySem PySem.Spec PyProof.Rows
section
variable {prog : Program} {w : World} {A : Around} {E : Value → Shared → Prop} {s : Shared} {l : Addr}
end
section
variable {X : Cx}
/-- max(t) of a tuple of ints -/
def rMaxT (K : PySem.W.Frag) : List V → Hp → VK → Prop := fun vs H Q => ∃ (a : Addr) (ns : List Int), vs = [V.ref a] ∧ SqT K H a (ns.map V.int) ∧ 0 < ns.length ∧ ∀ m, m ∈ ns → (∀ y, y ∈ ns → y ≤ m) → Q (.int m) H
end
end L2

end
section
set_option maxHeartbeats 4000000
namespace L2
open PySem PySem.Spec PyProof.Rows
section
variable {X : Cx}
/-- xs.count(n) of a list of ints -/
def rCountI (K : PySem.W.Frag) : V → List V → Hp → VK → Prop := fun x xs H Q => ∃ (a : Addr) (ns : List Int) (n : Int), x = V.ref a ∧ xs = [.int n] ∧ SqL K H a (ns.map V.int) ∧ Q (.int (ns.count n : Nat)) H
/-- o[i] of a list, as an own step -/
def rGetL (K : PySem.W.Frag) : V → V → Hp → VK → Prop := fun x y H Q => ∃ (p : Addr) (xs : List V) (j : Nat) (v : V), x = .ref p ∧ y = .int (j : Nat) ∧ SqL K H p xs ∧ xs[j]? = some v ∧ Q v H
end
/-! ### [f(x) for x in ..]: a list of new things -/
end L2

end
section
set_option maxHeartbeats 4000000
namespace L2
open PySem PySem.Spec PyProof.Rows
/-! ### enumerate(text) -/
def Itse (x : Str) : It :=
  ⟨fun i _ => i < x.cps.size, fun i H v H' => ∃ T c, v = .ref T ∧ H T = none ∧ H' = upd H T (.tup [.int (i : Nat), .str ⟨#[c]⟩]) ∧ x.cps[i]? = some c, fun i _ => i = x.cps.size⟩
def iEnumS (ta : TA) : TI := fun σ H R => ta σ H fun vs H1 => ∃ x, vs = [.str x] ∧ R (Itse x) H1
end L2

end
section
set_option maxHeartbeats 4000000
namespace L2
open PySem PySem.Spec PyProof.Rows
/-! ### == and != of lists of numbers and of lists of these -/
abbrev dI (ns : List Int) : PyData := .list (ns.map PyData.int)
abbrev dII (nss : List (List Int)) : PyData := .list (nss.map dI)
section
variable {X : Cx}
/-- x != y, the same data on both sides -/
def rNeS (K : PySem.W.Frag) : R2 := fun x y H Q => ∃ d, Dp K H x d ∧ Dp K H y d ∧ SeqAt.shaped d = true ∧ Q (.bl false) H
end
end L2

end
section
set_option maxHeartbeats 4000000
namespace L2
open PySem PySem.Spec PyProof.Rows
/-! ### a set of pairs, its table of 8 or of 32 places -/
def tabM (M mv : Nat) (led : Bool) (l : List Nat) : SetTable := ⟨M, l.toArray, #[], 0, led, mv, true⟩
structure TOk (M n : Nat) (l : List Nat) : Prop where
  m : M = 7 ∨ M = 31
  len : l.length = n
  asc : l.Pairwise (· < ·)
  lt : ∀ j ∈ l, j ≤ M
  cap : n ≤ M
/-! the place where j is or would be -/
structure BelowAt (l : List Nat) (j k : Nat) : Prop where
  le : k ≤ l.length
  lo : ∀ i x, i < k → l[i]? = some x → x < j
  hi : ∀ i x, k ≤ i → l[i]? = some x → j ≤ x
section
variable {M mv n : Nat} {led : Bool} {l : List Nat}
end
/-- a place more -/
def putM (l : List Nat) (j : Nat) : List Nat := l.take (SetTable.below l.toArray j) ++ j :: l.drop (SetTable.below l.toArray j)
/-! walking -/
/-! an empty place -/
def itM (M : Nat) (i : Nat) : Nat → Nat
  | 0 => i
  | t + 1 => itM M ((i * 5 + 1) % (M + 1)) t
/-! ways through the table -/
def rchT (t : SetTable) : Nat → SetTable.Probe → Bool
  | 0, p => decide (t.slot p.j = .empty)
  | n + 1, p => decide (t.slot p.j = .empty) || rchT t n (t.advance p)
structure PGd (M : Nat) (p : SetTable.Probe) : Prop where
  d : p.dummy = none
  m9 : p.more ≤ 9
  jm : p.j + p.more ≤ M
  i : p.i ≤ M
def leapP (M : Nat) (p : SetTable.Probe) : SetTable.Probe := ⟨(p.i * 5 + 1 + p.perturb / 32) % (M + 1), SetTable.runEnd M ((p.i * 5 + 1 + p.perturb / 32) % (M + 1)) - (p.i * 5 + 1 + p.perturb / 32) % (M + 1), (p.i * 5 + 1 + p.perturb / 32) % (M + 1), p.perturb / 32, p.dummy⟩
section
variable {M mv n : Nat} {led : Bool} {l : List Nat}
end
end L2

end
section
set_option maxHeartbeats 4000000
namespace L2
open PySem PySem.Spec PyProof.Rows
/-! ### a table laid anew, of 32 places -/
def seqL (M : Nat) : Nat → Nat → Nat → Nat
  | i, _, 0 => i
  | i, p, t + 1 => seqL M ((i * 5 + 1 + p / 32) % (M + 1)) (p / 32) t
def liveL (owner : Array (Option Nat)) (L : List Nat) : List (Nat × Nat) := L.filterMap fun j => (owner.getD j none).map fun x => (j, x)
structure Own (owner : Array (Option Nat)) (k : Nat) : Prop where
  size : owner.size = 32
  live : ((liveL owner (List.range 32)).map (·.2)).Perm (List.range k)
section
variable {prog : Program} {w : World} {A : Around} {E : Value → Shared → Prop} {s : Shared}
end
end L2

end
section
set_option maxHeartbeats 4000000
namespace L2
open PySem PySem.Spec PyProof.Rows
section
variable {prog : Program} {w : World} {A : Around} {E : Value → Shared → Prop} {s : Shared}
/-- the set at S holds the pairs ds, in the order of its entries -/
def SetQ (prog : Program) (w : World) (h : Heap) (S : Addr) (led : Bool) (ds : List (C2 × Addr)) : Prop :=
  ∃ (es : Array (Int × Value)) (ep M mv : Nat) (l : List Nat), h.get? S = some (setO es ep (tabM M mv led l)) ∧ TOk M ds.length l ∧ ds.length * 5 < M * 3 ∧ es.toList = ds.map (entP prog w)
end
end L2

end
section
set_option maxHeartbeats 4000000
namespace L2
open PySem PySem.Spec PyProof.Rows
section
variable {prog : Program} {w : World} {A : Around} {R : Result → Shared → Prop} {I : Addr} {fp wr : List Addr} {G : Array GenState → Array GenState → Prop} {n : Nat} {P : Nat → Value → Prop} {St : Nat → Shared → Prop}
end
section
variable {prog : Program} {w : World} {A : Around} {E : Value → Shared → Prop} {s : Shared}
end
end L2

end
section
set_option maxHeartbeats 4000000
namespace L2
open PySem PySem.Spec PyProof.Rows
section
variable {prog : Program} {w : World} {A : Around} {E : Value → Shared → Prop} {s : Shared}
end
end L2

end
section
set_option maxHeartbeats 4000000
namespace L2
open PySem PySem.Spec PyProof.Rows
section
variable {prog : Program} {w : World} {A : Around} {E : Value → Shared → Prop} {s : Shared}
end
section
variable {X : Cx} {e : Expr} {te : TE} {p p' pos pos' : Pos}
def tSortedSetM (K : PySem.W.Frag) (te : TE) : TE := fun σ H Q => te σ H fun v H1 => ∃ (a : Addr) (xs : List V) (cs : List C2), v = .ref a ∧ SqL K H1 a xs ∧ Prs K H1 xs cs ∧ cs.Nodup ∧ cs.length ≤ 18 ∧
  ∀ (xs' : List V) (cs' : List C2) (l : Addr), Prs K H1 xs' cs' → cs'.Perm cs → Rising cs' → H1 l = none → Q (.ref l) (upd H1 l (.lst xs'))
end
end L2

end
section
set_option maxHeartbeats 4000000
namespace L2
open PySem PySem.Spec PyProof.Rows
section
variable {X : Cx} {CX : CXT} {k n : Nat} {f C : Addr} {fd : FuncData} {ps ks : List Str} {sp : Sp} {E : XK} {x m : Str} {p pos apos kpos : Pos} {e o : Expr} {es : List Expr} {kws : List Keyword} {te ta : TE} {t tk : TA} {nm : Option Str}
variable {g : List Value → List Value → List Value} {gV : List V → List V → List V}
def tMethK (C : Addr) (m : Str) (sp : Sp) (gV : List V → List V → List V) (E : XK) (ta : TE) (t tk : TA) : TE := fun σ H Q => ta σ H fun x H1 => ∃ a dx fs, x = .ref a ∧ H1 a = some (.ins C dx fs) ∧ fs.lookup m = none ∧ t σ H1 fun vs H2 => tk σ H2 fun zs H3 => sp (gV (x :: vs) zs) H3 Q E
end
/-- a method by keywords, known by its name alone -/
def MOkK (CX : CXT) (P : Program) (w : World) (K : PySem.W.Frag) (mg : Str → Option Value) (base : Heap) (C : Addr) (n : Nat) (m : Str) (ps ks : List Str) (gV : List V → List V → List V) (sp : Sp) : Prop :=
  ∃ (f : Addr) (fd : FuncData) (g : List Value → List Value → List Value), FnOk P w K mg base CX n f fd ps sp ∧ KBinds K fd ps ks g gV ∧ Meth K C m f ∧ Cls K C
section
variable {X : Cx} {CX : CXT} {k n : Nat} {C : Addr} {ps ks : List Str} {sp : Sp} {E : XK} {m : Str} {pos apos : Pos} {e o : Expr} {es : List Expr} {kws : List Keyword} {ta : TE} {t tk : TA} {gV : List V → List V → List V}
end
end L2

end
section
set_option maxHeartbeats 4000000
namespace L2
open PySem PySem.Spec PyProof.Rows
section
variable {X : Cx}
/-! ### sorted(a list of texts), of any length -/
def rSortedSA (K : PySem.W.Frag) : List V → Hp → VK → Prop := fun vs H Q => ∃ (a : Addr) (xs : List Str), vs = [V.ref a] ∧ SqL K H a (xs.map V.str) ∧
  ∀ (ys : List Str) (p : Addr), ys.Perm xs → sortedS ys = true → H p = none → Q (.ref p) (upd H p (.lst (ys.map V.str)))
end
/-! ### a, b, c = x, y, z -/
section
variable {X : Cx} {pos : Pos}
def tPar3 (i j k : Nat) (ta : TA) : TS := fun D σ H => ta σ H fun vs H1 => ∃ u v w, vs = [u, v, w] ∧ D.nx (((σ.set i (some u)).set j (some v)).set k (some w)) H1
end
section
variable {X : Cx} {a : Expr} {ta : TA} {p p' pos pos' : Pos}
/-! ### list(range(n)) -/
def tLR1 (ta : TA) : TE := fun σ H Q => ta σ H fun vs H1 => ∃ j : Int, vs = [.int j] ∧ (-(2 ^ 62) ≤ j ∧ j < 2 ^ 62) ∧ j.toNat ≤ 1000 ∧
  ∀ l, H1 l = none → Q (.ref l) (upd H1 l (.lst ((List.range j.toNat).map fun k => V.int ((k : Nat) : Int))))
end
end L2

end
section
set_option maxHeartbeats 4000000
namespace L2
open PySem PySem.Spec PyProof.Rows
/-! ### a dict of the text's own, with texts as keys and as values, that is only read -/
structure GDict (P : Program) (w : World) (K : PySem.W.Frag) (a : Addr) (kvs : List (Key × V)) : Prop where
  ex : ∀ h : Heap, K.In h → ∃ vs, KV kvs vs ∧ h.DictOf (mixKind P w) a vs
  ns : (a == sysModules) = false
abbrev Ent := (Str × Tok) × (Str × Tok)
def entD (p : Params) (e : Ent) : DictEntry := ⟨PyData.keyHash p e.1.1, .str e.1.1 e.1.2, .str e.2.1 e.2.2⟩
def entK (e : Ent) : Key × V := (.inr e.1.1, .str e.2.1)
def entV (e : Ent) : Key × Value := (.inr e.1.1, .str e.2.1 e.2.2)
section
variable {X : Cx} {o i : Expr} {pos : Pos} {td ty : TE} {a : Addr} {kvs : List (Key × V)}
def tGGet (a : Addr) (kvs : List (Key × V)) (td ty : TE) : TE := fun σ H Q => td σ H fun x H1 => ty σ H1 fun y H2 => ∃ k v, x = .ref a ∧ y = kV k ∧ valV kvs k = some v ∧ Q v H2
end
end L2

end
section
set_option maxHeartbeats 4000000
namespace L2
open PySem PySem.Spec PyProof.Rows
section
variable {X : Cx} {i : Nat} {x : Str} {es : List Expr} {tr : TA} {p1 p2 p3 p4 p5 p6 apos cpos : Pos} {k1 k2 k3 : Nat}
/-- (x + "x", x.replace("w", ""), ..) -/
def tTwoF (i : Nat) (tr : TA) : TA := fun σ H Q => ∃ z : Str, σ[i]? = some (some (.str z)) ∧ 1 ≤ z.length ∧ z.length ≤ 1000 ∧ tr σ H fun xs H2 => Q (.str (z ++ "x") :: .str (Txt.replace z "f" "") :: xs) H2
end
end L2

end
section
set_option maxHeartbeats 4000000
namespace L2
open PySem PySem.Spec PyProof.Rows
section
variable {X : Cx} {o e : Expr} {apos cpos : Pos} {td ty : TE} {a : Addr} {kvs : List (Key × V)}
/-- d.get(k), d a dict of the module's own -/
def tGGet1 (a : Addr) (kvs : List (Key × V)) (td ty : TE) : TE := fun σ H Q => td σ H fun x H1 => x = .ref a ∧ ty σ H1 fun y H2 => ∃ k, y = kV k ∧ Q ((valV kvs k).getD .non) H2
end
end L2

end
section
set_option maxHeartbeats 4000000
namespace L2
open PySem PySem.Spec PyProof.Rows
/-! ### a, b, c = a list of that length -/
section
variable {prog : Program} {w : World} {A : Around} {E : Value → Shared → Prop} {s : Shared}
end
section
variable {X : Cx} {pos : Pos}
def gLst (K : PySem.W.Frag) (n : Nat) (t : TGs) : TG := fun v σ H Q => ∃ a xs, v = .ref a ∧ SqL K H a xs ∧ xs.length = n ∧ t xs σ H Q
end
section
variable {prog : Program} {w : World} {A : Around} {E : Value → Shared → Prop} {s : Shared} {l : Addr}
end
section
variable {X : Cx}
/-- min(t) of a tuple of ints -/
def rMinT (K : PySem.W.Frag) : List V → Hp → VK → Prop := fun vs H Q => ∃ (a : Addr) (ns : List Int), vs = [V.ref a] ∧ SqT K H a (ns.map V.int) ∧ 0 < ns.length ∧ ∀ m, m ∈ ns → (∀ y, y ∈ ns → m ≤ y) → Q (.int m) H
end
/-! ### list(zip(a, b)) -/
abbrev IsZip2 (h : Heap) (z TI TO T : Addr) (b : Bool) : Prop :=
  h.get? z = some { cls := .type "zip", dict := none, data := .fields #[rawInt T, .bool b, .bool false, .ref TI, .ref TO], slots := #[] }
section
variable {prog : Program} {w : World} {A : Around} {E : Value → Shared → Prop} {s : Shared}
end
section
variable {prog : Program} {w : World} {A : Around} {s : Shared} {R : Result → Shared → Prop} {I S : Addr} {n : Nat} {J : Nat → Array Value → Shared → Prop} {J' : Array Value → Shared → Prop}
structure JOk (prog : Program) (w : World) (A : Around) (I S : Addr) (n : Nat) (J : Nat → Array Value → Shared → Prop) (J' : Array Value → Shared → Prop) : Prop where
  item : ∀ i acc (s : Shared) (Q : Option Value → Shared → Prop) (E : Value → Shared → Prop), i < n → J i acc s → (∀ v s', J (i + 1) (acc.push v) s' → (∀ o, s.heap.get? S = some o → s'.heap.get? S = some o) → Q (some v) s') → wpAny (model prog w) A (pyNext (.ref I)) Q E s
  done : ∀ acc (s : Shared) (Q : Option Value → Shared → Prop) (E : Value → Shared → Prop), J n acc s → (∀ s', J' acc s' → (∀ o, s.heap.get? S = some o → s'.heap.get? S = some o) → Q none s') → wpAny (model prog w) A (pyNext (.ref I)) Q E s
  frame : ∀ i acc (s : Shared) h', J i acc s → (∀ b o, b ≠ S → s.heap.get? b = some o → h'.get? b = some o) → (∃ o, h'.get? S = some o) → J i acc { s with heap := h' }
  self : ∀ acc (s : Shared) (Q : Value → Shared → Prop) (E : Value → Shared → Prop), J 0 acc s → Q (.ref I) s → wpAny (model prog w) A (pyIter (.ref I)) Q E s
  ty : ∀ i acc s, J i acc s → s.TypeIs (.ref I) "zip"
end
section
variable {prog : Program} {w : World} {A : Around} {E : Value → Shared → Prop} {s : Shared} {I : Addr} {n : Nat} {J : Nat → Array Value → Shared → Prop} {J' : Array Value → Shared → Prop}
end
section
variable {X : Cx} {a b : Expr} {ta : TA} {p0 p' pos pos' : Pos}
/-- list(zip(a, b)) of two of one length -/
def tLZ (K : PySem.W.Frag) (ta : TA) : TE := fun σ H Q => ta σ H fun vs H1 => ∃ (p q : ZS) (xs ys : List V), vs = [p.val, q.val] ∧ p.rd K H1 xs ∧ q.rd K H1 ys ∧ xs.length = ys.length ∧ xs.length ≤ 1000 ∧
  ∀ (l : Addr) (zs : List V) (H2 : Hp), Same H1 H2 → nw H1 H2 l = some (.lst zs) → zs.length = xs.length → (∀ (i : Nat) (x y : V), xs[i]? = some x → ys[i]? = some y → ∃ t : Addr, zs[i]? = some (V.ref t) ∧ nw H1 H2 t = some (.tup [x, y])) → Q (.ref l) H2
/-- what has come of two so far -/
structure ZJ (X : Cx) (pins : List (Addr × Obj)) (σ : St) (H1 : Hp) (p q : ZS) (xs ys : List V) (z TI TO i1 i2 S : Addr) (i : Nat) (acc : Array Value) (s : Shared) (H : Hp) : Prop where
  inv : Inv X pins σ H s
  same : Same H1 H
  fp : ∀ c, c = z ∨ c = TI ∨ c = TO ∨ c = i1 ∨ c = i2 ∨ c = S → FpOk X pins H c
  zip : (i = 0 ∧ IsZip s.heap z TI TO .none) ∨ (0 < i ∧ ∃ T c x y u v, H T = some (.tup [x, y]) ∧ IsPair s.heap T u v ∧ IsZip2 s.heap z TI TO T c)
  ti : IsPair s.heap TI (.ref i1) (.ref i2)
  to : ∃ x y, IsPair s.heap TO x y
  st1 : p.st i1 i s.heap
  st2 : q.st i2 i s.heap
  got : ∀ (j : Nat) (v : Value), acc[j]? = some v → ∃ (t : Addr) (x y : V), v = Value.ref t ∧ xs[j]? = some x ∧ ys[j]? = some y ∧ H1 t = none ∧ H t = some (.tup [x, y])
  sz : acc.size = i
  sS : ∃ o, s.heap.get? S = some o
section
variable {prog : Program} {w : World} {A : Around} {E : Value → Shared → Prop} {s : Shared}
end
section
variable {pins : List (Addr × Obj)} {σ : St} {H1 H : Hp} {p q : ZS} {xs ys : List V} {z TI TO i1 i2 S : Addr} {i : Nat} {acc : Array Value} {s : Shared}
end
end
end L2

end
section
set_option maxHeartbeats 4000000
namespace L2
open PySem PySem.Spec PyProof.Rows
/-! ### a += b of two lists -/
section
variable {prog : Program} {w : World} {A : Around} {E : Value → Shared → Prop} {s : Shared}
theorem inplace_list {l b : Addr} {Q : Value → Shared → Prop} (ha : s.TypeIs (.ref l) "list") (hb : s.TypeIs (.ref b) "list")
    (hc : wpAny (model prog w) A (call (.builtin "list.__iadd__") [.ref l, .ref b]) Q E s) : wpAny (model prog w) A (inplaceOp .Add (.ref l) (.ref b)) Q E s := by
  unfold inplaceOp
  refine wpAny_holding ?_
  have hlk : typeLookup (.type "list") (dunderI "add") = pure (some (.builtin "list.__iadd__")) := PySem.F.slot_list_iadd.lookup
  have hfi : fillsInplaceSlot (.type "list") "add" (Operator.Add == .Add) = pure false := by
    unfold fillsInplaceSlot
    show (typeLookup (.type "list") (dunderI "add") >>= fun fi => pure (fi.isSome && !isSeqSlot fi)) = pure false
    rw [hlk]
    show (pure ((some (Value.builtin "list.__iadd__")).isSome && !isSeqSlot (some (.builtin "list.__iadd__"))) : Sem Bool) = pure false
    rw [show isSeqSlot (some (.builtin "list.__iadd__")) = true by decide +kernel]
    rfl
  have hsi : seqSlot? (.type "list") (dunderI "add") = pure (some (.builtin "list.__iadd__")) := PySem.seqSlot_of hlk (by decide +kernel)
  refine wpAny_bind (wpAny_typeOf ha (wpAny_bind (wpAny_of_eq hfi ?_)))
  show wpAny _ A (if false = true then _ else _) Q E s
  rw [if_neg Bool.false_ne_true]
  refine wpAny_bind (wpAny_binaryOp1_none (nm := "add") ha hb noFill_list_add ?_)
  refine wpAny_bind (wpAny_of_eq hsi ?_)
  exact wpAny_bind (wpAny_rule hc)
end
section
variable {X : Cx}
def ipCat : TIp := fun x y H Q => ∃ l b xs zs, x = .ref l ∧ y = .ref b ∧ H l = some (.lst xs) ∧ H b = some (.lst zs) ∧ xs.length + zs.length ≤ sizeLine ∧ Q (.ref l) (upd H l (.lst (xs ++ zs)))
theorem ip_cat : PIp X .Add ipCat := by
  intro pins s σ H x y v u Q I rx ry h
  obtain ⟨l, b, xs, zs, rfl, rfl, hH, hB, hz, q⟩ := h
  cases rx
  cases ry
  obtain ⟨z, its, n, r, hl, e⟩ := I.lstM hH
  obtain ⟨z2, its2, n2, r2, hl2, e2⟩ := I.lstM hB
  have hsz : its.toArray.size + its2.toArray.size ≤ sizeLine := by rw [List.size_toArray, List.size_toArray]; omega
  have hlong : ¬ (!its.toArray.isEmpty && Builtin.List.listTooLong (its.toArray.size + its2.toArray.size)) = true := by
    rw [notLongL hsz, Bool.and_false]
    exact Bool.false_ne_true
  refine inplace_list ⟨_, e, rfl⟩ ⟨_, e2, rfl⟩ (call_meets PySem.F.slot_list_iadd ⟨_, e, rfl⟩ PySem.F.entry_list_iadd (PySem.F.args_list_iadd_2 _ _)
    (AutoSeq1.list___iadd___list_list_0 l its.toArray n b its2.toArray n2 hlong (by rw [List.size_toArray]; omega) (by omega)) ⟨e, e2, ?_⟩)
  refine ⟨.ref l, _, I.lset (its' := its ++ its2) hH e (by simp) (r.append r2) ?_, rfl, q⟩
  rw [List.length_append]
  omega
end
/-! ### enumerate(zip(a, b)) -/
abbrev IsZ (h : Heap) (z TI TO : Addr) (f0 : Value) (b : Bool) : Prop :=
  h.get? z = some { cls := .type "zip", dict := none, data := .fields #[f0, .bool b, .bool false, .ref TI, .ref TO], slots := #[] }
section
variable {prog : Program} {w : World} {A : Around} {E : Value → Shared → Prop} {s : Shared}

/-- the zip's own state -/
def ZipSt (h : Heap) (z TI TO : Addr) : Prop := ∃ f0 b, IsZ h z TI TO f0 b ∧ (f0 = .none ∨ ∃ T : Addr, f0 = rawInt T)
end
section
variable {prog : Program} {w : World} {A : Around} {E : Value → Shared → Prop} {s : Shared}
end
def Itez (K : PySem.W.Frag) (p q : ZS) : It :=
  ⟨fun i H => ∃ (xs ys : List V) (x y : V), p.rd K H xs ∧ q.rd K H ys ∧ xs[i]? = some x ∧ ys[i]? = some y,
    fun i H v H' => ∃ T1 T2 x y, v = .ref T2 ∧ H T1 = none ∧ H T2 = none ∧ T1 ≠ T2 ∧ H' = upd (upd H T1 (.tup [x, y])) T2 (.tup [.int (i : Nat), .ref T1]) ∧ (∀ xs, p.rd K H xs → xs[i]? = some x) ∧ ∀ ys, q.rd K H ys → ys[i]? = some y,
    fun i H => ∃ xs ys : List V, p.rd K H xs ∧ q.rd K H ys ∧ (xs.length ≤ i ∨ ys.length ≤ i)⟩
def iZipe (K : PySem.W.Frag) (ta : TA) : TI := fun σ H R => ta σ H fun vs H1 => ∃ (p q : ZS) (xs ys : List V), vs = [p.val, q.val] ∧ p.rd K H1 xs ∧ q.rd K H1 ys ∧ R (Itez K p q) H1
end L2

end
section
set_option maxHeartbeats 4000000
namespace L2
open PySem PySem.Spec PyProof.Rows
/-! ### a call of what an expression gives -/
def Cal (CX : CXT) (P : Program) (w : World) (K : PySem.W.Frag) (mg : Str → Option Value) (base : Heap) (k : Nat) (v : V) (sp : Sp) : Prop :=
  ∃ (f : Addr) (fd : FuncData) (ps : List Str), v = .ref f ∧ FnOk P w K mg base CX k f fd ps sp ∧ PySem.W.keepIn K (.ref f) = true ∧ Binds K fd ps []
section
variable {X : Cx} {CX : CXT} {k : Nat} {R : V → Sp → Prop} {E : XK} {e0 e : Expr} {es : List Expr} {t0 : TE} {t : TA} {pos : Pos}
def tCallV (R : V → Sp → Prop) (E : XK) (t0 : TE) (t : TA) : TE := fun σ H Q => t0 σ H fun v H1 => ∃ sp, R v sp ∧ t σ H1 fun vs H2 => sp (vs ++ []) H2 Q E
end
section
variable {P : Program} {w : World} {K : PySem.W.Frag} {mg : Str → Option Value} {base : Heap}
/-- one promise or the other -/
theorem FnOk.or {CX : CXT} {k : Nat} {f : Addr} {fd : FuncData} {ps : List Str} {sp sp' : Sp} (F : FnOk P w K mg base CX k f fd ps sp) (G : FnOk P w K mg base CX k f fd ps sp') :
    FnOk P w K mg base CX k f fd ps (fun vs H Q E => sp vs H Q E ∨ sp' vs H Q E) :=
  ⟨fun vs H Q E h => h.elim (F.len vs H Q E) (G.len vs H Q E), fun A outer s H args us vs Q E hr he hb hv hs => hs.elim (F.run A outer s H args us vs Q E hr he hb hv) (G.run A outer s H args us vs Q E hr he hb hv)⟩
end
end L2

end
section
set_option maxHeartbeats 4000000
namespace L2
open PySem PySem.Spec PyProof.Rows
/-! ### one class in an except clause -/
section
variable {M : Model} {A : Around} {E : Value → Shared → Prop} {s : Shared}
end
/-! ### try: .. except C0 as n: .. except (C1, C2) as n: .. -/
def Esu2 (K : PySem.W.Frag) (C0 C1 C2 : Addr) (N i : Nat) (t0 ts : Addr → Obj → TS) (D : Ends) : XK := fun Cv d H => ∃ C bm, Cv = .ref C ∧ clsIn K C bm = true ∧
  (((Value.ref C :: bm).contains (.ref C0) = true ∧ ∀ ea oe, H ea = none → ExO C d oe → t0 ea oe (Dsu N D) ((List.replicate N none).set i (some (.ref ea))) H) ∨
   ((Value.ref C :: bm).contains (.ref C0) = false ∧ ((Value.ref C :: bm).contains (.ref C1) || (Value.ref C :: bm).contains (.ref C2)) = true ∧
     ∀ ea oe tp, H ea = none → ExO C d oe → H tp = none → tp ≠ ea → ts ea oe (Dsu N D) ((List.replicate N none).set i (some (.ref ea))) (upd H tp (.tup [.ref C1, .ref C2]))))
def tTry2 (K : PySem.W.Frag) (C0 C1 C2 : Addr) (N i : Nat) (tb : XK → TS) (t0 ts : Addr → Obj → TS) : TS := fun D σ H => tb (Esu2 K C0 C1 C2 N i t0 ts D) D σ H
end L2

end
section
set_option maxHeartbeats 4000000
namespace L2
open PySem PySem.Spec PyProof.Rows
/-! ### a set's table: what is in it is found again -/
def advM (M : Nat) (p : SetTable.Probe) : SetTable.Probe := (tabM M 0 false []).advance p
def startM (M : Nat) (h : Int) : SetTable.Probe := (tabM M 0 false []).probeStart h
/-- from p one comes to the place j over filled places -/
inductive WayT (M : Nat) (F : Nat → Prop) : SetTable.Probe → Nat → Prop
  | here (p : SetTable.Probe) : WayT M F p p.j
  | next (p : SetTable.Probe) (j : Nat) (h : F p.j) (w : WayT M F (advM M p) j) : WayT M F p j
section
variable {M mv n : Nat} {led : Bool} {l : List Nat}
end
/-! laid anew -/
abbrev Fil (owner : Array (Option Nat)) (j : Nat) : Prop := owner.getD j none ≠ none
def prb (M i p : Nat) : SetTable.Probe := ⟨i, SetTable.runEnd M i - i, i, p, none⟩
/-- each of the laid ones is found from its own start -/
def OwnW (owner : Array (Option Nat)) (hs : List Int) : Prop := ∀ j k, owner.getD j none = some k → ∃ x, hs[k]? = some x ∧ WayT 31 (Fil owner) (startM 31 x) j
end L2

end
section
set_option maxHeartbeats 4000000
namespace L2
open PySem PySem.Spec PyProof.Rows
section
variable {prog : Program} {w : World} {A : Around} {E : Value → Shared → Prop} {s : Shared}
end
/-- the set at S holds the pairs ds, each is found again -/
def SetW (prog : Program) (w : World) (h : Heap) (S : Addr) (led : Bool) (ds : List (C2 × Addr)) : Prop :=
  ∃ (es : Array (Int × Value)) (ep M mv : Nat) (l : List Nat), h.get? S = some (setO es ep (tabM M mv led l)) ∧ TOk M ds.length l ∧ ds.length * 5 < M * 3 ∧ es.toList = ds.map (entP prog w) ∧ ∀ pr ∈ ds.zip l, WayT M (· ∈ l) (startM M (hP prog w pr.1.1)) pr.2
section
variable {prog : Program} {w : World} {A : Around} {E : Value → Shared → Prop} {s : Shared}
end
end L2

end
section
set_option maxHeartbeats 4000000
namespace L2
open PySem PySem.Spec PyProof.Rows
/-- ds: what is in ps, each but once -/
structure Ddp (ds ps : List (C2 × Addr)) : Prop where
  nd : (ds.map (·.1)).Nodup
  sub : ∀ d ∈ ds, d ∈ ps
  all : ∀ d ∈ ps, d.1 ∈ ds.map (·.1)
section
variable {prog : Program} {w : World} {A : Around} {R : Result → Shared → Prop} {I : Addr} {fp wr : List Addr} {G : Array GenState → Array GenState → Prop} {n : Nat} {P : Nat → Value → Prop} {St : Nat → Shared → Prop}
end
section
variable {prog : Program} {w : World} {A : Around} {E : Value → Shared → Prop} {s : Shared}
end
section
variable {X : Cx} {e : Expr} {te : TE} {p p' pos pos' : Pos}
def tSortedSetD (K : PySem.W.Frag) (te : TE) : TE := fun σ H Q => te σ H fun v H1 => ∃ (a : Addr) (xs : List V) (cs : List C2), v = .ref a ∧ SqL K H1 a xs ∧ Prs K H1 xs cs ∧ cs.length ≤ 18 ∧
  ∀ (xs' : List V) (cs' : List C2) (l : Addr), Prs K H1 xs' cs' → cs'.Nodup → (∀ c, c ∈ cs' ↔ c ∈ cs) → Rising cs' → H1 l = none → Q (.ref l) (upd H1 l (.lst xs'))
end
end L2

end
section
set_option maxHeartbeats 4000000
namespace L2
open PySem PySem.Spec PyProof.Rows
section
variable {X : Cx} {CX : CXT} {k : Nat} {f C : Addr} {fd : FuncData} {ps : List Str} {sp : Sp} {E : XK}
/-- a def's run one step further in -/
theorem run_in1 {pins : List (Addr × Obj)} {σ : St} {H : Hp} {s : Shared} {Q : VK} {us : List Value} {vs : List V} (F : FnOk X.prog X.w X.K X.mg X.base CX k f fd ps sp) (hr : Room k X.A.in1) (hb : Binds X.K fd ps []) (hx : Passes CX X E)
    (I : Inv X pins σ H s) (r : Vals vs us) (h : sp vs H Q E) : wpAny (model X.prog X.w) X.A.in1 (call (.ref f) us) (EP X pins σ Q) X.xe s := by
  have hl : (us ++ []).length = ps.length := by rw [List.append_nil, ← r.length]; exact F.len _ _ _ _ h
  refine wpAny_call (codeAny_mono (F.run X.A.in1 X.stack s H ⟨us, []⟩ us vs Q E hr I.env0.in1 (by have := hb s us I.kIn hl; rwa [List.append_nil] at this) r h) fun r s' hq => ?_)
  cases r with
  | error e => exact hx pins σ H s e s' I hq
  | ok fl =>
    cases fl with
    | ret u => exact I.after hq
    | next => exact False.elim hq
    | brk => exact False.elim hq
    | cont => exact False.elim hq
theorem run_in2 {pins : List (Addr × Obj)} {σ : St} {H : Hp} {s : Shared} {Q : VK} {us : List Value} {vs : List V} (F : FnOk X.prog X.w X.K X.mg X.base CX k f fd ps sp) (hr : Room k X.A.in1.in1) (hb : Binds X.K fd ps []) (hx : Passes CX X E)
    (I : Inv X pins σ H s) (r : Vals vs us) (h : sp vs H Q E) : wpAny (model X.prog X.w) X.A.in1.in1 (call (.ref f) us) (EP X pins σ Q) X.xe s := by
  have hl : (us ++ []).length = ps.length := by rw [List.append_nil, ← r.length]; exact F.len _ _ _ _ h
  refine wpAny_call (codeAny_mono (F.run X.A.in1.in1 X.stack s H ⟨us, []⟩ us vs Q E hr I.env0.in1.in1 (by have := hb s us I.kIn hl; rwa [List.append_nil] at this) r h) fun r s' hq => ?_)
  cases r with
  | error e => exact hx pins σ H s e s' I hq
  | ok fl =>
    cases fl with
    | ret u => exact I.after hq
    | next => exact False.elim hq
    | brk => exact False.elim hq
    | cont => exact False.elim hq
/-! ### repr and str of an own thing -/
theorem call_reprO (hq : Meth X.K C "__repr__" f) (F : FnOk X.prog X.w X.K X.mg X.base CX k f fd ps sp) (hr : Room (k + 1) X.A) (hb : Binds X.K fd ps []) (hx : Passes CX X E) :
    CallR X (.builtin "repr") (fun xs H Q => ∃ a dx fs, xs = [.ref a] ∧ H a = some (.ins C dx fs) ∧ sp [.ref a] H (fun v H2 => ∃ z, v = .str z ∧ Q (.str z) H2) E) := by
  intro pins s σ H xs us Q I r h
  obtain ⟨a, dx, fs, rfl, ha, h⟩ := h
  cases r with
  | cons r1 rr =>
    cases rr
    cases r1
    obtain ⟨m, fr⟩ := I.fr
    obtain ⟨mA, O, _⟩ := ins_get I.hok ha
    obtain ⟨od, J, _⟩ := O.look
    refine PySem.W.repr_K (by have := hr.in1.units; omega) fr I.ok.mod.kin J hq.at_ hq.fn ?_
    refine thn (run_in1 (us := [.ref a]) (vs := [.ref a]) F hr.in1 hb hx I (.cons rfl .nil) h) fun w' s' z => ?_
    obtain ⟨v, H2, I2, rv, zb, ev, q⟩ := z
    subst ev
    obtain ⟨t, rfl⟩ := rv
    exact ⟨.str zb, H2, I2, ⟨_, rfl⟩, q⟩
theorem call_strO (hq : Meth X.K C "__str__" f) (F : FnOk X.prog X.w X.K X.mg X.base CX k f fd ps sp) (hr : Room (k + 2) X.A) (hb : Binds X.K fd ps []) (hx : Passes CX X E) :
    CallR X (.type "str") (fun xs H Q => ∃ a dx fs, xs = [.ref a] ∧ H a = some (.ins C dx fs) ∧ sp [.ref a] H (fun v H2 => ∃ z, v = .str z ∧ Q (.str z) H2) E) := by
  intro pins s σ H xs us Q I r h
  obtain ⟨a, dx, fs, rfl, ha, h⟩ := h
  cases r with
  | cons r1 rr =>
    cases rr
    cases r1
    obtain ⟨mA, O, _⟩ := ins_get I.hok ha
    obtain ⟨od, J, _⟩ := O.look
    refine PySem.W.kso_call (by have := hr.in1.in1.units; omega) I.kIn J hq.at_ hq.fn ?_
    refine thn (run_in2 (us := [.ref a]) (vs := [.ref a]) F hr.in1.in1 hb hx I (.cons rfl .nil) h) fun w' s' z => ?_
    obtain ⟨v, H2, I2, rv, zb, ev, q⟩ := z
    subst ev
    obtain ⟨t, rfl⟩ := rv
    exact ⟨.str zb, H2, I2, ⟨_, rfl⟩, q⟩
/-! ### repr of data -/
theorem call_reprD (hg : X.A.guards = some []) (hu : X.A.units + 64 < cLine) :
    CallR X (.builtin "repr") (fun xs H Q => ∃ a d, xs = [.ref a] ∧ Dp X.K H (.ref a) d ∧ d.showable = true ∧ d.hasDict = false ∧ d.depth ≤ 60 ∧ d.shown.length ≤ sizeLine ∧ Q (.str d.shown) H) := by
  intro pins s σ H xs us Q I r h
  obtain ⟨a, d, rfl, hd, hs, hn, h60, hsz, q⟩ := h
  cases r with
  | cons r1 rr =>
    cases rr
    obtain ⟨as, rd⟩ := Dp.reads I _ _ _ hd r1
    cases r1
    exact repr_of_reads' rd hs (PyData.noDict_hsm hn) hg (by omega) (fun b o e => e) (fun h' u tk hk => ⟨.str _, H, I.kept hk, ⟨_, rfl⟩, q⟩) hsz
def tFmtR (K : PySem.W.Frag) (te : TE) : TE := fun σ H Q => te σ H fun v H1 => ∃ a d, v = .ref a ∧ Dp K H1 (.ref a) d ∧ d.showable = true ∧ d.hasDict = false ∧ d.depth ≤ 60 ∧ d.shown.length ≤ sizeLine ∧ Q (.str d.shown) H1
/-- a part {e!r} of an f-string, e data -/
theorem pe_fmtR {e : Expr} {te : TE} {pos : Pos} (hg : X.A.guards = some []) (hu : X.A.units + 64 < cLine) (he : PE X e te) : PE X (.FormattedValue e 114 none pos) (tFmtR X.K te) := by
  intro pins s σ H Q I h
  refine wpAny_FormattedValue_repr (thn (he pins s σ H _ I h) fun u s1 ⟨v, H1, I1, r, a, d, ev, hd, hs, hn, h60, hsz, q⟩ => ?_)
  subst ev
  obtain ⟨as, rd⟩ := Dp.reads I1 _ _ _ hd r
  cases r
  refine pyReprObj_of_reads rd hs (PyData.noDict_hsm hn) hg (by omega) (fun b o e => e) (fun h' u tk hk => ?_) hsz
  have I2 := I1.kept (t' := tk) hk
  exact wpAny_formatField_str ⟨.str _, H1, I2, ⟨_, rfl⟩, q⟩ ⟨.str _, H1, I2.tok _, ⟨_, rfl⟩, q⟩ hsz
/-! ### a == anything, a != b, a in [b] -/
/-- a == b, a of a class whose __eq__ is a def of the text, b of another type -/
def rEqX (K : PySem.W.Frag) (C : Addr) (sp : Sp) (E : XK) : R2 := fun x y H Q => ∃ a dx fs, x = .ref a ∧ H a = some (.ins C dx fs) ∧ (∃ t, TyOf K H y t ∧ (∀ a, t ≠ .ref a) ∧ PySem.W.notFirst K C t = true) ∧ sp [.ref a, y] H (fun v H2 => ∃ z, v = .bl z ∧ Q (.bl z) H2) E
theorem ty_looks {pins : List (Addr × Obj)} {σ : St} {H : Hp} {s : Shared} {y : V} {u t : Value} (I : Inv X pins σ H s) (r : RelV y u) (ty : TyOf X.K H y t) (na : ∀ a, t ≠ .ref a) : PySem.W.Looks (model X.prog X.w) s.heap (typeOf u) t := by
  have ob : ∀ {a : Addr} {o : Obj} {T : String}, s.heap.get? a = some o → o.cls = .type T → PySem.W.Looks (model X.prog X.w) s.heap (typeOf (.ref a)) (.type T) := fun {a o T} e1 e2 A Q E s' k q => by
    rw [← e2] at q
    exact wpAny_typeOf_ref (k _ _ e1) q
  cases ty with
  | non => cases (show u = Value.none from r); exact .of_pure rfl
  | bl b => cases (show u = Value.bool b from r); exact .of_pure rfl
  | int i => obtain ⟨t, z⟩ := (show ∃ t, u = Value.int i t from r); cases z; exact .of_pure rfl
  | str y => obtain ⟨t, z⟩ := (show ∃ t, u = Value.str y t from r); cases z; exact .of_pure rfl
  | flt y => obtain ⟨t, z⟩ := (show ∃ t, u = Value.float y t from r); cases z; exact .of_pure rfl
  | @lst a xs ea =>
    cases (show u = Value.ref a from r)
    obtain ⟨_, _, n2, _, h1⟩ := (show ObjOk X.prog X.w H s.heap a (.lst xs) from I.hok a _ ea)
    exact ob h1 rfl
  | @frz a o2 xs ea =>
    cases (show u = Value.ref a from r)
    obtain ⟨_, _, _, n2, _, h1⟩ := (show ObjOk X.prog X.w H s.heap a (.frz o2 (.lst xs)) from I.hok a _ ea)
    exact ob h1 rfl
  | @tup a xs ea =>
    cases (show u = Value.ref a from r)
    obtain ⟨_, _, _, p⟩ := (show ObjOk X.prog X.w H s.heap a (.tup xs) from I.hok a _ ea)
    obtain ⟨o2, h1, h2, _⟩ := p
    exact ob h1 h2
  | @dK a kvs ea =>
    cases (show u = Value.ref a from r)
    obtain ⟨_, _, vs, _, p⟩ := (show ObjOk X.prog X.w H s.heap a (.dK kvs) from I.hok a _ ea)
    obtain ⟨o2, es, ep, h1, h2, _⟩ := p
    exact ob h1 h2.1
  | @dT a kvs ea =>
    cases (show u = Value.ref a from r)
    obtain ⟨_, _, xs, _, o2, es, ep, h1, h2, _⟩ := (show ObjOk X.prog X.w H s.heap a (.dT kvs) from I.hok a _ ea)
    exact ob h1 h2.1
  | @ins a C dx fs ea cl ha hn htk hm => exact absurd rfl (na C)
theorem op_eqX (hq : Meth X.K C "__eq__" f) (F : FnOk X.prog X.w X.K X.mg X.base CX k f fd ps sp) (hr : Room k X.A) (hb : Binds X.K fd ps []) (hx : Passes CX X E) : OpR X (compareOp .Eq) (rEqX X.K C sp E) := by
  intro pins s σ H x y v u Q I rx ry h
  obtain ⟨a, dx, fs, rfl, ha, ⟨t, ty, na, nf⟩, h⟩ := h
  cases rx
  obtain ⟨m, fr⟩ := I.fr
  obtain ⟨mA, O, _⟩ := ins_get I.hok ha
  obtain ⟨od, J, _⟩ := O.look
  refine PySem.W.cmp_ofEq (PySem.W.cmp_K (op := .Eq) (by have := hr.units; omega) fr I.ok.mod.kin J (ty_looks I ry ty na) nf hq.at_ hq.fn ?_)
  refine thn (run_fn (us := [.ref a, u]) (vs := [.ref a, y]) (ds := []) (dvs := []) F hr hb .nil hx I (.cons rfl (.cons ry .nil)) h) fun w' s' z => ?_
  obtain ⟨v, H2, I2, rv, zb, ev, q⟩ := z
  subst ev
  cases rv
  exact ⟨.bl zb, H2, I2, rfl, q⟩
open Builtin in
/-- object.__ne__ of an own thing: not what __eq__ tells -/
theorem objNe_own {s : Shared} {a b : Addr} {ox : Obj} {od : Option Obj} {A : Around} {Ex Q : Value → Shared → Prop} (hu : A.in1.units < cLine) (X0 : X.K.In s.heap) (J : PySem.W.InstAt s.heap a ox C od) (hs : PySem.W.findIn X.K (.ref C) "__eq__" = some (some (.ref f))) (hf : PySem.W.isFn X.K (.ref f) = true)
    (hm : PySem.W.mroIn X.K C (.type "object") = some true) (h : wpAny (model X.prog X.w) A.in1 (call (.ref f) [.ref a, .ref b]) (fun v s' => ∃ z, v = .bool z ∧ Q (.bool (!z)) s') Ex s) :
    wpAny (model X.prog X.w) A (call (.builtin "object.__ne__") [.ref a, .ref b]) Q Ex s := by
  refine wpAny_call (codeAny_call_builtin PySem.F.cmp_object.ne.plain PySem.F.cmpEntry_ne (PySem.W.check_slot (i := "object.__ne__") (owner := "object") (n := "__ne__") PySem.F.cmpKind_ne PySem.F.cmpSplit_ne (J.type.andThen (PySem.W.looks_mroIn X0 hm)) (PySem.F.cmpArgs_ne _ _) ?_))
  unfold Builtin.«object.__ne__»
  refine wpAny_bind (m := slotArgs "__ne__" 1 _) (wpAny_pure ?_)
  refine wpAny_bind (m := cRoomFor _ _) (wpAny_cRoomFor hu ?_)
  refine wpAny_bind (m := callSpecialIfBound? (.ref a) (Str.ofString "__eq__") [.ref b]) (PySem.W.ifBound_K X0 J hs hf (wpAny_mono h (fun r s' hq => ?_) fun _ _ y => y))
  obtain ⟨z, rfl, q⟩ := hq
  exact wpAny_bind (wpAny_truthy_bool (wpAny_pure q))
/-- a special method that is a built-in's slot, bound to an own thing -/
theorem ifB_own {s : Shared} {a : Addr} {ox : Obj} {od : Option Obj} {A : Around} {Ex : Value → Shared → Prop} {Q : Option Value → Shared → Prop} {name : Str} {id : String} {args : List Value} (X0 : X.K.In s.heap) (J : PySem.W.InstAt s.heap a ox C od)
    (hs : PySem.W.findIn X.K (.ref C) name = some (some (.builtin id))) (hb : ∀ self, bindSpecial (.builtin id) self = pure (.builtin id, [self]))
    (h : wpAny (model X.prog X.w) A (call (.builtin id) (.ref a :: args)) (fun v => Q (some v)) Ex s) : wpAny (model X.prog X.w) A (callSpecialIfBound? (.ref a) name args) Q Ex s := by
  have last : wpAny (model X.prog X.w) A (do let v ← call (.builtin id) ([.ref a] ++ args); pure (some v)) Q Ex s := wpAny_bind (wpAny_mono h (fun _ _ z => wpAny_pure z) fun _ _ z => z)
  have got : PySem.W.Looks (model X.prog X.w) s.heap (bindSpecial (.builtin id) (.ref a)) (.builtin id, [.ref a]) := .of_pure (hb _)
  unfold callSpecialIfBound? bindSpecialIfBound?
  apply wpAny_holding
  apply wpAny_bind
  apply wpAny_bind
  apply wpAny_bind
  refine J.type.here ?_
  refine (PySem.W.looks_findIn X0 hs).here ?_
  dsimp only
  apply wpAny_bind
  apply wpAny_askSetting
  apply wpAny_ite
  split
  · exact wpAny_bind (got.here (wpAny_pure last))
  · exact wpAny_tryCatch (wpAny_bind (got.here (wpAny_pure last)))
def rNeO (C : Addr) (sp : Sp) (E : XK) : R2 := fun x y H Q => ∃ a b dx fs dx' fs', x = .ref a ∧ y = .ref b ∧ H a = some (.ins C dx fs) ∧ H b = some (.ins C dx' fs') ∧ sp [.ref a, .ref b] H (fun v H2 => ∃ z, v = .bl z ∧ Q (.bl (!z)) H2) E
/-- a != b, both of a class with an own __eq__ and object's __ne__ -/
theorem op_neO (hq : Meth X.K C "__eq__" f) (hn : PySem.W.findIn X.K (.ref C) "__ne__" = some (some (.builtin "object.__ne__"))) (hm : PySem.W.mroIn X.K C (.type "object") = some true)
    (F : FnOk X.prog X.w X.K X.mg X.base CX k f fd ps sp) (hr : Room (k + 1) X.A) (hb : Binds X.K fd ps []) (hx : Passes CX X E) : OpR X (compareOp .NotEq) (rNeO C sp E) := by
  intro pins s σ H x y v u Q I rx ry h
  obtain ⟨a, b, dx, fs, dx', fs', rfl, rfl, ha, hbb, h⟩ := h
  cases rx
  cases ry
  obtain ⟨mA, O, _⟩ := ins_get I.hok ha
  obtain ⟨od, J, _⟩ := O.look
  obtain ⟨mB, O2, _⟩ := ins_get I.hok hbb
  obtain ⟨od2, J2, _⟩ := O2.look
  have r1 := hr.in1
  have hu := hr.units
  have hu1 := r1.units
  have one : wpAny (model X.prog X.w) X.A (tryCompare (.ref a) "__ne__" (.ref b)) (fun r s' => ∃ v, r = some v ∧ EP X pins σ Q v s') X.xe s := by
    unfold tryCompare
    refine wpAny_bind (ifB_own I.kIn J hn PySem.F.cmp_object.ne.bind (objNe_own (by omega) I.kIn J hq.at_ (beq_iff_eq.mpr (beq_iff_eq.mp hq.fn)) hm ?_))
    refine thn (run_in1 (us := [.ref a, .ref b]) (vs := [.ref a, .ref b]) F r1 hb hx I (.cons rfl (.cons rfl .nil)) h) fun w' s' z => ?_
    obtain ⟨v, H2, I2, rv, zb, ev, q⟩ := z
    subst ev
    cases rv
    exact ⟨zb, rfl, wpAny_pure ⟨_, rfl, .bl (!zb), H2, I2, rfl, q⟩⟩
  refine PySem.W.cmp_ofNotEq ?_
  unfold richCompare
  simp only [oneThing_ref]
  apply wpAny_holding
  refine wpAny_bind (wpAny_cRoomFor (by omega) ?_)
  rw [cmpInfo_NotEq]
  dsimp only
  refine wpAny_bind (J.type.here ?_)
  refine wpAny_bind (J2.type.here ?_)
  rw [if_neg (by simp)]
  refine wpAny_bind (wpAny_pure ?_)
  rw [if_neg (by simp)]
  refine wpAny_bind (wpAny_mono one (fun r s' z => ?_) fun _ _ e => e)
  obtain ⟨v, rfl, hq⟩ := z
  exact wpAny_pure hq
end
section
variable {X : Cx} {CX : CXT} {k : Nat} {f C : Addr} {fd : FuncData} {ps : List Str} {sp : Sp} {E : XK}
open AutoSeq1 (wpAny_loadPart') in
/-- the walk of `in` through a list of one thing -/
theorem has_one {P : Program} {w : World} {l : Addr} {y x : Value} {n : Nat} {A : Around} {R : Result → Shared → Prop} {s : Shared} {its : Array Value} (e0 : its[0]? = some y) (e1 : its[1]? = none) (hl : s.heap.get? l = some { cls := .type "list", dict := none, data := .seq its n, slots := #[] })
    (h : wpAny (model P w) A.in1 (eqBool y x) (fun b s' => (∃ n', s'.heap.get? l = some { cls := .type "list", dict := none, data := .seq its n', slots := #[] }) ∧ R (.ok (.ret (.bool b))) s') (fun e s' => R (.error e) s') s) :
    codeAny (model P w) A (.builtin "list.__contains__.loop" ⟨[.ref l, x, rawInt 0], []⟩) R s := by
  refine codeAny_builtin PySem.MeetsSeq.entry_contains_loop ?_
  rw [Around.under_plainId PySem.MeetsSeq.plain_contains_loop _]
  obtain ⟨hp, g, d, tk, os⟩ := s
  wp_walk using wpAny_loadPart' hl
  rw [show its[(0 : Int).toNat]? = some y from e0]
  refine wpAny_bind (wpAny_mono h (fun b s' z => ?_) fun _ _ z => z)
  obtain ⟨⟨n', hl'⟩, z⟩ := z
  obtain ⟨hp', g', d', tk', os'⟩ := s'
  cases b with
  | true =>
    wp_walk
    exact z
  | false =>
    wp_walk
    refine ⟨plainId_quiet PySem.MeetsSeq.plain_contains_loop _, codeAny_builtin PySem.MeetsSeq.entry_contains_loop ?_⟩
    rw [Around.under_plainId PySem.MeetsSeq.plain_contains_loop _]
    wp_walk using wpAny_loadPart' hl'
    rw [show its[((0 : Int) + 1).toNat]? = none from e1]
    wp_walk
    exact z
theorem meets_one {P : Program} {w : World} {l : Addr} {y x : Value} {n : Nat} : MeetsIn P w (Builtin.«list.__contains__» ⟨[.ref l, x], []⟩) (fun A R s => s.heap.get? l = some { cls := .type "list", dict := none, data := .seq #[y] n, slots := #[] } ∧
    wpAny (model P w) A.in1 (eqBool y x) (fun b s' => (∃ n', s'.heap.get? l = some { cls := .type "list", dict := none, data := .seq #[y] n', slots := #[] }) ∧ R (.ok (.ret (.bool b))) s') (fun e s' => R (.error e) s') s) := by
  intro A R s h
  obtain ⟨hl, h⟩ := h
  have q := has_one (P := P) (w := w) (its := #[y]) rfl rfl hl h
  obtain ⟨hp, g, d, tk, os⟩ := s
  wp_walk using PySem.AutoSeq1.wpAny_loadPart' hl
  exact ⟨plainId_quiet PySem.MeetsSeq.plain_contains_loop _, q⟩
def rInO (C : Addr) (sp : Sp) (E : XK) : R2 := fun x y H Q => ∃ a b l dx fs dx' fs', x = .ref a ∧ y = .ref l ∧ H l = some (.lst [.ref b]) ∧ a ≠ b ∧ H a = some (.ins C dx fs) ∧ H b = some (.ins C dx' fs') ∧ sp [.ref b, .ref a] H (fun v H2 => ∃ z, v = .bl z ∧ H2 l = some (.lst [.ref b]) ∧ Q (.bl z) H2) E
/-- a in [b], both of a class with an own __eq__ -/
theorem op_inO (hq : Meth X.K C "__eq__" f) (F : FnOk X.prog X.w X.K X.mg X.base CX k f fd ps sp) (hr : Room (k + 1) X.A) (hb : Binds X.K fd ps []) (hx : Passes CX X E) : OpR X (compareOp .In) (rInO C sp E) := by
  intro pins s σ H x y v u Q I rx ry h
  obtain ⟨a, b, l, dx, fs, dx', fs', rfl, rfl, hl, nab, ha, hbb, h⟩ := h
  cases rx
  cases ry
  obtain ⟨m, fr⟩ := I.fr
  obtain ⟨mA, O, _⟩ := ins_get I.hok ha
  obtain ⟨od, J, _⟩ := O.look
  obtain ⟨mB, O2, _⟩ := ins_get I.hok hbb
  obtain ⟨od2, J2, _⟩ := O2.look
  have one : ∀ {h' : Heap} {p : Addr} {H' : Hp} {s' : Shared}, Inv X pins σ H' s' → H' l = some (.lst [.ref b]) → ∃ n, s'.heap.get? l = some { cls := .type "list", dict := none, data := .seq #[Value.ref b] n, slots := #[] } := fun {_ _ H' s'} I' e => by
    obtain ⟨its, n, r, e1, _⟩ := I'.lst e
    cases r with
    | cons r1 rr =>
      cases rr
      cases r1
      exact ⟨n, e1⟩
  obtain ⟨n, el⟩ := one (h' := s.heap) (p := l) I hl
  have r1 := hr.in1
  have hu := hr.units
  refine wpAny_bind (PySem.wpAny_contains_slot ⟨_, el, rfl⟩ PySem.F.slot_list_contains (wpAny_mono (call_meetsIn PySem.F.slot_list_contains ⟨_, el, rfl⟩ PySem.F.entry_list_contains (PySem.F.args_list_contains_2 _ _) meets_one
    (Q := fun v s' => ∃ z, v = Value.bool z ∧ EP X pins σ Q (.bool z) s') ⟨el, ?_⟩) (fun v s' z => ?_) fun _ _ z => z))
  · unfold eqBool
    apply wpAny_holding
    refine wpAny_ite_split (fun hab => absurd (by have := eq_of_beq hab; injection this) (Ne.symm nab)) (fun _ => ?_)
    refine wpAny_bind (PySem.W.cmp_K (op := .Eq) (by have := r1.units; omega) fr I.ok.mod.kin J2 J.type (by unfold PySem.W.notFirst; simp) hq.at_ hq.fn ?_)
    refine thn (run_in1 (us := [.ref b, .ref a]) (vs := [.ref b, .ref a]) F r1 hb hx I (.cons rfl (.cons rfl .nil)) h) fun w' s' z => ?_
    obtain ⟨v, H2, I2, rv, zb, ev, el2, q⟩ := z
    subst ev
    cases rv
    exact wpAny_truthy_bool ⟨one (h' := s'.heap) (p := l) I2 el2, zb, rfl, .bl zb, H2, I2, rfl, q⟩
  · obtain ⟨zb, rfl, q⟩ := z
    exact wpAny_truthy_bool (wpAny_pure q)
end
end L2

end
section
set_option maxHeartbeats 4000000
namespace L2
open PySem PySem.Spec PyProof.Rows
section
variable {X : Cx} {CX : CXT} {k : Nat} {f C : Addr} {fd : FuncData} {ps ks : List Str} {sp : Sp} {E : XK} {x m : Str} {p pos apos kpos : Pos} {kws : List Keyword} {tk : TA}
variable {g : List Value → List Value → List Value} {gV : List V → List V → List V}
/-- C(k = v, ..), C of the text: its __init__ gets the new thing and the keywords -/
def tMakeK (C : Addr) (sp : Sp) (gV : List V → List V → List V) (E : XK) (tk : TA) : TE := fun σ H Q => tk σ H fun zs H1 =>
  ∀ x dx, H1 x = none → H1 dx = none → dx ≠ x → sp (gV [.ref x] zs) (upd (upd H1 dx (.own x)) x (.ins C dx [])) (fun v H2 => v = .non ∧ Q (.ref x) H2) E
theorem run_makeK {pins : List (Addr × Obj)} {σ : St} {H : Hp} {s : Shared} {Q : VK} {ws : List Value} {zs : List V} (M : Mk X.K C f) (F : FnOk X.prog X.w X.K X.mg X.base CX k f fd ps sp) (hr : Room (k + 1) X.A) (hb : KBinds X.K fd ps ks g gV)
    (hx : Passes CX X E) (I : Inv X pins σ H s) (rz : Vals zs ws)
    (h : ∀ x dx, H x = none → H dx = none → dx ≠ x → sp (gV [.ref x] zs) (upd (upd H dx (.own x)) x (.ins C dx [])) (fun v H2 => v = .non ∧ Q (.ref x) H2) E) :
    wpAny (model X.prog X.w) X.A (call (.ref C) [] (ks.zip ws)) (EP X pins σ Q) X.xe s := by
  have hq := h (s.heap.objs.size + 1) s.heap.objs.size (I.hok.fresh (Nat.le_succ _)) (I.hok.fresh (Nat.le_refl _)) (Nat.ne_of_lt (Nat.lt_succ_self _))
  have I2 := Inv.made (C := C) I
  have r2 := hb.rel (vs := [V.ref (s.heap.objs.size + 1)]) (us := [Value.ref (s.heap.objs.size + 1)]) (.cons rfl .nil) rz
  have hl : (g [Value.ref (s.heap.objs.size + 1)] ws).length = ps.length := by
    have e := r2.length
    rw [F.len _ _ _ _ hq] at e
    exact e.symm
  refine wpAny_call (make_map (f := f) I.kIn M.makes M.init (beq_iff_eq.mp M.fn) (codeAny_mono (F.run _ X.stack _ _ ⟨[Value.ref (s.heap.objs.size + 1)], ks.zip ws⟩ _ _ _ E (hr.make C [] (ks.zip ws))
    (I2.env0.make C [] (ks.zip ws)) (hb.to _ [Value.ref (s.heap.objs.size + 1)] ws I2.kIn hl) r2 hq) fun r s' hq' => ?_))
  cases r with
  | error e => exact hx pins σ _ _ e s' I2 hq'
  | ok fl =>
    cases fl with
    | ret u =>
      obtain ⟨v, H', I3, rv, ev, q3⟩ := I2.after hq'
      subst ev
      exact ⟨rv, ⟨V.ref (s.heap.objs.size + 1), H', I3, rfl, q3⟩⟩
    | next => exact False.elim hq'
    | brk => exact False.elim hq'
    | cont => exact False.elim hq'
theorem pe_makeK0 (M : Mk X.K C f) (F : FnOk X.prog X.w X.K X.mg X.base CX k f fd ps sp) (hr : Room (k + 1) X.A) (hg : Gl X x) (hm : X.mg x = some (.ref C)) (hb : KBinds X.K fd ps ks g gV) (hx : Passes CX X E)
    (hkw : PK X kws tk) (hall : (backToKw pos (keywordEach kws X.env)).all (·.1.isSome) = true := by rfl) (hks : (backToKw pos (keywordEach kws X.env)).filterMap (·.1) = ks := by rfl)
    (hdb : (x == ("__debug__" : Str)) = false := by decide)
    (hpl : ((backTo pos (starEach [] X.env)).any (·.1) || (backToKw pos (keywordEach kws X.env)).any (·.1.isNone)) = false := by rfl) :
    PE X (.Call (.Name x p) [] kws pos) (tMakeK C sp gV E tk) := by
  intro pins s σ H Q I h
  refine wpAny_Call_Name_kw (ld_glob I hg hm ?_ hdb)
  refine PySem.W.callWith_KW0 (h₀ := X.base) I.ok.mod.kin M.kp hall (thn (hkw pos pins s σ H _ I h) fun ws s2 ⟨zs, H2, I2, rz, q2⟩ => ⟨I2.kIn, ?_⟩) hpl
  rw [hks]
  exact run_makeK M F hr hb hx I2 rz q2
end
end L2

end
section
set_option maxHeartbeats 4000000
namespace Toy
open PySem L2
def top (i : Nat) : Stmt := PySem.Challenge.pw_upleaf_k10_cards_as_they_are_shown.main.body.getD i (.Pass ⟨0, 0, 0, 0⟩)
abbrev s__wall : Stmt := top 0
-- class CardError 2: []
-- class BadSize 3: []
abbrev s_BadStair_init : Stmt := inClass (top 4) 0
-- class BadStair 4: [(0, '__init__')]
-- class BadNumber 5: []
-- class NoColumn 6: []
-- class NoCell 7: []
-- class NoCorner 8: []
-- class NoEdge 9: []
-- class NotJoined 10: []
-- class NotSlit 11: []
-- class Unlike 12: []
-- class Wide 13: []
abbrev s_BadView_init : Stmt := inClass (top 14) 0
-- class BadView 14: [(0, '__init__')]
abbrev s_BadDrawing_init : Stmt := inClass (top 15) 0
-- class BadDrawing 15: [(0, '__init__')]
-- class NoPatch 16: []
-- class TooMany 17: []
-- class BadName 18: []
abbrev s_BadText_init : Stmt := inClass (top 19) 0
-- class BadText 19: [(0, '__init__')]
-- class RoomError 20: []
abbrev s_NoCard_init : Stmt := inClass (top 21) 0
-- class NoCard 21: [(0, '__init__')]
abbrev s_NoPlan_init : Stmt := inClass (top 22) 0
-- class NoPlan 22: [(0, '__init__')]
abbrev s_Taken_init : Stmt := inClass (top 23) 0
-- class Taken 23: [(0, '__init__')]
-- class SameCard 24: []
-- class Full 25: []
-- class NothingLeft 26: []
abbrev s_is_stair : Stmt := top 29
abbrev s_is_size : Stmt := top 30
abbrev s_check_stair : Stmt := top 31
abbrev s_sides : Stmt := top 32
abbrev s_checked_size : Stmt := top 33
abbrev s_plain : Stmt := top 34
abbrev s_cells_meet : Stmt := top 35
abbrev s_is_width : Stmt := top 38
abbrev s_check_width : Stmt := top 39
abbrev s_check_columns : Stmt := top 40
abbrev s_has_cell : Stmt := top 41
abbrev s_fall_together : Stmt := top 42
abbrev s_check_slits : Stmt := top 43
abbrev s_Card_init : Stmt := inClass (top 44) 0
abbrev s_Card_height : Stmt := inClass (top 44) 1
abbrev s_Card_depth : Stmt := inClass (top 44) 2
abbrev s_Card_cells : Stmt := inClass (top 44) 3
abbrev s_Card_stairs : Stmt := inClass (top 44) 4
abbrev s_Card_slits : Stmt := inClass (top 44) 5
abbrev s_Card_stair : Stmt := inClass (top 44) 6
abbrev s_Card_joined : Stmt := inClass (top 44) 7
abbrev s_Card_pushed : Stmt := inClass (top 44) 8
abbrev s_Card_slit : Stmt := inClass (top 44) 9
abbrev s_Card_glued : Stmt := inClass (top 44) 10
abbrev s_Card_mirrored : Stmt := inClass (top 44) 11
abbrev s_Card_turned : Stmt := inClass (top 44) 12
abbrev s_Card_beside : Stmt := inClass (top 44) 13
abbrev s_Card_parted : Stmt := inClass (top 44) 14
abbrev s_Card_eq : Stmt := inClass (top 44) 15
abbrev s_Card_len : Stmt := inClass (top 44) 16
abbrev s_Card_str : Stmt := inClass (top 44) 17
abbrev s_Card_repr : Stmt := inClass (top 44) 18
-- class Card 44: [(0, '__init__'), (1, 'height'), (2, 'depth'), (3, 'cells'), (4, 'stairs'), (5, 'slits'), (6, 'stair'), (7, 'joined'), (8, 'pushed'), (9, 'slit'), (10, 'glued'), (11, 'mirrored'), (12, 'turned'), (13, 'beside'), (14, 'parted'), (15, '__eq__'), (16, '__len__'), (17, '__str__'), (18, '__repr__')]
abbrev s__law_begin : Stmt := top 46
abbrev s__law_take : Stmt := top 47
abbrev s__law_of : Stmt := top 48
abbrev s__law_far : Stmt := top 49
abbrev s__law_same : Stmt := top 50
abbrev s__law_size : Stmt := top 51
abbrev s__law_stair : Stmt := top 52
abbrev s__law_sides : Stmt := top 53
abbrev s__law_column : Stmt := top 54
abbrev s__law_meets : Stmt := top 55
abbrev s__law_meeting : Stmt := top 56
abbrev s__law_stairs : Stmt := top 57
abbrev s__law_some_slits : Stmt := top 58
abbrev s__law_model : Stmt := top 59
abbrev s__law_card : Stmt := top 60
abbrev s__law_card_so : Stmt := top 61
abbrev s__law_text_of : Stmt := top 62
abbrev s__law_settled : Stmt := top 63
abbrev s__law_mirrored : Stmt := top 64
abbrev s__law_kind : Stmt := top 65
abbrev s__law_asked : Stmt := top 66
abbrev s__law_other : Stmt := top 67
abbrev s_law : Stmt := top 68
end Toy

end
section
set_option maxHeartbeats 4000000
namespace Toy
open PySem L2
section
variable {P : Program} {w : World} {K : PySem.W.Frag} {mg : Str → Option Value} {base : Heap}
theorem scTake : FnScope ["_law_draw", "_law_many", "_law_cell", "_law_digit", "_law_one"] ["_law_draw", "_law_many"] (defScope s__law_take) := ⟨rfl, rfl, rfl, by decide +kernel, rfl, by decide +kernel, by decide +kernel⟩
theorem ok_take {f : Addr} {fd : FuncData} (F : Fun K "_law_take" "_law_take" s__law_take f fd) (T : Blt mg) : FnOk P w K mg base CX0 1 f fd ["_law_draw", "_law_many"] spTake := by
  refine F.ok scTake (fun vs H Q E h => ?_) (fun cdv A outer s H vs Q E hr h => ?_)
  · obtain ⟨d, m, rfl, _⟩ := h
    rfl
  · obtain ⟨d, m, rfl, Dr, hm, hml, k⟩ := h
    have nd := scTake.nd
    refine ⟨_, pss_cut (ps_if (PW.pt (pw_and (pt_cmpR op_lt (pe_ix ix_list (pv 0) pe_int (fun _ _ => rfl)) (pv 1) (nomark _)) (pw_and1 (pt_cmpR op_lt (pe_ix ix_list (pv 0) pe_int (fun _ _ => rfl)) (pe_callB call_len_seq (by rfl) T.len PySem.boot_len (pa_cons (pe_ix ix_list (pv 0) pe_int (fun _ _ => rfl)) pa_nil)) (nomark _)))))
        (pss_cons (ps_set (i := 2) nd rfl (Or.inl rfl) (pe_ix ix_list (pe_ix ix_list (pv 0) pe_int (fun _ _ => rfl)) (pe_ix ix_list (pv 0) pe_int (fun _ _ => rfl)) (fun _ _ => rfl)))
        (pss_cons (ps_asg (pe_op op_add (pe_ix ix_list (pv 0) pe_int (fun _ _ => rfl)) pe_int) (pg_sub (pv 0) pe_int set_list))
        (pss_cons (ps_asg pe_int (pg_sub (pv 0) pe_int set_list))
        (pss_cut (ps_if (pt_cmpR op_ge (pv 2) (pe_op op_pow pe_int pe_int) (nomark _)) (pss_one (ps_asg (pv 2) (pg_sub (pv 0) pe_int set_list))) pss_nil)
        (pss_one (ps_asg (pe_op op_mod (pe_op op_add (pe_op op_add (pe_op op_mul (pe_ix ix_list (pv 0) pe_int (fun _ _ => rfl)) pe_int) (pe_op op_mul (pv 2) pe_int)) (pe_ix ix_list (pv 0) pe_int (fun _ _ => rfl))) pe_int) (pg_sub (pv 0) pe_int set_list))))))) pss_nil)
      (pss_cons (ps_if (pt_cmpR op_ge (pe_ix ix_list (pv 0) pe_int (fun _ _ => rfl)) (pv 1) (nomark _))
        (pss_cons (ps_set (i := 3) nd rfl (Or.inl rfl) (pe_op op_mod (pe_ix ix_list (pv 0) pe_int (fun _ _ => rfl)) (pv 1)))
        (pss_cons (ps_asg (pe_op op_fdivL (pe_ix ix_list (pv 0) pe_int (fun _ _ => rfl)) (pv 1)) (pg_sub (pv 0) pe_int set_list))
        (pss_one (ps_ret (pv 3))))) pss_nil)
      (pss_cons (ps_set (i := 4) nd rfl (Or.inl rfl) (pe_op op_mod (pe_op op_mul (pe_ix ix_list (pv 0) pe_int (fun _ _ => rfl)) (pe_ix ix_list (pv 0) pe_int (fun _ _ => rfl))) pe_int))
      (pss_cons (ps_asg (pe_op op_mod (pe_op op_add (pe_op op_add (pe_op op_mul (pv 4) pe_int) (pe_op op_mul (pe_ix ix_list (pv 0) pe_int (fun _ _ => rfl)) pe_int)) pe_int) pe_int) (pg_sub (pv 0) pe_int set_list))
      (pss_one (ps_ret (pe_op op_mod (pe_op op_fdiv (pe_ix ix_list (pv 0) pe_int (fun _ _ => rfl)) pe_int) (pv 1))))))), ?_⟩
    obtain ⟨l, ns, p, c, g, hd, hl, ne, hp0, hg0, hg1⟩ := Dr.ex
    refine ⟨fun σ2 H2 => ∃ (v : Option V) (p c g : Int), σ2 = [some (.ref d), some (.int m), v, none, none] ∧ But d H H2 ∧ H2 d = some (.lst [.ref l, .int p, .int c, .int g]) ∧ 0 ≤ p ∧ 0 ≤ g ∧ g < 2305843009213693951, ?_, ?_⟩
    · refine ⟨_, rfl, d, _, 2, _, rfl, rfl, SqL.of hd, rfl, _, rfl, _, _, rfl, rfl, _, rfl, ?_⟩
      refine ite2 (fun _ => ?_) (fun _ => ?_)
      · refine ⟨_, rfl, d, _, 1, _, rfl, rfl, SqL.of hd, rfl, _, rfl, d, _, 0, _, rfl, rfl, SqL.of hd, rfl, l, _, rfl, .inl (SqL.of hl), _, _, rfl, rfl, _, rfl, ?_⟩
        refine ite2 (fun h2 => ?_) (fun _ => ?_)
        · have h2 := of_decide_eq_true h2
          rw [List.length_map] at h2
          have hlt : p.toNat < ns.length := by omega
          have hit : atI (ns.map V.int) p = some (V.int ns[p.toNat]) := at_of (j := p.toNat) (by omega) (by simp [hlt])
          refine ⟨_, rfl, d, _, 0, _, rfl, rfl, SqL.of hd, rfl, _, rfl, d, _, 1, _, rfl, rfl, SqL.of hd, rfl, l, _, p, _, rfl, rfl, SqL.of hl, hit, ?_⟩
          refine ⟨_, rfl, d, _, 1, _, rfl, rfl, SqL.of hd, rfl, _, _, rfl, rfl, _, rfl, d, _, 1, 1, rfl, rfl, hd, rfl, ?_⟩
          refine ⟨_, rfl, d, _, 2, 2, rfl, rfl, upd_same, rfl, ?_⟩
          refine ⟨fun σ2 H2 => ∃ (c : Int), σ2 = [some (.ref d), some (.int m), some (.int ns[p.toNat]), none, none] ∧ But d H H2 ∧ H2 d = some (.lst [.ref l, .int (p + 1), .int c, .int g]), ?_, ?_⟩
          · refine ⟨_, rfl, _, _, rfl, rfl, ⟨by decide, by decide, by decide⟩, _, _, rfl, rfl, _, rfl, ?_⟩
            refine ite2 (fun _ => ?_) (fun _ => ?_)
            · refine ⟨_, rfl, _, rfl, d, _, 2, 2, rfl, rfl, upd_same, rfl, ?_⟩
              exact ⟨ns[p.toNat], rfl, ((But.refl d H).put.put).put, upd_same⟩
            · exact ⟨0, rfl, (But.refl d H).put.put, upd_same⟩
          · rintro σ2 H2 ⟨c2, rfl, b2, e2⟩
            refine ⟨_, rfl, d, _, 3, _, rfl, rfl, SqL.of e2, rfl, _, _, rfl, rfl, .inl ⟨by omega, by omega⟩, _, rfl, _, _, rfl, rfl, .inr ⟨by decide, by decide⟩, _, _, rfl, rfl, _, rfl, d, _, 1, _, rfl, rfl, SqL.of e2, rfl, _, _, rfl, rfl, _, _, rfl, rfl, (by show (0 : Int) < 2305843009213693951; decide), ?_⟩
            refine ⟨_, rfl, d, _, 3, 3, rfl, rfl, e2, rfl, ?_⟩
            exact ⟨_, p + 1, c2, _, rfl, b2.put, upd_same, by omega, Int.emod_nonneg _ (by decide), Int.emod_lt_of_pos _ (by decide)⟩
        · exact ⟨none, p, c, g, rfl, But.refl d H, hd, hp0, hg0, hg1⟩
      · exact ⟨none, p, c, g, rfl, But.refl d H, hd, hp0, hg0, hg1⟩
    · rintro σ2 H2 ⟨v, p, c, g, rfl, b2, e2, hp0, hg0, hg1⟩
      have hl2 : H2 l = some (.lst (ns.map V.int)) := (b2 l ne).trans hl
      have hlU : ∀ {H3 : Hp} {o : HO}, H3 l = some (.lst (ns.map V.int)) → (upd H3 d o) l = some (.lst (ns.map V.int)) := fun h => by rw [upd_ne ne]; exact h
      refine ⟨_, rfl, d, _, 2, _, rfl, rfl, SqL.of e2, rfl, _, rfl, _, _, rfl, rfl, _, rfl, ?_⟩
      refine ite2 (fun _ => ?_) (fun _ => ?_)
      · refine ⟨_, rfl, d, _, 2, _, rfl, rfl, SqL.of e2, rfl, _, rfl, _, _, rfl, rfl, hm, ?_⟩
        refine ⟨_, rfl, d, _, 2, _, rfl, rfl, SqL.of e2, rfl, _, rfl, _, _, rfl, rfl, ⟨hm, hml⟩, _, rfl, d, _, 2, 2, rfl, rfl, e2, rfl, ?_⟩
        refine ⟨_, rfl, ?_⟩
        exact k _ _ (Int.emod_nonneg _ (by omega)) (Int.emod_lt_of_pos _ hm) ⟨l, ns, p, _, g, upd_same, hlU hl2, ne, hp0, hg0, hg1⟩ b2.put
      · refine ⟨_, rfl, d, _, 3, _, rfl, rfl, SqL.of e2, rfl, _, rfl, d, _, 3, _, rfl, rfl, SqL.of e2, rfl, _, _, rfl, rfl, .inl ⟨by omega, by omega⟩, _, _, rfl, rfl, (by show (0 : Int) < 2305843009213693951; decide), ?_⟩
        have m0 : 0 ≤ g * g % 2305843009213693951 := Int.emod_nonneg _ (by decide)
        have m1 : g * g % 2305843009213693951 < 2305843009213693951 := Int.emod_lt_of_pos _ (by decide)
        refine ⟨_, rfl, _, _, rfl, rfl, .inl ⟨by omega, by omega⟩, _, rfl, d, _, 3, _, rfl, rfl, SqL.of e2, rfl, _, _, rfl, rfl, .inl ⟨by omega, by omega⟩, _, _, rfl, rfl, _, _, rfl, rfl, _, _, rfl, rfl, (by show (0 : Int) < 2305843009213693951; decide), ?_⟩
        refine ⟨_, rfl, d, _, 3, 3, rfl, rfl, e2, rfl, ?_⟩
        refine ⟨_, rfl, d, _, 3, _, rfl, rfl, SqL.of upd_same, rfl, _, _, rfl, rfl, ⟨by decide, by decide⟩, _, rfl, _, _, rfl, rfl, hm, ?_⟩
        exact k _ _ (Int.emod_nonneg _ (by omega)) (Int.emod_lt_of_pos _ hm) ⟨l, ns, p, c, _, upd_same, hlU hl2, ne, hp0, Int.emod_nonneg _ (by decide), Int.emod_lt_of_pos _ (by decide)⟩ b2.put
theorem scBegin : FnScope ["_law_script"] ["_law_script"] (defScope s__law_begin) := ⟨rfl, rfl, rfl, by decide +kernel, rfl, by decide +kernel, by decide +kernel⟩
theorem ok_begin {f : Addr} {fd : FuncData} (F : Fun K "_law_begin" "_law_begin" s__law_begin f fd) (T : Blt mg) : FnOk P w K mg base CX0 1 f fd ["_law_script"] (spBegin K) := by
  refine F.ok scBegin (fun vs H Q E h => ?_) (fun cdv A outer s H vs Q E hr h => ?_)
  · obtain ⟨a, ns, rfl, _⟩ := h
    rfl
  · obtain ⟨a, ns, rfl, hS, hn, k⟩ := h
    refine ⟨_, pss_one (ps_ret (pe_lst (pa_cons (pe_callTy call_list_of (by rfl) T.list boot_list (pa_cons (pe_slice sl_list (pv 0) po_none (po_some pe_int)) pa_nil)) (pa_cons pe_int (pa_cons pe_int (pa_cons pe_int pa_nil)))))), ?_⟩
    refine ⟨_, rfl, _, rfl, a, _, rfl, hS, fun q hq => ?_⟩
    refine ⟨q, _, rfl, .inl (SqL.of upd_same), fun l hl => ?_⟩
    refine ⟨(by show 4 ≤ sizeLine; decide), fun d hd => ?_⟩
    have nql : q ≠ l := ne_of_none upd_same hl
    have nld : l ≠ d := ne_of_none upd_same hd
    have hHl : H l = none := by rw [← hl, upd_ne nql.symm]
    have hHd : H d = none := by
      have z := hd
      rw [upd_ne nld.symm] at z
      by_cases e : d = q
      · subst e; exact hq
      · rw [upd_ne e] at z; exact z
    obtain ⟨ns', ens⟩ : ∃ ns' : List Int, cutV (ns.map V.int) none (some 63) = ns'.map V.int := ⟨_, by unfold cutV; rw [← List.map_drop, ← List.map_take]⟩
    refine k d _ ⟨l, ns', 0, 0, 41, upd_same, ?_, nld, by decide, by decide, by decide⟩ fun b o e => ?_
    · rw [upd_ne nld, upd_same, ens]
    · rw [upd_ne (ne_of_none e hHd), upd_ne (ne_of_none e hHl), upd_ne (ne_of_none e hq)]
      exact e

end
end Toy

end
section
set_option maxHeartbeats 4000000
namespace Toy
open PySem L2
section
variable {P : Program} {w : World} {K : PySem.W.Frag} {mg : Str → Option Value} {base : Heap}
theorem scIsSize : FnScope ["height", "depth"] ["height", "depth"] (defScope s_is_size) := ⟨rfl, rfl, rfl, by decide +kernel, rfl, by decide +kernel, by decide +kernel⟩
def spIsSize : Sp := fun vs H Q _ => ∃ h d : Int, vs = [.int h, .int d] ∧ Q (.bl (decide (1 ≤ h ∧ h ≤ 8 ∧ 1 ≤ d ∧ d ≤ 8))) H
theorem ok_issize {f : Addr} {fd : FuncData} (F : Fun K "is_size" "is_size" s_is_size f fd) (hL : ∃ t, mg "LONGEST_SIDE" = some (.int 8 t)) : FnOk P w K mg base CX0 1 f fd ["height", "depth"] spIsSize := by
  refine F.ok scIsSize (fun vs H Q E h => ?_) (fun cdv A outer s H vs Q E hr h => ?_)
  · obtain ⟨a, b, rfl, _⟩ := h
    rfl
  · obtain ⟨h, d, rfl, k⟩ := h
    obtain ⟨tk, hL⟩ := hL
    refine ⟨_, pss_one (ps_ret (pe_and (pe_chain op_le op_le pe_int (pv 0) (pe_glob (v := .int 8) (by rfl) hL ⟨tk, rfl⟩)) (pe_one (pe_chain op_le op_le pe_int (pv 1) (pe_glob (v := .int 8) (by rfl) hL ⟨tk, rfl⟩))))), ?_⟩
    have fin : ∀ b : Bool, decide (1 ≤ h ∧ h ≤ 8 ∧ 1 ≤ d ∧ d ≤ 8) = b → Q (.bl b) H := fun b e => by rw [← e]; exact k
    refine ⟨_, rfl, _, _, rfl, rfl, _, rfl, ite2 (fun h1 => ?_) (fun h1 => ?_)⟩
    · have h1 := of_decide_eq_true h1
      refine ⟨_, _, rfl, rfl, _, rfl, ite2 (fun h2 => ?_) (fun h2 => ?_)⟩
      · have h2 := of_decide_eq_true h2
        refine ⟨_, rfl, _, _, rfl, rfl, _, rfl, ite2 (fun h3 => ?_) (fun h3 => ?_)⟩
        · have h3 := of_decide_eq_true h3
          refine ⟨_, _, rfl, rfl, ?_⟩
          exact fin _ (decide_eq_decide.mpr ⟨fun z => z.2.2.2, fun z => ⟨h1, h2, h3, z⟩⟩)
        · exact fin _ (decide_eq_false fun z => h3 (decide_eq_true z.2.2.1))
      · exact fin _ (decide_eq_false fun z => h2 (decide_eq_true z.2.1))
    · refine ⟨_, rfl, iteF ?_⟩
      exact fin _ (decide_eq_false fun z => h1 (decide_eq_true z.1))

end
end Toy

end
section
set_option maxHeartbeats 4000000
namespace Toy
open PySem L2
section
variable {P : Program} {w : World} {K : PySem.W.Frag} {mg : Str → Option Value} {base : Heap}
/-! ### of, size, stair -/
def spOf (K : PySem.W.Frag) : Sp := fun vs H Q _ => ∃ (d s : Addr) (xs : List V), vs = [.ref d, .ref s] ∧ Draw H d ∧ SqL K H s xs ∧ s ≠ d ∧ 0 < xs.length ∧ xs.length < 1000 ∧ ∀ (x : V) (H' : Hp), x ∈ xs → Draw H' d → But d H H' → Q x H'
theorem scOf : FnScope ["_law_draw", "_law_some"] ["_law_draw", "_law_some"] (defScope s__law_of) := ⟨rfl, rfl, rfl, by decide +kernel, rfl, by decide +kernel, by decide +kernel⟩
theorem ok_of {f fT : Addr} {fd fdT : FuncData} (F : Fun K "_law_of" "_law_of" s__law_of f fd) (FT : Fun K "_law_take" "_law_take" s__law_take fT fdT) (bT : Binds K fdT ["_law_draw", "_law_many"] []) (mT : mg "_law_take" = some (.ref fT)) (T : Blt mg) : FnOk P w K mg base CX0 2 f fd ["_law_draw", "_law_some"] (spOf K) := by
  have GT : FnOk P w K mg base CX0 1 fT fdT ["_law_draw", "_law_many"] spTake := ok_take FT T
  refine F.ok scOf (fun vs H Q E h => ?_) (fun cdv A outer s H vs Q E hr h => ?_)
  · obtain ⟨d, s, xs, rfl, _⟩ := h
    rfl
  · obtain ⟨d, l, xs, rfl, Dr, hl, ne, h0, h1, k⟩ := h
    refine ⟨_, pss_one (ps_ret (pe_ix ix_list (pv 1) (pe_call GT hr (by rfl) mT FT.kp bT .nil pass0 (pa_cons (pv 0) (pa_cons (pe_callB call_len_seq (by rfl) T.len PySem.boot_len (pa_cons (pv 1) pa_nil)) pa_nil))) (fun _ _ => rfl))), ?_⟩
    refine ⟨_, rfl, _, rfl, _, rfl, l, _, rfl, .inl hl, d, (xs.length : Int), rfl, Dr, by omega, log_small h1, fun r H' r0 r1 D' b' => ?_⟩
    obtain ⟨j, rfl⟩ := Int.eq_ofNat_of_zero_le r0
    have hj : j < xs.length := by omega
    exact ⟨l, xs, (j : Int), xs[j], rfl, rfl, (Ext.but b').list ne hl, atI_nat (List.getElem?_eq_getElem hj), k _ _ (List.getElem_mem hj) D' b'⟩

end
end Toy

end
section
set_option maxHeartbeats 4000000
namespace Toy
open PySem L2
section
variable {P : Program} {w : World} {K : PySem.W.Frag} {mg : Str → Option Value} {base : Heap}
def spSize : Sp := fun vs H Q _ => ∃ (d : Addr) (m : Nat), vs = [.ref d, .int (m : Nat)] ∧ Draw H d ∧ 1 ≤ m ∧ m < 1000 ∧ ∀ (p : Addr) (H' : Hp) (h f : Nat), 1 ≤ h → h ≤ 8 → h ≤ m → 1 ≤ f → f ≤ 8 → f ≤ m → H' p = some (.tup [.int (h : Nat), .int (f : Nat)]) → Draw H' d → Ext d H H' → Q (.ref p) H'
theorem scSize : FnScope ["_law_draw", "_law_most", "_law_high", "_law_far_here"] ["_law_draw", "_law_most"] (defScope s__law_size) := ⟨rfl, rfl, rfl, by decide +kernel, rfl, by decide +kernel, by decide +kernel⟩
theorem seven {x : V} (h : x ∈ ([.int 1, .int 2, .int 2, .int 3, .int 3, .int 4, .int 8] : List V)) : ∃ n : Nat, x = .int (n : Nat) ∧ 1 ≤ n ∧ n ≤ 8 := by
  simp only [List.mem_cons, List.mem_nil_iff, or_false] at h
  rcases h with rfl | rfl | rfl | rfl | rfl | rfl | rfl
  · exact ⟨1, rfl, by decide, by decide⟩
  · exact ⟨2, rfl, by decide, by decide⟩
  · exact ⟨2, rfl, by decide, by decide⟩
  · exact ⟨3, rfl, by decide, by decide⟩
  · exact ⟨3, rfl, by decide, by decide⟩
  · exact ⟨4, rfl, by decide, by decide⟩
  · exact ⟨8, rfl, by decide, by decide⟩
theorem min_nat (n m : Nat) : (if ((m : Nat) : Int) < ((n : Nat) : Int) then ((m : Nat) : Int) else ((n : Nat) : Int)) = ((min n m : Nat) : Int) := by
  split <;> omega
theorem ok_size {f fT fO : Addr} {fd fdT fdO : FuncData} (F : Fun K "_law_size" "_law_size" s__law_size f fd) (FT : Fun K "_law_take" "_law_take" s__law_take fT fdT) (bT : Binds K fdT ["_law_draw", "_law_many"] []) (mT : mg "_law_take" = some (.ref fT))
    (FO : Fun K "_law_of" "_law_of" s__law_of fO fdO) (bO : Binds K fdO ["_law_draw", "_law_some"] []) (mO : mg "_law_of" = some (.ref fO)) (T : Blt mg) : FnOk P w K mg base CX0 3 f fd ["_law_draw", "_law_most"] spSize := by
  have GT : FnOk P w K mg base CX0 1 fT fdT ["_law_draw", "_law_many"] spTake := ok_take FT T
  have GO : FnOk P w K mg base CX0 2 fO fdO ["_law_draw", "_law_some"] (spOf K) := ok_of FO FT bT mT T
  refine F.ok scSize (fun vs H Q E h => ?_) (fun cdv A outer s H vs Q E hr h => ?_)
  · obtain ⟨d, m, rfl, _⟩ := h
    rfl
  · obtain ⟨d, m, rfl, Dr, m1, m2, k⟩ := h
    have nd := scSize.nd
    have hr1 : Room 1 _ := hr.mono (by decide)
    refine ⟨_, pss_cons (ps_set (i := 2) nd rfl (Or.inl rfl) (pe_call GO hr (by rfl) mO FO.kp bO .nil pass0 (pa_cons (pv 0) (pa_cons (pe_lst (pa_cons pe_int (pa_cons pe_int (pa_cons pe_int (pa_cons pe_int (pa_cons pe_int (pa_cons pe_int (pa_cons pe_int pa_nil)))))))) pa_nil))))
      (pss_cons (ps_set (i := 3) nd rfl (Or.inl rfl) (pe_call GO hr (by rfl) mO FO.kp bO .nil pass0 (pa_cons (pv 0) (pa_cons (pe_lst (pa_cons pe_int (pa_cons pe_int (pa_cons pe_int (pa_cons pe_int (pa_cons pe_int (pa_cons pe_int (pa_cons pe_int pa_nil)))))))) pa_nil))))
      (pss_one (ps_ret (pe_tup (pa_cons (pe_op op_add pe_int (pe_call GT hr1 (by rfl) mT FT.kp bT .nil pass0 (pa_cons (pv 0) (pa_cons (pe_callB (call_min2 rfl) (by rfl) T.min boot_min (pa_cons (pv 2) (pa_cons (pv 1) pa_nil))) pa_nil))))
        (pa_cons (pe_op op_add pe_int (pe_call GT hr1 (by rfl) mT FT.kp bT .nil pass0 (pa_cons (pv 0) (pa_cons (pe_callB (call_min2 rfl) (by rfl) T.min boot_min (pa_cons (pv 3) (pa_cons (pv 1) pa_nil))) pa_nil)))) pa_nil)))))), ?_⟩
    refine ⟨_, rfl, (by show 7 ≤ sizeLine; decide), fun l hl => ?_⟩
    have nld : l ≠ d := by
      obtain ⟨xs, e⟩ := Dr.lst
      exact (ne_of_none e hl).symm
    refine ⟨d, l, _, rfl, Dr.new hl, SqL.of upd_same, nld, by decide, by decide, fun x H1 hx D1 b1 => ?_⟩
    obtain ⟨n1, rfl, n11, n12⟩ := seven hx
    refine ⟨_, rfl, (by show 7 ≤ sizeLine; decide), fun l2 hl2 => ?_⟩
    have nld2 : l2 ≠ d := by
      obtain ⟨xs, e⟩ := D1.lst
      exact (ne_of_none e hl2).symm
    refine ⟨d, l2, _, rfl, D1.new hl2, SqL.of upd_same, nld2, by decide, by decide, fun x H2 hx2 D2 b2 => ?_⟩
    obtain ⟨n2, rfl, n21, n22⟩ := seven hx2
    refine ⟨_, rfl, _, rfl, _, rfl, _, _, rfl, ?_⟩
    rw [min_nat]
    refine ⟨d, _, rfl, D2, by omega, log_small (by omega), fun r H3 r0 r1 D3 b3 => ⟨_, _, rfl, rfl, ?_⟩⟩
    refine ⟨_, rfl, _, rfl, _, rfl, _, _, rfl, ?_⟩
    rw [min_nat]
    refine ⟨d, _, rfl, D3, by omega, log_small (by omega), fun r2 H4 r20 r21 D4 b4 => ⟨_, _, rfl, rfl, ?_⟩⟩
    refine ⟨(by show 2 ≤ sizeLine; decide), fun t ht => ?_⟩
    obtain ⟨j1, rfl⟩ := Int.eq_ofNat_of_zero_le r0
    obtain ⟨j2, rfl⟩ := Int.eq_ofNat_of_zero_le r20
    have e1 : (1 : Int) + (j1 : Nat) = ((1 + j1 : Nat) : Int) := by omega
    have e2 : (1 : Int) + (j2 : Nat) = ((1 + j2 : Nat) : Int) := by omega
    refine k t _ (1 + j1) (1 + j2) (by omega) (by omega) (by omega) (by omega) (by omega) (by omega) (by rw [upd_same]; show some (HO.tup [V.int (1 + (j1 : Int)), V.int (1 + (j2 : Int))]) = _; rw [e1, e2]) (D4.new ht) ?_
    have x1 : Ext d H H1 := ((Ext.refl d H).new hl).trans (Ext.but b1)
    have x2 : Ext d H1 H2 := ((Ext.refl d H1).new hl2).trans (Ext.but b2)
    exact (((x1.trans x2).trans (Ext.but b3)).trans (Ext.but b4)).new ht
def spStair (K : PySem.W.Frag) : Sp := fun vs H Q _ => ∃ (d p : Addr) (h f : Nat), vs = [.ref d, .ref p] ∧ Draw H d ∧ SqT K H p [.int (h : Nat), .int (f : Nat)] ∧ 1 ≤ h ∧ h ≤ 8 ∧ 1 ≤ f ∧ f ≤ 8 ∧ ∀ (l : List Bool) (H' : Hp), l.count true = h → l.count false = f → Draw H' d → But d H H' → Q (.str (stS l)) H'
abbrev nmStair : List Str := ["_law_draw", "_law_size_here", "_law_shuts", "_law_floors", "_law_found", "_law_fork", "_law_step"]
theorem scStair : FnScope nmStair ["_law_draw", "_law_size_here"] (defScope s__law_stair) := ⟨rfl, rfl, rfl, by decide +kernel, rfl, by decide +kernel, by decide +kernel⟩
theorem small_line' {n : Nat} (h : n ≤ 1000) : n ≤ sizeLine := Nat.le_of_lt (small1000 h)
theorem mulW {n : Nat} (h0 : 1 ≤ n) (h1 : n ≤ 8) : MulOk "w" (n : Int) := by
  have hk : n = 1 ∨ n = 2 ∨ n = 3 ∨ n = 4 ∨ n = 5 ∨ n = 6 ∨ n = 7 ∨ n = 8 := by omega
  rcases hk with rfl | rfl | rfl | rfl | rfl | rfl | rfl | rfl <;> exact ⟨by decide +kernel, by decide +kernel, by decide +kernel⟩
theorem mulF {n : Nat} (h0 : 1 ≤ n) (h1 : n ≤ 8) : MulOk "f" (n : Int) := by
  have hk : n = 1 ∨ n = 2 ∨ n = 3 ∨ n = 4 ∨ n = 5 ∨ n = 6 ∨ n = 7 ∨ n = 8 := by omega
  rcases hk with rfl | rfl | rfl | rfl | rfl | rfl | rfl | rfl <;> exact ⟨by decide +kernel, by decide +kernel, by decide +kernel⟩
theorem ok_stair {f fT : Addr} {fd fdT : FuncData} (F : Fun K "_law_stair" "_law_stair" s__law_stair f fd) (FT : Fun K "_law_take" "_law_take" s__law_take fT fdT) (bT : Binds K fdT ["_law_draw", "_law_many"] []) (mT : mg "_law_take" = some (.ref fT)) (T : Blt mg) :
    FnOk P w K mg base CX0 2 f fd ["_law_draw", "_law_size_here"] (spStair K) := by
  have GT : FnOk P w K mg base CX0 1 fT fdT ["_law_draw", "_law_many"] spTake := ok_take FT T
  refine F.ok scStair (fun vs H Q E h => ?_) (fun cdv A outer s H vs Q E hr h => ?_)
  · obtain ⟨d, p, h, f, rfl, _⟩ := h
    rfl
  · obtain ⟨d, p, h, fl, rfl, Dr, hp, h1, h8, f1, f8, k⟩ := h
    have nd := scStair.nd
    refine ⟨_, pss_cons (ps_asg (pv 1) (pg_tup (by rfl) (pgs_cons (pg_name (i := 2) nd rfl (Or.inl rfl)) (pgs_cons (pg_name (i := 3) nd rfl (Or.inl rfl)) pgs_nil))))
      (pss_cons (ps_set (i := 4) nd rfl (Or.inl rfl) pe_str)
      (pss_cons (ps_set (i := 5) nd rfl (Or.inl rfl) (pe_call GT hr (by rfl) mT FT.kp bT .nil pass0 (pa_cons (pv 0) (pa_cons pe_int pa_nil))))
      (pss_cons (ps_if (pt_cmpR op_eq (pv 5) pe_int (nomark _)) (pss_one (ps_ret (pe_op op_add_str (pe_op op_mulS pe_str (pv 2)) (pe_op op_mulS pe_str (pv 3))))) pss_nil)
      (pss_cons (ps_if (pt_cmpR op_eq (pv 5) pe_int (nomark _)) (pss_one (ps_ret (pe_op op_add_str (pe_op op_mulS pe_str (pv 3)) (pe_op op_mulS pe_str (pv 2))))) pss_nil)
      (pss_cons (ps_for PassesOwn.never rfl (pi_range1 rfl T.range (pa_cons (pe_op op_add (pe_ix ix_tup (pv 1) pe_int (fun _ _ => rfl)) (pe_ix ix_tup (pv 1) pe_int (fun _ _ => rfl))) pa_nil)) (pg_name (i := 6) nd rfl (Or.inl rfl))
        (pss_one (ps_if (pt_cmpR op_lt (pe_call GT hr (by rfl) mT FT.kp bT .nil pass0 (pa_cons (pv 0) (pa_cons (pe_op op_add (pv 2) (pv 3)) pa_nil))) (pv 2) (nomark _))
          (pss_cons (ps_set (i := 4) nd rfl (Or.inl rfl) (pe_op op_add_str (pv 4) pe_str)) (pss_one (ps_set (i := 2) nd rfl (Or.inl rfl) (pe_op op_sub (pv 2) pe_int))))
          (pss_cons (ps_set (i := 4) nd rfl (Or.inl rfl) (pe_op op_add_str (pv 4) pe_str)) (pss_one (ps_set (i := 3) nd rfl (Or.inl rfl) (pe_op op_sub (pv 3) pe_int)))))))
      (pss_one (ps_ret (pv 4)))))))), ?_⟩
    refine ⟨_, rfl, p, _, rfl, hp, rfl, _, _, rfl, _, _, rfl, rfl, ?_⟩
    refine ⟨_, rfl, d, 8, rfl, Dr, by decide, by decide, fun r H1 r0 r1 D1 b1 => ?_⟩
    have m1 := mulS_eq true h8 "w" stS_w
    have m2 := mulS_eq false f8 "f" stS_f
    have c1 : ∀ (a b : Bool) (n m : Nat), (List.replicate n a ++ List.replicate m b).length ≤ n + m := fun a b n m => by simp
    refine ⟨_, rfl, rfl, _, rfl, ite2 (fun _ => ?_) (fun _ => ?_)⟩
    · refine ⟨_, rfl, _, _, rfl, rfl, mulW h1 h8, _, rfl, _, _, rfl, rfl, mulF f1 f8, _, _, rfl, rfl, ?_, ?_⟩
      · rw [m1, m2, stS_len, stS_len]
        exact small_line' (by simp; omega)
      · rw [m1, m2, stS_append]
        exact k _ _ (by simp [List.count_append, List.count_replicate]) (by simp [List.count_append, List.count_replicate]) D1 b1
    refine ⟨_, rfl, rfl, _, rfl, ite2 (fun _ => ?_) (fun _ => ?_)⟩
    · refine ⟨_, rfl, _, _, rfl, rfl, mulF f1 f8, _, rfl, _, _, rfl, rfl, mulW h1 h8, _, _, rfl, rfl, ?_, ?_⟩
      · rw [m1, m2, stS_len, stS_len]
        exact small_line' (by simp; omega)
      · rw [m1, m2, stS_append]
        exact k _ _ (by simp [List.count_append, List.count_replicate]) (by simp [List.count_append, List.count_replicate]) D1 b1
    obtain ⟨dl, hdl⟩ := Dr.lst
    have hp1 : SqT K H1 p [.int (h : Nat), .int (fl : Nat)] := (Ext.but b1).tup hdl hp
    refine ⟨_, rfl, p, _, 0, _, rfl, rfl, hp1, rfl, _, rfl, p, _, 1, _, rfl, rfl, hp1, rfl, _, _, rfl, rfl, ?_⟩
    refine ⟨_, rfl, by omega, by omega, for_range (n := h + fl) (fun i σ H2 => ∃ (l : List Bool) (v6 : Option V), l.length = i ∧ l.count true ≤ h ∧ l.count false ≤ fl ∧ σ = [some (.ref d), some (.ref p), some (.int ((h - l.count true : Nat) : Int)), some (.int ((fl - l.count false : Nat) : Int)), some (.str (stS l)), some (.int r), v6] ∧ Draw H2 d ∧ But d H H2) ⟨[], none, rfl, by simp, by simp, rfl, D1, b1⟩ ?_ ?_⟩
    · rintro i σ H2 hi ⟨l, v6, hl, lw, lf, rfl, D2, b2⟩
      have hlc := len_count l
      refine ⟨_, rfl, _, rfl, _, rfl, _, _, rfl, rfl, d, _, rfl, D2, by omega, ?_, fun q H3 q0 q1 D3 b3 => ⟨_, rfl, _, _, rfl, rfl, _, rfl, ite2 (fun hq => ?_) (fun hq => ?_)⟩⟩
      · rw [show ((h - l.count true : Nat) : Int) + ((fl - l.count false : Nat) : Int) = (((h - l.count true) + (fl - l.count false) : Nat) : Int) by omega]
        exact log_small (by omega)
      · have hq := of_decide_eq_true hq
        refine ⟨_, rfl, _, _, rfl, rfl, ?_, ?_⟩
        · rw [stS_len]
          exact small_line' (by show l.length + 1 ≤ 1000; omega)
        · refine ⟨_, rfl, _, _, rfl, rfl, ?_⟩
          refine ⟨l ++ [true], some (.int (0 + (i : Int))), by simp [hl], by rw [List.count_append]; simp; omega, by rw [List.count_append]; simpa using lf, ?_, D3, b2.trans b3⟩
          have e3 : stS l ++ ("w" : Str) = stS (l ++ [true]) := by rw [stS_w, stS_append]
          have e1 : ((h - l.count true : Nat) : Int) - 1 = ((h - (l ++ [true]).count true : Nat) : Int) := by rw [List.count_append]; simp; omega
          have e2 : ((fl - l.count false : Nat) : Int) = ((fl - (l ++ [true]).count false : Nat) : Int) := by rw [List.count_append]; simp
          rw [← e1, ← e2, ← e3]
          rfl
      · have hq : ¬ q < ((h - l.count true : Nat) : Int) := fun z => hq (decide_eq_true z)
        refine ⟨_, rfl, _, _, rfl, rfl, ?_, ?_⟩
        · rw [stS_len]
          exact small_line' (by show l.length + 1 ≤ 1000; omega)
        · refine ⟨_, rfl, _, _, rfl, rfl, ?_⟩
          refine ⟨l ++ [false], some (.int (0 + (i : Int))), by simp [hl], by rw [List.count_append]; simpa using lw, by rw [List.count_append]; simp; omega, ?_, D3, b2.trans b3⟩
          have e3 : stS l ++ ("f" : Str) = stS (l ++ [false]) := by rw [stS_f, stS_append]
          have e1 : ((h - l.count true : Nat) : Int) = ((h - (l ++ [false]).count true : Nat) : Int) := by rw [List.count_append]; simp
          have e2 : ((fl - l.count false : Nat) : Int) - 1 = ((fl - (l ++ [false]).count false : Nat) : Int) := by rw [List.count_append]; simp; omega
          rw [← e1, ← e2, ← e3]
          rfl
    · rintro σ H2 ⟨l, v6, hl, lw, lf, rfl, D2, b2⟩
      have hlc := len_count l
      exact ⟨_, rfl, k l H2 (by omega) (by omega) D2 b2⟩

end
end Toy

end
section
set_option maxHeartbeats 4000000
namespace Toy
open PySem L2
section
variable {P : Program} {w : World} {K : PySem.W.Frag} {mg : Str → Option Value} {base : Heap}
/-! ### is_stair, check_stair -/
def isStairB (z : Str) : Bool := decide (Txt.count z "w" + Txt.count z "f" = (z.length : Nat) ∧ 1 ≤ Txt.count z "w" ∧ Txt.count z "w" ≤ 8 ∧ 1 ≤ Txt.count z "f" ∧ Txt.count z "f" ≤ 8)
theorem Stair.isB {l : List Bool} (h : Stair l) : isStairB (stS l) = true := by
  unfold isStairB
  rw [count_w, count_f, stS_len]
  have := len_count l
  have h1 := h.w1
  have h2 := h.w8
  have h3 := h.f1
  have h4 := h.f8
  exact decide_eq_true ⟨by omega, by omega, by omega, by omega, by omega⟩
def spIsStair : Sp := fun vs H Q _ => ∃ z : Str, vs = [.str z] ∧ z.length ≤ 1000 ∧ Q (.bl (isStairB z)) H
theorem scIsStair : FnScope ["stair", "height", "depth"] ["stair"] (defScope s_is_stair) := ⟨rfl, rfl, rfl, by decide +kernel, rfl, by decide +kernel, by decide +kernel⟩
theorem ok_isstair {f fS : Addr} {fd fdS : FuncData} (F : Fun K "is_stair" "is_stair" s_is_stair f fd) (FS : Fun K "is_size" "is_size" s_is_size fS fdS) (bS : Binds K fdS ["height", "depth"] []) (mS : mg "is_size" = some (.ref fS)) (hL : ∃ t, mg "LONGEST_SIDE" = some (.int 8 t)) (T : Blt mg) :
    FnOk P w K mg base CX0 2 f fd ["stair"] spIsStair := by
  have GS : FnOk P w K mg base CX0 1 fS fdS ["height", "depth"] spIsSize := ok_issize FS hL
  refine F.ok scIsStair (fun vs H Q E h => ?_) (fun cdv A outer s H vs Q E hr h => ?_)
  · obtain ⟨z, rfl, _⟩ := h
    rfl
  · obtain ⟨z, rfl, hz, k⟩ := h
    have nd := scIsStair.nd
    refine ⟨_, pss_cons (ps_set (i := 1) nd rfl (Or.inl rfl) (pe_m1 PySem.F.slot_str_count PySem.F.type_str_count mt_count (pv 0) pe_str))
      (pss_cons (ps_set (i := 2) nd rfl (Or.inl rfl) (pe_m1 PySem.F.slot_str_count PySem.F.type_str_count mt_count (pv 0) pe_str))
      (pss_one (ps_ret (pe_and (pe_cmpR op_eq (pe_op op_add (pv 1) (pv 2)) (pe_callB call_len_str (by rfl) T.len PySem.boot_len (pa_cons (pv 0) pa_nil)) (nomark _))
        (pe_one (pe_call GS hr (by rfl) mS FS.kp bS .nil pass0 (pa_cons (pv 1) (pa_cons (pv 2) pa_nil)))))))), ?_⟩
    refine ⟨_, rfl, ⟨_, rfl⟩, _, _, rfl, rfl, ?_⟩
    refine ⟨_, rfl, ⟨_, rfl⟩, _, _, rfl, rfl, ?_⟩
    refine ⟨_, rfl, _, rfl, _, _, rfl, rfl, _, rfl, z, rfl, small_line' hz, rfl, _, rfl, ite2 (fun h1 => ?_) (fun h1 => ?_)⟩
    · have h1 : Txt.count z "w" + Txt.count z "f" = (z.length : Nat) := V.int.inj (of_decide_eq_true h1)
      refine ⟨_, rfl, _, rfl, _, _, rfl, ?_⟩
      have e : isStairB z = decide (1 ≤ Txt.count z "w" ∧ Txt.count z "w" ≤ 8 ∧ 1 ≤ Txt.count z "f" ∧ Txt.count z "f" ≤ 8) := decide_eq_decide.mpr ⟨fun q => q.2, fun q => ⟨h1, q⟩⟩
      rw [e] at k
      exact k
    · have e : isStairB z = false := decide_eq_false fun q => h1 (decide_eq_true (by show V.int _ = V.int _; rw [q.1]))
      rw [e] at k
      exact k

end
end Toy

end
section
set_option maxHeartbeats 4000000
namespace Toy
open PySem L2
section
variable {P : Program} {w : World} {K : PySem.W.Frag} {mg : Str → Option Value} {base : Heap}
/-! ### stairs that are ones: check, sides, plain, turned -/
def spCheck : Sp := fun vs H Q _ => ∃ l : List Bool, vs = [.str (stS l)] ∧ Stair l ∧ Q .non H
theorem scCheck : FnScope ["stair"] ["stair"] (defScope s_check_stair) := ⟨rfl, rfl, rfl, by decide +kernel, rfl, by decide +kernel, by decide +kernel⟩
theorem ok_check {f : Addr} {fd : FuncData} (F : Fun K "check_stair" "check_stair" s_check_stair f fd) (gI : Ok P w K mg base 2 "is_stair" ["stair"] spIsStair) : FnOk P w K mg base CX0 3 f fd ["stair"] spCheck := by
  refine F.ok scCheck (fun vs H Q E h => ?_) (fun cdv A outer s H vs Q E hr h => ?_)
  · obtain ⟨l, rfl, _⟩ := h
    rfl
  · obtain ⟨l, rfl, hs, k⟩ := h
    refine ⟨_, pss_one (ps_if (pt_not (pt_val (pe_ok gI hr (by rfl) (pa_cons (pv 0) pa_nil)))) pss_never pss_nil), ?_⟩
    refine ⟨_, rfl, _, rfl, by rw [stS_len]; have := hs.len; omega, _, rfl, ?_⟩
    rw [Stair.isB hs]
    exact iteF k
def spSides0 : Sp := fun vs H Q _ => ∃ l : List Bool, vs = [.str (stS l)] ∧ Stair l ∧ ∀ (p : Addr) (H' : Hp), Same H H' → H' p = some (.tup [.int (l.count true : Nat), .int (l.count false : Nat)]) → Q (.ref p) H'
theorem scSides0 : FnScope ["stair"] ["stair"] (defScope s_sides) := ⟨rfl, rfl, rfl, by decide +kernel, rfl, by decide +kernel, by decide +kernel⟩
theorem ok_sides0 {f : Addr} {fd : FuncData} (F : Fun K "sides" "sides" s_sides f fd) (gC : Ok P w K mg base 3 "check_stair" ["stair"] spCheck) : FnOk P w K mg base CX0 4 f fd ["stair"] spSides0 := by
  refine F.ok scSides0 (fun vs H Q E h => ?_) (fun cdv A outer s H vs Q E hr h => ?_)
  · obtain ⟨l, rfl, _⟩ := h
    rfl
  · obtain ⟨l, rfl, hs, k⟩ := h
    refine ⟨_, pss_cons (ps_expr (pe_ok gC hr (by rfl) (pa_cons (pv 0) pa_nil)))
      (pss_one (ps_ret (pe_tup (pa_cons (pe_m1 PySem.F.slot_str_count PySem.F.type_str_count mt_count (pv 0) pe_str) (pa_cons (pe_m1 PySem.F.slot_str_count PySem.F.type_str_count mt_count (pv 0) pe_str) pa_nil))))), ?_⟩
    refine ⟨_, rfl, _, rfl, hs, _, rfl, ⟨_, rfl⟩, _, _, rfl, rfl, _, rfl, ⟨_, rfl⟩, _, _, rfl, rfl, ?_⟩
    rw [count_w, count_f]
    exact ⟨(by show 2 ≤ sizeLine; decide), fun p hp => k p _ ((Same.refl H).new' hp) upd_same⟩
def leafB (h d : Nat) : List Bool := List.replicate h true ++ List.replicate d false
theorem leaf_t (h d : Nat) : (leafB h d).count true = h := by simp [leafB, List.count_replicate]
theorem leaf_f (h d : Nat) : (leafB h d).count false = d := by simp [leafB, List.count_replicate]
theorem mulW_eq {n : Nat} (h1 : n ≤ 8) : Txt.mul "w" (n : Int) = stS (List.replicate n true) := by
  have h : n = 0 ∨ n = 1 ∨ n = 2 ∨ n = 3 ∨ n = 4 ∨ n = 5 ∨ n = 6 ∨ n = 7 ∨ n = 8 := by omega
  rcases h with rfl | rfl | rfl | rfl | rfl | rfl | rfl | rfl | rfl <;> decide +kernel
theorem mulF_eq {n : Nat} (h1 : n ≤ 8) : Txt.mul "f" (n : Int) = stS (List.replicate n false) := by
  have h : n = 0 ∨ n = 1 ∨ n = 2 ∨ n = 3 ∨ n = 4 ∨ n = 5 ∨ n = 6 ∨ n = 7 ∨ n = 8 := by omega
  rcases h with rfl | rfl | rfl | rfl | rfl | rfl | rfl | rfl | rfl <;> decide +kernel
def spCSz : Sp := fun vs H Q _ => ∃ h d : Nat, vs = [.int (h : Nat), .int (d : Nat)] ∧ (1 ≤ h ∧ h ≤ 8 ∧ 1 ≤ d ∧ d ≤ 8) ∧ ∀ (p : Addr) (H' : Hp), Same H H' → H' p = some (.tup [.int (h : Nat), .int (d : Nat)]) → Q (.ref p) H'
theorem scCSz : FnScope ["height", "depth", "deep"] ["height", "depth"] (defScope s_checked_size) := ⟨rfl, rfl, rfl, by decide +kernel, rfl, by decide +kernel, by decide +kernel⟩
theorem ok_csz {f : Addr} {fd : FuncData} (F : Fun K "checked_size" "checked_size" s_checked_size f fd) (gS : Ok P w K mg base 1 "is_size" ["height", "depth"] spIsSize) : FnOk P w K mg base CX0 2 f fd ["height", "depth"] spCSz := by
  refine F.ok scCSz (fun vs H Q E h => ?_) (fun cdv A outer s H vs Q E hr h => ?_)
  · obtain ⟨a, b, rfl, _⟩ := h
    rfl
  · obtain ⟨h, d, rfl, ⟨h1, h2, h3, h4⟩, k⟩ := h
    have nd := scCSz.nd
    refine ⟨_, pss_cons (ps_set (i := 2) nd rfl (Or.inl rfl) (pe_ifExp (pt_cmpR op_isN (pv 1) pe_non (nomark _)) (pv 0) (pv 1)))
      (pss_cons (ps_if (pt_not (pt_val (pe_ok gS hr (by rfl) (pa_cons (pv 0) (pa_cons (pv 2) pa_nil))))) pss_never pss_nil)
      (pss_one (ps_ret (pe_tup (pa_cons (pv 0) (pa_cons (pv 2) pa_nil)))))), ?_⟩
    refine ⟨_, rfl, rfl, _, rfl, ?_⟩
    rw [decide_eq_false (fun z => nomatch z)]
    refine iteF ⟨_, rfl, ?_⟩
    refine ⟨_, rfl, _, rfl, _, _, rfl, _, rfl, ?_⟩
    rw [decide_eq_true (by omega)]
    exact iteF ⟨_, rfl, _, rfl, (by show 2 ≤ sizeLine; decide), fun p hp => k p _ ((Same.refl H).new' hp) upd_same⟩
def spPlain0 : Sp := fun vs H Q _ => ∃ h d : Nat, vs = [.int (h : Nat), .int (d : Nat)] ∧ (1 ≤ h ∧ h ≤ 8 ∧ 1 ≤ d ∧ d ≤ 8) ∧ ∀ H', Same H H' → Q (.str (stS (leafB h d))) H'
theorem scPlain : FnScope ["height", "depth", "high", "deep"] ["height", "depth"] (defScope s_plain) := ⟨rfl, rfl, rfl, by decide +kernel, rfl, by decide +kernel, by decide +kernel⟩
theorem ok_plain0 {f : Addr} {fd : FuncData} (F : FunD K "plain" "plain" s_plain f fd [.none]) (gZ : Ok P w K mg base 2 "checked_size" ["height", "depth"] spCSz) : FnOk P w K mg base CX0 3 f fd ["height", "depth"] spPlain0 := by
  refine F.ok0 scPlain (fun vs H Q E h => ?_) (fun cdv A outer s H vs Q E hr h => ?_)
  · obtain ⟨a, b, rfl, _⟩ := h
    rfl
  · obtain ⟨h, d, rfl, ⟨h1, h2, h3, h4⟩, k⟩ := h
    have nd := scPlain.nd
    refine ⟨_, pss_cons (ps_asg (pe_ok gZ hr (by rfl) (pa_cons (pv 0) (pa_cons (pv 1) pa_nil))) (pg_tup (by rfl) (pgs_cons (pg_name (i := 2) nd rfl (Or.inl rfl)) (pgs_cons (pg_name (i := 3) nd rfl (Or.inl rfl)) pgs_nil))))
      (pss_one (ps_ret (pe_op op_add_str (pe_op op_mulS pe_str (pv 2)) (pe_op op_mulS pe_str (pv 3))))), ?_⟩
    refine ⟨_, rfl, _, rfl, h, d, rfl, ⟨h1, h2, h3, h4⟩, fun p H1 s1 hp => ?_⟩
    refine ⟨p, _, rfl, SqT.of hp, rfl, _, _, rfl, _, _, rfl, rfl, ?_⟩
    refine ⟨_, rfl, _, _, rfl, rfl, mulW h1 h2, _, rfl, _, _, rfl, rfl, mulF h3 h4, _, _, rfl, rfl, ?_, ?_⟩
    · rw [mulW_eq h2, mulF_eq h4, stS_len, stS_len, List.length_replicate, List.length_replicate]
      exact small_line' (by omega)
    · rw [mulW_eq h2, mulF_eq h4, stS_append]
      exact k H1 s1
/-! ### turned -/
def turn (l : List Bool) : List Bool := l.reverse.map (!·)

end
end Toy

end
section
set_option maxHeartbeats 4000000
namespace Toy
open PySem L2
section
variable {P : Program} {w : World} {K : PySem.W.Frag} {mg : Str → Option Value} {base : Heap}
/-! ### cards: columns that are stairs of one size, places that fall together -/
abbrev vS (l : List Bool) : V := .str (stS l)
structure Cols (h d : Nat) (ls : List (List Bool)) : Prop where
  n1 : 1 ≤ ls.length
  n8 : ls.length ≤ 8
  hd : 1 ≤ h ∧ h ≤ 8 ∧ 1 ≤ d ∧ d ≤ 8
  t : ∀ l ∈ ls, l.count true = h
  f : ∀ l ∈ ls, l.count false = d
theorem Cols.stair {h d : Nat} {ls : List (List Bool)} (c : Cols h d ls) {l : List Bool} (m : l ∈ ls) : Stair l :=
  ⟨by rw [c.t l m]; exact c.hd.1, by rw [c.t l m]; exact c.hd.2.1, by rw [c.f l m]; exact c.hd.2.2.1, by rw [c.f l m]; exact c.hd.2.2.2⟩
theorem Cols.len {h d : Nat} {ls : List (List Bool)} (c : Cols h d ls) {l : List Bool} (m : l ∈ ls) : l.length = h + d := by rw [len_count, c.t l m, c.f l m]
def extL (h d : Nat) (ls : List (List Bool)) : List (List Bool) := leafB h d :: (ls ++ [leafB h d])
theorem ext_len (h d : Nat) (ls : List (List Bool)) : (extL h d ls).length = ls.length + 2 := by simp [extL]
theorem Cols.ext {h d : Nat} {ls : List (List Bool)} (c : Cols h d ls) : ∀ u ∈ extL h d ls, u.count true = h ∧ u.count false = d ∧ u.length = h + d := by
  intro u hu
  have hleaf : (leafB h d).count true = h ∧ (leafB h d).count false = d ∧ (leafB h d).length = h + d := ⟨leaf_t h d, leaf_f h d, by rw [len_count, leaf_t, leaf_f]⟩
  rcases List.mem_cons.mp hu with rfl | hu
  · exact hleaf
  · rcases List.mem_append.mp hu with hu | hu
    · exact ⟨c.t u hu, c.f u hu, c.len hu⟩
    · rw [List.mem_singleton.mp hu]
      exact hleaf
def meetB (u v : List Bool) (a : Nat) : Bool := (u[a]? == v[a]?) && decide ((u.take a).count true = (v.take a).count true)
def meetAt (h d : Nat) (ls : List (List Bool)) (e a : Nat) : Bool := meetB ((extL h d ls).getD e []) ((extL h d ls).getD (e + 1) []) a
theorem at_stS {l : List Bool} {i : Nat} {b : Bool} (h : l[i]? = some b) : atI (stS l).cps.toList ((i : Nat) : Int) = some (cw b) := by
  rw [stS_list]
  exact atI_nat (by rw [List.getElem?_map, h]; rfl)
theorem cw_dec (b c : Bool) : decide (V.str ⟨#[cw b]⟩ = V.str ⟨#[cw c]⟩) = (b == c) := by cases b <;> cases c <;> decide +kernel
theorem cut_stS (l : List Bool) {a : Nat} (h : a ≤ l.length) : cutS (stS l) none (some ((a : Nat) : Int)) = stS (l.take a) := by
  rw [cutS_stS, HT.sIx_none, HT.sIx_nat, Nat.min_eq_left h]
  simp
theorem int_dec (m n : Nat) : decide (V.int (m : Nat) = V.int (n : Nat)) = decide (m = n) := by
  refine decide_eq_decide.mpr ⟨fun h => ?_, fun h => by rw [h]⟩
  injection h with h
  omega
/-! ### has_cell, of a list or a tuple of stairs -/
def SqA (K : PySem.W.Frag) (H : Hp) (a : Addr) (xs : List V) : Prop := SqL K H a xs ∨ SqT K H a xs
theorem SqA.keep {H H' : Hp} {a : Addr} {xs : List V} (h : SqA K H a xs) (s : Same H H') : SqA K H' a xs := h.imp (fun h => s.seq h) (fun h => s.tup h)
def rIxA (K : PySem.W.Frag) : R2 := fun x y H Q => rIxL K x y H Q ∨ rIxT K x y H Q
theorem ix_any {X : Cx} : IxR X (rIxA X.K) := IxR.or ix_list ix_tup
theorem SqA.ix {H : Hp} {a : Addr} {xs : List V} {i : Int} {v : V} {Q : VK} (h : SqA K H a xs) (hv : atI xs i = some v) (k : Q v H) : rIxA K (.ref a) (.int i) H Q := by
  rcases h with h | h
  · exact .inl ⟨a, xs, i, v, rfl, rfl, h, hv, k⟩
  · exact .inr ⟨a, xs, i, v, rfl, rfl, h, hv, k⟩
def hasB (n m : Nat) (e a : Int) : Bool := decide (0 ≤ e ∧ e ≤ (n : Int) ∧ 0 ≤ a ∧ a < (m : Int))
def spHas (K : PySem.W.Frag) : Sp := fun vs H Q _ => ∃ (a : Addr) (h d : Nat) (ls : List (List Bool)) (e at' : Int), vs = [.ref a, .int e, .int at'] ∧ SqA K H a (ls.map vS) ∧ Cols h d ls ∧ Q (.bl (hasB ls.length (h + d) e at')) H
theorem scHas : FnScope ["columns", "edge", "at"] ["columns", "edge", "at"] (defScope s_has_cell) := ⟨rfl, rfl, rfl, by decide +kernel, rfl, by decide +kernel, by decide +kernel⟩
theorem ok_has {f : Addr} {fd : FuncData} (F : Fun K "has_cell" "has_cell" s_has_cell f fd) (T : Blt mg) : FnOk P w K mg base CX0 1 f fd ["columns", "edge", "at"] (spHas K) := by
  refine F.ok scHas (fun vs H Q E h => ?_) (fun cdv A outer s H vs Q E hr h => ?_)
  · obtain ⟨a, h, d, ls, e, at', rfl, _⟩ := h
    rfl
  · obtain ⟨a, h, d, ls, e, at', rfl, ha, hc, k⟩ := h
    refine ⟨_, pss_one (ps_ret (pe_and (pe_chain op_le op_le pe_int (pv 1) (pe_callB call_len_seq (by rfl) T.len PySem.boot_len (pa_cons (pv 0) pa_nil))) (pe_one (pe_chain op_le op_lt pe_int (pv 2) (pe_callB call_len_str (by rfl) T.len PySem.boot_len (pa_cons (pe_ix ix_any (pv 0) pe_int (fun _ _ => rfl)) pa_nil)))))), ?_⟩
    have hl0 : ls[0]? = some (ls[0]'(by have := hc.n1; omega)) := List.getElem?_eq_getElem _
    generalize hg : ls[0]'(by have := hc.n1; omega) = l0 at hl0
    have hm : l0 ∈ ls := List.mem_of_getElem? hl0
    have hlen := hc.len hm
    have hz : (stS l0).length ≤ sizeLine := by rw [stS_len]; exact small_line' (by have := hc.hd; omega)
    have hix : atI (ls.map vS) 0 = some (vS l0) := atI_nat (j := 0) (by rw [List.getElem?_map, hl0]; rfl)
    have fin : ∀ b : Bool, hasB ls.length (h + d) e at' = b → Q (.bl b) H := fun b eb => by rw [← eb]; exact k
    refine ⟨_, rfl, _, _, rfl, rfl, _, rfl, ite2 (fun h1 => ?_) (fun h1 => ?_)⟩
    · have h1 := of_decide_eq_true h1
      refine ⟨_, rfl, a, _, rfl, ha, _, _, rfl, rfl, _, rfl, ite2 (fun h2 => ?_) (fun h2 => ?_)⟩
      · rw [List.length_map] at h2
        have h2 := of_decide_eq_true h2
        refine ⟨_, rfl, _, _, rfl, rfl, _, rfl, ite2 (fun h3 => ?_) (fun h3 => ?_)⟩
        · have h3 := of_decide_eq_true h3
          refine ⟨_, rfl, ha.ix hix ⟨_, rfl, hz, _, _, rfl, rfl, ?_⟩⟩
          show Q (.bl (decide (at' < ((stS l0).length : Nat)))) H
          rw [stS_len, hlen]
          exact fin _ (decide_eq_decide.mpr ⟨fun z => z.2.2.2, fun z => ⟨h1, h2, h3, z⟩⟩)
        · exact fin _ (decide_eq_false fun z => h3 (decide_eq_true z.2.2.1))
      · exact fin _ (decide_eq_false fun z => h2 (decide_eq_true (by rw [List.length_map]; exact z.2.1)))
    · refine ⟨_, rfl, iteF ?_⟩
      exact fin _ (decide_eq_false fun z => h1 (decide_eq_true z.1))
/-! ### fall_together -/
def spFall (K : PySem.W.Frag) : Sp := fun vs H Q _ => ∃ (a : Addr) (h d : Nat) (ls : List (List Bool)) (e at' : Nat), vs = [.ref a, .int (e : Nat), .int (at' : Nat)] ∧ SqA K H a (ls.map vS) ∧ Cols h d ls ∧ e ≤ ls.length ∧ at' < h + d ∧ ∀ H', Same H H' → Q (.bl (meetAt h d ls e at')) H'
/-! ### cells_meet -/
def spMeetB : Sp := fun vs H Q _ => ∃ (u v : List Bool) (a : Nat), vs = [vS u, vS v, .int (a : Nat)] ∧ a < u.length ∧ a < v.length ∧ u.length ≤ 100 ∧ v.length ≤ 100 ∧ Q (.bl (meetB u v a)) H
theorem scMeetB : FnScope ["left", "right", "at"] ["left", "right", "at"] (defScope s_cells_meet) := ⟨rfl, rfl, rfl, by decide +kernel, rfl, by decide +kernel, by decide +kernel⟩
theorem ok_meetB {f : Addr} {fd : FuncData} (F : Fun K "cells_meet" "cells_meet" s_cells_meet f fd) : FnOk P w K mg base CX0 1 f fd ["left", "right", "at"] spMeetB := by
  refine F.ok scMeetB (fun vs H Q E h => ?_) (fun cdv A outer s H vs Q E hr h => ?_)
  · obtain ⟨u, v, a, rfl, _⟩ := h
    rfl
  · obtain ⟨u, v, at', rfl, hu, hv, hu8, hv8, kk⟩ := h
    refine ⟨_, pss_one (ps_ret (pe_and (pe_cmpR op_eq (pe_ix ix_str (pv 0) (pv 2) (fun _ _ => rfl)) (pe_ix ix_str (pv 1) (pv 2) (fun _ _ => rfl)) (nomark _))
        (pe_one (pe_cmpR op_eq (pe_m1 PySem.F.slot_str_count PySem.F.type_str_count mt_count (pe_slice sl_str (pv 0) po_none (po_some (pv 2))) pe_str) (pe_m1 PySem.F.slot_str_count PySem.F.type_str_count mt_count (pe_slice sl_str (pv 1) po_none (po_some (pv 2))) pe_str) (nomark _))))), ?_⟩
    have hb1 : u[at']? = some (u[at']'(by omega)) := List.getElem?_eq_getElem _
    have hb2 : v[at']? = some (v[at']'(by omega)) := List.getElem?_eq_getElem _
    generalize u[at']'(by omega) = b1 at hb1
    generalize v[at']'(by omega) = b2 at hb2
    have hzu : (stS u).length ≤ sizeLine := by rw [stS_len]; exact small_line' (by omega)
    have hzv : (stS v).length ≤ sizeLine := by rw [stS_len]; exact small_line' (by omega)
    unfold meetB at kk
    rw [hb1, hb2] at kk
    refine ⟨_, rfl, _, rfl, _, _, cw b1, rfl, rfl, hzu, at_stS hb1, _, rfl, _, rfl, _, _, cw b2, rfl, rfl, hzv, at_stS hb2, rfl, ?_⟩
    rw [cw_dec]
    have esome : (some b1 == some b2) = (b1 == b2) := by cases b1 <;> cases b2 <;> rfl
    rw [esome] at kk
    cases hbb : (b1 == b2) with
    | false =>
      rw [hbb] at kk
      exact ⟨_, rfl, iteF kk⟩
    | true =>
      rw [hbb] at kk
      refine ⟨_, rfl, iteT ?_⟩
      refine ⟨_, rfl, _, rfl, _, rfl, _, rfl, hzu, ⟨_, rfl⟩, _, _, rfl, rfl, _, rfl, _, rfl, _, rfl, _, rfl, hzv, ⟨_, rfl⟩, _, _, rfl, rfl, rfl, ?_⟩
      rw [cut_stS u (by omega), cut_stS v (by omega), count_w, count_w, int_dec]
      exact kk
abbrev nmFall : List Str := ["columns", "edge", "at", "height", "depth", "leaf", "stairs"]
theorem scFall : FnScope nmFall ["columns", "edge", "at"] (defScope s_fall_together) := ⟨rfl, rfl, rfl, by decide +kernel, rfl, by decide +kernel, by decide +kernel⟩
theorem ok_fall {f : Addr} {fd : FuncData} (F : Fun K "fall_together" "fall_together" s_fall_together f fd) (gD : Ok P w K mg base 4 "sides" ["stair"] spSides0) (gP : Ok P w K mg base 3 "plain" ["height", "depth"] spPlain0) (gM : Ok P w K mg base 1 "cells_meet" ["left", "right", "at"] spMeetB) : FnOk P w K mg base CX0 5 f fd ["columns", "edge", "at"] (spFall K) := by
  refine F.ok scFall (fun vs H Q E h => ?_) (fun cdv A outer s H vs Q E hr h => ?_)
  · obtain ⟨a, h, d, ls, e, at', rfl, _⟩ := h
    rfl
  · obtain ⟨a, h, d, ls, e, at', rfl, ha, hc, he, hat, k⟩ := h
    have nd := scFall.nd
    refine ⟨_, pss_cons (ps_asg (pe_ok gD hr (by rfl) (pa_cons (pe_ix ix_any (pv 0) pe_int (fun _ _ => rfl)) pa_nil)) (pg_tup (by rfl) (pgs_cons (pg_name (i := 3) nd rfl (Or.inl rfl)) (pgs_cons (pg_name (i := 4) nd rfl (Or.inl rfl)) pgs_nil))))
      (pss_cons (ps_set (i := 5) nd rfl (Or.inl rfl) (pe_ok gP hr (by rfl) (pa_cons (pv 3) (pa_cons (pv 4) pa_nil))))
      (pss_cons (ps_set (i := 6) nd rfl (Or.inl rfl) (pe_lst (pa_cons (pv 5) (pa_star (pv 0) (pa_cons (pv 5) pa_nil)))))
      (pss_one (ps_ret (pe_ok gM hr (by rfl) (pa_cons (pe_ix ix_list (pv 6) (pv 1) (fun _ _ => rfl)) (pa_cons (pe_ix ix_list (pv 6) (pe_op op_add (pv 1) pe_int) (fun _ _ => rfl)) (pa_cons (pv 2) pa_nil)))))))), ?_⟩
    have hl0 : ls[0]? = some (ls[0]'(by have := hc.n1; omega)) := List.getElem?_eq_getElem _
    generalize hg : ls[0]'(by have := hc.n1; omega) = l0 at hl0
    have hm : l0 ∈ ls := List.mem_of_getElem? hl0
    refine ⟨_, rfl, ha.ix (i := 0) (v := vS l0) (atI_nat (j := 0) (by rw [List.getElem?_map, hl0]; rfl)) ⟨l0, rfl, hc.stair hm, fun p H1 s1 hp => ?_⟩⟩
    rw [hc.t l0 hm, hc.f l0 hm] at hp
    refine ⟨p, _, rfl, SqT.of hp, rfl, _, _, rfl, _, _, rfl, rfl, ?_⟩
    refine ⟨_, rfl, _, rfl, h, d, rfl, hc.hd, fun H1b s1b => ?_⟩
    have s1 := s1.trans s1b
    have ha1 := ha.keep s1
    refine ⟨_, rfl, _, rfl, a, _, rfl, ha1, _, rfl, ?_⟩
    have ex : vS (leafB h d) :: (ls.map vS ++ [vS (leafB h d)]) = (extL h d ls).map vS := by simp [extL]
    refine ⟨?_, fun q hq => ?_⟩
    · show (vS (leafB h d) :: (ls.map vS ++ [vS (leafB h d)])).length ≤ sizeLine
      rw [ex, List.length_map, ext_len]
      exact small_line' (by have := hc.n8; omega)
    have he1 : (extL h d ls)[e]? = some ((extL h d ls)[e]'(by rw [ext_len]; omega)) := List.getElem?_eq_getElem _
    have he2 : (extL h d ls)[e + 1]? = some ((extL h d ls)[e + 1]'(by rw [ext_len]; omega)) := List.getElem?_eq_getElem _
    generalize hu : (extL h d ls)[e]'(by rw [ext_len]; omega) = u at he1
    generalize hv : (extL h d ls)[e + 1]'(by rw [ext_len]; omega) = v at he2
    obtain ⟨u1, u2, u3⟩ := hc.ext u (List.mem_of_getElem? he1)
    obtain ⟨w1, w2, w3⟩ := hc.ext v (List.mem_of_getElem? he2)
    have eu : (extL h d ls).getD e [] = u := by rw [List.getD_eq_getElem?_getD, he1]; rfl
    have ev : (extL h d ls).getD (e + 1) [] = v := by rw [List.getD_eq_getElem?_getD, he2]; rfl
    have hq2 : SqL K (upd H1b q (.lst (vS (leafB h d) :: (ls.map vS ++ [vS (leafB h d)])))) q ((extL h d ls).map vS) := by rw [← ex]; exact SqL.of upd_same
    have sA : Same H (upd H1b q (.lst (vS (leafB h d) :: (ls.map vS ++ [vS (leafB h d)])))) := s1.new' hq
    have i1 : atI ((extL h d ls).map vS) ((e : Nat) : Int) = some (vS u) := atI_nat (by rw [List.getElem?_map, he1]; rfl)
    have i2 : atI ((extL h d ls).map vS) (((e : Nat) : Int) + 1) = some (vS v) := by
      rw [show ((e : Nat) : Int) + 1 = ((e + 1 : Nat) : Int) by omega]
      exact atI_nat (by rw [List.getElem?_map, he2]; rfl)
    refine ⟨_, rfl, _, rfl, q, _, _, vS u, rfl, rfl, hq2, i1, _, rfl, _, rfl, _, _, rfl, rfl, q, _, _, vS v, rfl, rfl, hq2, i2, _, rfl, u, v, at', rfl, by omega, by omega, by have := hc.hd; omega, by have := hc.hd; omega, ?_⟩
    have kk := k _ sA
    unfold meetAt at kk
    rw [eu, ev] at kk
    exact kk

end
end Toy

end
section
set_option maxHeartbeats 4000000
namespace Toy
open PySem L2
section
variable {P : Program} {w : World} {K : PySem.W.Frag} {mg : Str → Option Value} {base : Heap}
/-! ### is_width, check_width -/
def spWid : Sp := fun vs H Q _ => ∃ n : Nat, vs = [.int (n : Nat)] ∧ 1 ≤ n ∧ n ≤ 8 ∧ Q (.bl true) H
theorem scWid : FnScope ["columns"] ["columns"] (defScope s_is_width) := ⟨rfl, rfl, rfl, by decide +kernel, rfl, by decide +kernel, by decide +kernel⟩
theorem ok_wid {f : Addr} {fd : FuncData} (F : Fun K "is_width" "is_width" s_is_width f fd) (hM : ∃ t, mg "MOST_COLUMNS" = some (.int 8 t)) : FnOk P w K mg base CX0 1 f fd ["columns"] spWid := by
  refine F.ok scWid (fun vs H Q E h => ?_) (fun cdv A outer s H vs Q E hr h => ?_)
  · obtain ⟨n, rfl, _⟩ := h
    rfl
  · obtain ⟨n, rfl, n1, n8, k⟩ := h
    obtain ⟨tm, hM⟩ := hM
    refine ⟨_, pss_one (ps_ret (pe_chain op_le op_le pe_int (pv 0) (pe_glob (v := .int 8) (by rfl) hM ⟨tm, rfl⟩))), ?_⟩
    refine ⟨_, rfl, _, _, rfl, rfl, _, rfl, ?_⟩
    rw [decide_eq_true (by omega)]
    refine iteT ⟨_, _, rfl, rfl, ?_⟩
    show Q (.bl (decide (((n : Nat) : Int) ≤ 8))) H
    rw [decide_eq_true (by omega)]
    exact k
def spCkw : Sp := fun vs H Q _ => ∃ n : Nat, vs = [.int (n : Nat)] ∧ 1 ≤ n ∧ n ≤ 8 ∧ Q .non H
theorem scCkw : FnScope ["columns"] ["columns"] (defScope s_check_width) := ⟨rfl, rfl, rfl, by decide +kernel, rfl, by decide +kernel, by decide +kernel⟩
theorem ok_ckw {f : Addr} {fd : FuncData} (F : Fun K "check_width" "check_width" s_check_width f fd) (gW : Ok P w K mg base 1 "is_width" ["columns"] spWid) : FnOk P w K mg base CX0 2 f fd ["columns"] spCkw := by
  refine F.ok scCkw (fun vs H Q E h => ?_) (fun cdv A outer s H vs Q E hr h => ?_)
  · obtain ⟨n, rfl, _⟩ := h
    rfl
  · obtain ⟨n, rfl, n1, n8, k⟩ := h
    refine ⟨_, pss_one (ps_if (pt_not (pt_val (pe_ok gW hr (by rfl) (pa_cons (pv 0) pa_nil)))) pss_never pss_nil), ?_⟩
    exact ⟨_, rfl, n, rfl, n1, n8, _, rfl, iteF k⟩
/-! ### check_columns -/
def spCc (K : PySem.W.Frag) : Sp := fun vs H Q _ => ∃ (a : Addr) (h d : Nat) (ls : List (List Bool)), vs = [.ref a] ∧ SqL K H a (ls.map vS) ∧ Cols h d ls ∧ ∀ H', Same H H' → Q .non H'
theorem scCc : FnScope ["columns", "column", "stair"] ["columns"] (defScope s_check_columns) := ⟨rfl, rfl, rfl, by decide +kernel, rfl, by decide +kernel, by decide +kernel⟩
abbrev dHd (h d : Nat) : PyData := .tuple [.int (h : Nat), .int (d : Nat)]
theorem shHd (h d : Nat) : SeqAt.shaped (dHd h d) = true := rfl
theorem eqHd (h d : Nat) : PyData.eqv (dHd h d) (dHd h d) = true := by
  rw [SeqAt.eqv_refl]
  exact SeqAt.canLay_of_shaped (shHd h d)
theorem hd_dp {H : Hp} {p : Addr} {h d : Nat} (e : H p = some (.tup [.int (h : Nat), .int (d : Nat)])) : Dp K H (.ref p) (dHd h d) := .tup (SqT.of e) (.cons (.int _) (.cons (.int _) .nil))
theorem ok_cc {f : Addr} {fd : FuncData} (F : Fun K "check_columns" "check_columns" s_check_columns f fd) (gW : Ok P w K mg base 2 "check_width" ["columns"] spCkw) (gI : Ok P w K mg base 2 "is_stair" ["stair"] spIsStair) (gD : Ok P w K mg base 4 "sides" ["stair"] spSides0) (T : Blt mg) (Te : mg "enumerate" = none) : FnOk P w K mg base CX0 5 f fd ["columns"] (spCc K) := by
  refine F.ok scCc (fun vs H Q E h => ?_) (fun cdv A outer s H vs Q E hr h => ?_)
  · obtain ⟨a, h, d, ls, rfl, _⟩ := h
    rfl
  · obtain ⟨a, h, d, ls, rfl, ha, hc, k⟩ := h
    have nd := scCc.nd
    have hu64 := hr.units
    refine ⟨_, pss_cons (ps_expr (pe_ok gW hr (by rfl) (pa_cons (pe_callB call_len_seq (by rfl) T.len PySem.boot_len (pa_cons (pv 0) pa_nil)) pa_nil)))
      (pss_one (ps_for PassesOwn.never rfl (pi_enum (by rfl) Te (pa_cons (pv 0) pa_nil)) (pg_tup (by rfl) (pgs_cons (pg_name (i := 1) nd rfl (Or.inl rfl)) (pgs_cons (pg_name (i := 2) nd rfl (Or.inl rfl)) pgs_nil)))
        (pss_one (ps_if (PW.pt (pw_or (pt_not (pt_val (pe_ok gI hr (by rfl) (pa_cons (pv 2) pa_nil)))) (pw_or1 (pt_cmpR (by exact op_neD hu64) (pe_ok gD hr (by rfl) (pa_cons (pv 2) pa_nil)) (pe_ok gD hr (by rfl) (pa_cons (pe_ix ix_list (pv 0) pe_int (fun _ _ => rfl)) pa_nil)) (nomark _))))) pss_never pss_nil)))), ?_⟩
    have hl0 : ls[0]? = some (ls[0]'(by have := hc.n1; omega)) := List.getElem?_eq_getElem _
    generalize ls[0]'(by have := hc.n1; omega) = l0 at hl0
    have hm0 : l0 ∈ ls := List.mem_of_getElem? hl0
    have n1 := hc.n1
    have n8 := hc.n8
    refine ⟨_, rfl, a, _, rfl, .inl ha, ls.length, (by show [V.int (((ls.map vS).length : Nat) : Int)] = _; rw [List.length_map]), n1, n8, ?_⟩
    refine ⟨_, rfl, a, _, rfl, ha, for_it (n := ls.length) (fun i σ H1 => ∃ v1 v2 : Option V, σ = [some (.ref a), v1, v2] ∧ Same H H1) ⟨none, none, rfl, Same.refl H⟩ ?_ ?_⟩
    · rintro i σ H1 hi ⟨v1, v2, rfl, s1⟩
      have ha1 := s1.seq ha
      have hli : ls[i]? = some ls[i] := List.getElem?_eq_getElem hi
      generalize ls[i] = li at hli
      have hmi : li ∈ ls := List.mem_of_getElem? hli
      have hxi : (ls.map vS)[i]? = some (vS li) := by rw [List.getElem?_map, hli]; rfl
      refine ⟨⟨_, _, ha1, hxi⟩, ?_⟩
      rintro x H2 ⟨Tq, x', rfl, hT, rfl, hx⟩
      have e := hx _ ha1
      rw [hxi] at e
      cases e
      have s2 : Same H (upd H1 Tq (.tup [.int (i : Nat), vS li])) := s1.new' hT
      refine ⟨Tq, _, rfl, SqT.of upd_same, rfl, _, _, rfl, _, _, rfl, rfl, ?_⟩
      have hsi := hc.stair hmi
      refine ⟨_, rfl, stS li, rfl, by rw [stS_len]; have := hsi.len; omega, _, rfl, ?_⟩
      rw [Stair.isB hsi]
      refine iteF ?_
      refine ⟨_, rfl, li, rfl, hsi, fun p3 H3 s3 hp3 => ?_⟩
      refine ⟨_, rfl, a, _, 0, vS l0, rfl, rfl, (s2.trans s3).seq ha, atI_nat (j := 0) (by rw [List.getElem?_map, hl0]; rfl), l0, rfl, hc.stair hm0, fun p4 H4 s4 hp4 => ?_⟩
      rw [hc.t li hmi, hc.f li hmi] at hp3
      rw [hc.t l0 hm0, hc.f l0 hm0] at hp4
      refine ⟨dHd h d, dHd h d, hd_dp (s4 _ _ hp3), hd_dp hp4, shHd h d, shHd h d, _, rfl, ?_⟩
      rw [eqHd]
      exact iteF ⟨_, _, rfl, (s2.trans s3).trans s4⟩
    · rintro σ H1 ⟨v1, v2, rfl, s1⟩
      exact ⟨⟨_, s1.seq ha, by rw [List.length_map]; exact Nat.le_refl _⟩, k H1 s1⟩
/-! ### check_slits -/
def OkS (h d : Nat) (ls : List (List Bool)) (cs : List C2) : Prop := ∀ c ∈ cs, ∃ e a : Nat, c = ((e : Int), (a : Int)) ∧ e ≤ ls.length ∧ a < h + d ∧ meetAt h d ls e a = true
def spCs (K : PySem.W.Frag) : Sp := fun vs H Q _ => ∃ (a b : Addr) (h d : Nat) (ls : List (List Bool)) (xs : List V) (cs : List C2), vs = [.ref a, .ref b] ∧ SqL K H a (ls.map vS) ∧ Cols h d ls ∧ SqL K H b xs ∧ Prs K H xs cs ∧ OkS h d ls cs ∧ ∀ H', Same H H' → Q .non H'
theorem scCs : FnScope ["columns", "slits", "edge", "at"] ["columns", "slits"] (defScope s_check_slits) := ⟨rfl, rfl, rfl, by decide +kernel, rfl, by decide +kernel, by decide +kernel⟩
theorem ok_cs {f : Addr} {fd : FuncData} (F : Fun K "check_slits" "check_slits" s_check_slits f fd) (gH : Ok P w K mg base 1 "has_cell" ["columns", "edge", "at"] (spHas K)) (gF : Ok P w K mg base 5 "fall_together" ["columns", "edge", "at"] (spFall K)) : FnOk P w K mg base CX0 6 f fd ["columns", "slits"] (spCs K) := by
  refine F.ok scCs (fun vs H Q E h => ?_) (fun cdv A outer s H vs Q E hr h => ?_)
  · obtain ⟨a, b, h, d, ls, xs, cs, rfl, _⟩ := h
    rfl
  · obtain ⟨a, b, h, d, ls, xs, cs, rfl, ha, hc, hb, hp, ho, k⟩ := h
    have nd := scCs.nd
    refine ⟨_, pss_one (ps_for PassesOwn.never rfl (pi_list (pv 1)) (pg_tup (by rfl) (pgs_cons (pg_name (i := 2) nd rfl (Or.inl rfl)) (pgs_cons (pg_name (i := 3) nd rfl (Or.inl rfl)) pgs_nil)))
      (pss_cons (ps_if (pt_not (pt_val (pe_ok gH hr (by rfl) (pa_cons (pv 0) (pa_cons (pv 2) (pa_cons (pv 3) pa_nil)))))) pss_never pss_nil)
      (pss_one (ps_if (pt_not (pt_val (pe_ok gF hr (by rfl) (pa_cons (pv 0) (pa_cons (pv 2) (pa_cons (pv 3) pa_nil)))))) pss_never pss_nil)))), ?_⟩
    refine ⟨_, rfl, b, rfl, ⟨_, hb⟩, for_list (K := K) (a := b) (xs := xs) (fun i σ H1 => ∃ v2 v3 : Option V, σ = [some (.ref a), some (.ref b), v2, v3] ∧ Same H H1) ⟨none, none, rfl, Same.refl H⟩ (fun i σ H1 _ ⟨_, _, _, s1⟩ => s1.seq hb) ?_ ?_⟩
    · rintro i x σ H1 hx ⟨v2, v3, rfl, s1⟩
      obtain ⟨c, hcc, p, rfl, hpp⟩ := paired_at hp hx
      obtain ⟨e, at', rfl, he, hat, hme⟩ := ho c (List.mem_of_getElem? hcc)
      refine ⟨p, _, rfl, SqT.of (s1 _ _ hpp), rfl, _, _, rfl, _, _, rfl, rfl, ?_⟩
      refine ⟨_, rfl, _, rfl, _, rfl, a, h, d, ls, _, _, rfl, .inl (s1.seq ha), hc, _, rfl, ?_⟩
      rw [show hasB ls.length (h + d) ((e : Nat) : Int) ((at' : Nat) : Int) = true from decide_eq_true ⟨by omega, by omega, by omega, by omega⟩]
      refine iteF ?_
      refine ⟨_, rfl, _, rfl, _, rfl, a, h, d, ls, e, at', rfl, .inl (s1.seq ha), hc, he, hat, fun H2 s2 => ⟨_, rfl, ?_⟩⟩
      rw [hme]
      exact iteF ⟨_, _, rfl, s1.trans s2⟩
    · rintro σ H1 ⟨v2, v3, rfl, s1⟩
      exact k H1 s1

end
end Toy

end
section
set_option maxHeartbeats 4000000
namespace Toy
open PySem L2
section
variable {P : Program} {w : World} {K : PySem.W.Frag} {mg : Str → Option Value} {base : Heap}
/-! ### a card as it stands -/
structure CardC (K : PySem.W.Frag) (C : Addr) : Prop where
  cls : Cls K C
  nc : NoAttr K C "columns"
  ng : NoAttr K C "gaps"
  ha : PySem.W.findIn K (.ref C) "__class__" = some (some (.builtin "object.__class__"))
  hn : PySem.W.specialIn K (.builtin "object.__class__") "__get__" = some (some (.builtin "getset_descriptor.__get__"))
  htk : PySem.W.takesIn K (.builtin "object.__class__") = some true
  hm : PySem.W.mroIn K C (.type "object") = some true
  kit : PySem.W.kitOne K (.ref C) (.ref C) = some true
def CardAt (K : PySem.W.Frag) (C : Addr) (H : Hp) (p : Addr) (ls : List (List Bool)) (cs : List C2) : Prop :=
  ∃ (dx t1 t2 : Addr) (xs : List V), H p = some (.ins C dx [("columns", .ref t1), ("gaps", .ref t2)]) ∧ H t1 = some (.tup (ls.map vS)) ∧ H t2 = some (.tup xs) ∧ Prs K H xs cs
theorem CardAt.keep {C : Addr} {H H' : Hp} {p : Addr} {ls : List (List Bool)} {cs : List C2} (c : CardAt K C H p ls cs) (s : Same H H') : CardAt K C H' p ls cs := by
  obtain ⟨dx, t1, t2, xs, h1, h2, h3, h4⟩ := c
  exact ⟨dx, t1, t2, xs, s _ _ h1, s _ _ h2, s _ _ h3, Prs.keep s h4⟩
theorem OkS.perm {h d : Nat} {ls : List (List Bool)} {cs cs' : List C2} (o : OkS h d ls cs) (p : cs'.Perm cs) : OkS h d ls cs' := fun c m => o c (p.mem_iff.mp m)
/-! ### Card(stairs, slits) -/
/-- what is handed in as slits: none, or a list of pairs -/
def SlitArg (K : PySem.W.Frag) (H : Hp) (v : V) (cs : List C2) : Prop := (v = .non ∧ cs = []) ∨ ∃ (b : Addr) (xs : List V), v = .ref b ∧ SqL K H b xs ∧ Prs K H xs cs
theorem SlitArg.lst {H : Hp} {b : Addr} {xs : List V} {cs : List C2} (h1 : SqL K H b xs) (h2 : Prs K H xs cs) : SlitArg K H (.ref b) cs := .inr ⟨b, xs, rfl, h1, h2⟩
theorem SlitArg.keep {H H' : Hp} {v : V} {cs : List C2} (h : SlitArg K H v cs) (s : Same H H') : SlitArg K H' v cs := by
  rcases h with h | ⟨b, xs, e, h1, h2⟩
  · exact .inl h
  · exact .inr ⟨b, xs, e, s.seq h1, Prs.keep s h2⟩
theorem slit_split {H0 : Hp} {v : V} {cs : List C2} {σ : St} {W : VK} (hs : SlitArg K H0 v cs) (hv : σ[2]? = some (some v)) (k : ∀ (b : Addr) (xs : List V) (H1 : Hp), Same H0 H1 → SqL K H1 b xs → Prs K H1 xs cs → W (.ref b) H1) :
    if (decide (v = V.non)) = true then tLst tNil σ H0 W else tVar 2 σ H0 W := by
  rcases hs with ⟨rfl, rfl⟩ | ⟨b, xs, rfl, h1, h2⟩
  · rw [decide_eq_true rfl, if_pos rfl]
    exact ⟨Nat.zero_le _, fun p hp => k p [] _ ((Same.refl H0).new' hp) (SqL.of upd_same) .nil⟩
  · rw [decide_eq_false (fun z => nomatch z), if_neg (by decide)]
    exact ⟨_, hv, k b xs H0 (Same.refl H0) h1 h2⟩
def spCInit (K : PySem.W.Frag) (C : Addr) : Sp := fun vs H Q _ => ∃ (p a dx : Addr) (h d : Nat) (ls : List (List Bool)) (v : V) (cs : List C2), vs = [.ref p, .ref a, v] ∧ H p = some (.ins C dx []) ∧ SqL K H a (ls.map vS) ∧ Cols h d ls ∧ SlitArg K H v cs ∧ cs.Nodup ∧ cs.length ≤ 4 ∧ OkS h d ls cs ∧
  ∀ (H' : Hp) (cs' : List C2), (∀ b o, b ≠ p → H b = some o → H' b = some o) → CardAt K C H' p ls cs' → cs'.Perm cs → Rising cs' → Q .non H'
abbrev nmCInit : List Str := ["self", "stairs", "slits", "rising"]
theorem scCInit : FnScope nmCInit ["self", "stairs", "slits"] (defScope s_Card_init) := ⟨rfl, rfl, rfl, by decide +kernel, rfl, by decide +kernel, by decide +kernel⟩
theorem ok_cinit {C f : Addr} {fd : FuncData} (F : FunD K "__init__" "Card.__init__" s_Card_init f fd [.none]) (Z : CardC K C)
    (gE : Ok P w K mg base 5 "check_columns" ["columns"] (spCc K)) (gG : Ok P w K mg base 6 "check_slits" ["columns", "slits"] (spCs K)) (T : Blt mg) (Ts : mg "sorted" = none) (Tt : mg "set" = none) : FnOk P w K mg base CX0 7 f fd ["self", "stairs", "slits"] (spCInit K C) := by
  refine F.ok0 scCInit (fun vs H Q E h => ?_) (fun cdv A outer s H vs Q E hr h => ?_)
  · obtain ⟨p, a, dx, h, d, ls, v, cs, rfl, _⟩ := h
    rfl
  · obtain ⟨p, a, dx, h, d, ls, v, cs, rfl, hp, ha, hc, hsl, hnd, h4, ho, k⟩ := h
    have nd := scCInit.nd
    refine ⟨_, pss_cons (ps_expr (pe_ok gE hr (by rfl) (pa_cons (pv 1) pa_nil)))
      (pss_cons (ps_set (i := 3) nd rfl (Or.inl rfl) (pe_sortedSet hr.hd hr.units (by rfl) Ts (by rfl) Tt (pe_ifExp (pt_cmpR op_isN (pv 2) pe_non (nomark _)) (pe_lst pa_nil) (pv 2))))
      (pss_cons (ps_expr (pe_ok gG hr (by rfl) (pa_cons (pv 1) (pa_cons (pv 3) pa_nil))))
      (pss_cons (ps_fld (pv 0) (pe_callTy call_tuple_of (by rfl) T.tuple boot_tuple (pa_cons (pv 1) pa_nil)) (by rfl))
      (pss_one (ps_fld (pv 0) (pe_callTy call_tuple_of (by rfl) T.tuple boot_tuple (pa_cons (pv 3) pa_nil)) (by rfl)))))), ?_⟩
    refine ⟨_, rfl, a, h, d, ls, rfl, ha, hc, fun H0 s0 => ?_⟩
    refine ⟨_, rfl, rfl, _, rfl, ?_⟩
    refine slit_split (hsl.keep s0) rfl fun b xs H1 s01 hb hpr => ?_
    have s1 : Same H H1 := s0.trans s01
    refine ⟨b, xs, cs, rfl, hb, hpr, hnd, h4, fun xs' cs' l hp' pm ri hl => ?_⟩
    have s2 : Same H (upd H1 l (.lst xs')) := s1.new' hl
    have sl : Same H1 (upd H1 l (.lst xs')) := (Same.refl H1).new' hl
    refine ⟨_, rfl, _, rfl, a, l, h, d, ls, xs', cs', rfl, s2.seq ha, hc, SqL.of upd_same, Prs.keep sl hp', ho.perm pm, fun H3 s3 => ?_⟩
    have hp3 := s3 _ _ (s2 _ _ hp)
    refine ⟨_, rfl, a, _, rfl, .inl ⟨(s2.trans s3).seq ha, fun t1 ht1 => ?_⟩⟩
    have n1 : p ≠ t1 := ne_of_none hp3 ht1
    refine ⟨_, rfl, p, C, dx, [], rfl, by rw [upd_ne n1]; exact hp3, Z.cls, Z.nc, by decide, ?_⟩
    have hl3 : H3 l = some (.lst xs') := s3 _ _ upd_same
    have nlp : l ≠ p := fun z => by rw [z, hp3] at hl3; cases hl3
    have nlt : l ≠ t1 := ne_of_none hl3 ht1
    refine ⟨_, rfl, l, _, rfl, .inl ⟨SqL.of (by rw [upd_ne nlp, upd_ne nlt]; exact hl3), fun t2 ht2 => ?_⟩⟩
    have n2 : p ≠ t2 := ne_of_none upd_same ht2
    have n12 : t1 ≠ t2 := ne_of_none (by rw [upd_ne n1.symm]; exact upd_same) ht2
    refine ⟨_, rfl, p, C, dx, _, rfl, by rw [upd_ne n2]; exact upd_same, Z.cls, Z.ng, by show 1 < 1000; decide, ?_⟩
    have keep : ∀ b o, b ≠ p → H3 b = some o → (upd (upd (upd (upd H3 t1 (.tup (ls.map vS))) p (.ins C dx [("columns", .ref t1)])) t2 (.tup xs')) p (.ins C dx [("columns", .ref t1), ("gaps", .ref t2)])) b = some o := by
      intro b o hb e
      have e2 : (upd H3 t1 (.tup (ls.map vS))) b = some o := by rw [upd_ne (ne_of_none e ht1)]; exact e
      have e3 : (upd (upd H3 t1 (.tup (ls.map vS))) p (.ins C dx [("columns", .ref t1)])) b = some o := by rw [upd_ne hb]; exact e2
      rw [upd_ne hb, upd_ne (ne_of_none e3 ht2)]
      exact e3
    refine k _ cs' (fun b o hb e => keep b o hb (s3 _ _ (s2 _ _ e))) ⟨dx, t1, t2, xs', upd_same, ?_, ?_, ?_⟩ pm ri
    · rw [upd_ne n1.symm, upd_ne n12, upd_ne n1.symm, upd_same]
    · rw [upd_ne n2.symm, upd_same]
    · have hp3' := Prs.keep (sl.trans s3) hp'
      refine Paired.imp' (fun v c q => ?_) hp3'
      obtain ⟨q', rfl, hq'⟩ := q
      exact ⟨q', rfl, keep q' _ (fun z => by rw [z, hp3] at hq'; cases hq') hq'⟩
/-! ### what a card tells -/
def spHt (K : PySem.W.Frag) (C : Addr) : Sp := fun vs H Q _ => ∃ (p : Addr) (h d : Nat) (ls : List (List Bool)) (cs : List C2), vs = [.ref p] ∧ CardAt K C H p ls cs ∧ Cols h d ls ∧ Q (.int (h : Nat)) H
def spDp (K : PySem.W.Frag) (C : Addr) : Sp := fun vs H Q _ => ∃ (p : Addr) (h d : Nat) (ls : List (List Bool)) (cs : List C2), vs = [.ref p] ∧ CardAt K C H p ls cs ∧ Cols h d ls ∧ Q (.int (d : Nat)) H
def spCe (K : PySem.W.Frag) (C : Addr) : Sp := fun vs H Q _ => ∃ (p : Addr) (h d : Nat) (ls : List (List Bool)) (cs : List C2), vs = [.ref p] ∧ CardAt K C H p ls cs ∧ Cols h d ls ∧ Q (.int ((h + d : Nat) : Int)) H
def spSt (K : PySem.W.Frag) (C : Addr) : Sp := fun vs H Q _ => ∃ (p : Addr) (ls : List (List Bool)) (cs : List C2), vs = [.ref p] ∧ CardAt K C H p ls cs ∧ ∀ (l : Addr) (H' : Hp), Same H H' → H' l = some (.lst (ls.map vS)) → H l = none → Q (.ref l) H'
def spSl (K : PySem.W.Frag) (C : Addr) : Sp := fun vs H Q _ => ∃ (p : Addr) (ls : List (List Bool)) (cs : List C2), vs = [.ref p] ∧ CardAt K C H p ls cs ∧ ∀ (l : Addr) (H' : Hp), Same H H' → PL K H' l cs → H l = none → Q (.ref l) H'
theorem scSt : FnScope ["self"] ["self"] (defScope s_Card_stairs) := ⟨rfl, rfl, rfl, by decide +kernel, rfl, by decide +kernel, by decide +kernel⟩
theorem scSl : FnScope ["self"] ["self"] (defScope s_Card_slits) := ⟨rfl, rfl, rfl, by decide +kernel, rfl, by decide +kernel, by decide +kernel⟩
theorem first_col {h d : Nat} {ls : List (List Bool)} (hc : Cols h d ls) : ∃ l0, ls[0]? = some l0 ∧ l0 ∈ ls := by
  have hl0 : ls[0]? = some (ls[0]'(by have := hc.n1; omega)) := List.getElem?_eq_getElem _
  exact ⟨_, hl0, List.mem_of_getElem? hl0⟩
theorem ok_st {C f : Addr} {fd : FuncData} (F : Fun K "stairs" "Card.stairs" s_Card_stairs f fd) (Z : CardC K C) (T : Blt mg) : FnOk P w K mg base CX0 1 f fd ["self"] (spSt K C) := by
  refine F.ok scSt (fun vs H Q E h => ?_) (fun cdv A outer s H vs Q E hr h => ?_)
  · obtain ⟨p, ls, cs, rfl, _⟩ := h
    rfl
  · obtain ⟨p, ls, cs, rfl, ⟨dx, t1, t2, xs, e1, e2, e3, e4⟩, k⟩ := h
    refine ⟨_, pss_one (ps_ret (pe_callTy call_list_of (by rfl) T.list boot_list (pa_cons (pe_fld (pv 0) (by rfl)) pa_nil))), ?_⟩
    exact ⟨_, rfl, p, C, dx, _, .ref t1, rfl, e1, Z.cls, Z.nc, rfl, t1, _, rfl, .inr (SqT.of e2), fun l hl => k l _ ((Same.refl H).new' hl) upd_same hl⟩
theorem ok_sl {C f : Addr} {fd : FuncData} (F : Fun K "slits" "Card.slits" s_Card_slits f fd) (Z : CardC K C) (T : Blt mg) : FnOk P w K mg base CX0 1 f fd ["self"] (spSl K C) := by
  refine F.ok scSl (fun vs H Q E h => ?_) (fun cdv A outer s H vs Q E hr h => ?_)
  · obtain ⟨p, ls, cs, rfl, _⟩ := h
    rfl
  · obtain ⟨p, ls, cs, rfl, ⟨dx, t1, t2, xs, e1, e2, e3, e4⟩, k⟩ := h
    refine ⟨_, pss_one (ps_ret (pe_callTy call_list_of (by rfl) T.list boot_list (pa_cons (pe_fld (pv 0) (by rfl)) pa_nil))), ?_⟩
    exact ⟨_, rfl, p, C, dx, _, .ref t2, rfl, e1, Z.cls, Z.ng, rfl, t2, _, rfl, .inr (SqT.of e3), fun l hl => k l _ ((Same.refl H).new' hl) ⟨xs, upd_same, Prs.keep ((Same.refl H).new' hl) e4⟩ hl⟩

end
end Toy

end
section
set_option maxHeartbeats 4000000
namespace Toy
open PySem L2
section
variable {P : Program} {w : World} {K : PySem.W.Frag} {mg : Str → Option Value} {base : Heap}
/-! ### cards that are ones -/
structure CardV (h d : Nat) (ls : List (List Bool)) (cs : List C2) : Prop where
  c : Cols h d ls
  o : OkS h d ls cs
  nd : cs.Nodup
  n4 : cs.length ≤ 4
  ri : Rising cs
theorem card_new {C x dx a : Addr} {v : V} {h d : Nat} {ls : List (List Bool)} {cs : List C2} {H : Hp} {W : VK} {E : XK} (hx : H x = none) (hdx : H dx = none) (ne : dx ≠ x) (ha : SqL K H a (ls.map vS)) (hc : Cols h d ls) (hs : SlitArg K H v cs) (hnd : cs.Nodup) (h4 : cs.length ≤ 4) (ho : OkS h d ls cs)
    (k : ∀ (H' : Hp) (cs' : List C2), Same H H' → CardAt K C H' x ls cs' → cs'.Perm cs → CardV h d ls cs' → W .non H') : spCInit K C [.ref x, .ref a, v] (upd (upd H dx (.own x)) x (.ins C dx [])) W E := by
  have s0 : Same H (upd (upd H dx (.own x)) x (.ins C dx [])) := ((Same.refl H).new' hdx).new' (by rw [upd_ne ne.symm]; exact hx)
  refine ⟨x, a, dx, h, d, ls, v, cs, rfl, upd_same, s0.seq ha, hc, hs.keep s0, hnd, h4, ho, fun H' cs' keep card pm ri => ?_⟩
  exact k H' cs' (fun b o e => keep b o (ne_of_none e hx) (s0 _ _ e)) card pm ⟨hc, ho.perm pm, pm.nodup_iff.mpr hnd, by rw [pm.length_eq]; exact h4, ri⟩
theorem CardAt.seen {C : Addr} {H : Hp} {p : Addr} {ls : List (List Bool)} {cs : List C2} (c : CardAt K C H p ls cs) : ∃ dx t1 t2, H p = some (.ins C dx [("columns", .ref t1), ("gaps", .ref t2)]) := by
  obtain ⟨dx, t1, t2, xs, h1, _⟩ := c
  exact ⟨dx, t1, t2, h1⟩

end
end Toy

end
section
set_option maxHeartbeats 4000000
namespace Toy
open PySem L2
section
variable {P : Program} {w : World} {K : PySem.W.Frag} {mg : Str → Option Value} {base : Heap}
/-! ### mirrored and turned: what falls together goes on doing so -/
def mirC (n : Nat) (c : C2) : C2 := ((n : Int) - c.1, c.2)
def turC (m : Nat) (c : C2) : C2 := (c.1, (m : Int) - 1 - c.2)
theorem nodup_inj {α β : Type} {f : α → β} (hf : ∀ x y, f x = f y → x = y) {l : List α} (h : l.Nodup) : (l.map f).Nodup := by
  unfold List.Nodup at h ⊢
  rw [List.pairwise_map]
  exact h.imp fun ne e => ne (hf _ _ e)
theorem mirC_inj (n : Nat) (x y : C2) (h : mirC n x = mirC n y) : x = y := by
  obtain ⟨x1, x2⟩ := x
  obtain ⟨y1, y2⟩ := y
  unfold mirC at h
  injection h with h1 h2
  dsimp only at h1 h2
  rw [h2, show x1 = y1 by omega]
theorem Cols.rev {h d : Nat} {ls : List (List Bool)} (c : Cols h d ls) : Cols h d ls.reverse :=
  ⟨by rw [List.length_reverse]; exact c.n1, by rw [List.length_reverse]; exact c.n8, c.hd, fun l m => c.t l (List.mem_reverse.mp m), fun l m => c.f l (List.mem_reverse.mp m)⟩
theorem ext_rev (h d : Nat) (ls : List (List Bool)) : extL h d ls.reverse = (extL h d ls).reverse := by simp [extL]
theorem meetB_symm (u v : List Bool) (a : Nat) : meetB u v a = meetB v u a := by
  unfold meetB
  rw [Bool.beq_comm]
  congr 1
  exact decide_eq_decide.mpr ⟨fun h => h.symm, fun h => h.symm⟩
theorem meet_mir {h d : Nat} {ls : List (List Bool)} {e a : Nat} (he : e ≤ ls.length) : meetAt h d ls.reverse (ls.length - e) a = meetAt h d ls e a := by
  unfold meetAt
  rw [ext_rev, meetB_symm]
  have g : ∀ i j, i + j = ls.length + 1 → (extL h d ls).reverse.getD i [] = (extL h d ls).getD j [] := by
    intro i j hij
    rw [List.getD_eq_getElem?_getD, List.getD_eq_getElem?_getD, List.getElem?_reverse (by rw [ext_len]; omega), ext_len]
    congr 2
    omega
  rw [g (ls.length - e + 1) e (by omega), g (ls.length - e) (e + 1) (by omega)]
theorem OkS.mir {h d : Nat} {ls : List (List Bool)} {cs : List C2} (o : OkS h d ls cs) : OkS h d ls.reverse (cs.map (mirC ls.length)) := by
  intro c m
  obtain ⟨c', m', rfl⟩ := List.mem_map.mp m
  obtain ⟨e, a, rfl, he, ha, hm⟩ := o c' m'
  refine ⟨ls.length - e, a, ?_, by rw [List.length_reverse]; omega, ha, by rw [meet_mir he]; exact hm⟩
  unfold mirC
  dsimp only
  rw [show ((ls.length : Nat) : Int) - (e : Int) = ((ls.length - e : Nat) : Int) by omega]

end
end Toy

end
section
set_option maxHeartbeats 4000000
namespace Toy
open PySem L2
section
variable {P : Program} {w : World} {K : PySem.W.Frag} {mg : Str → Option Value} {base : Heap}
/-! ### stair_ok, sides as the law has them -/
theorem sign_is (c d : Nat) : decide (V.str ⟨#[c]⟩ = V.str ⟨#[d]⟩) = decide (c = d) := by
  refine decide_eq_decide.mpr ⟨fun h => ?_, fun h => by rw [h]⟩
  have := congrArg (fun v => match v with | V.str s => s.cps.toList | _ => []) h
  simpa using this
/-- the signs of one kind, counted by a comprehension -/
theorem cnt_lc {σ : St} {z : Str} {d : Nat} {i : Nat} {H1 : Hp} {D : Addr} {Qd : Hp → Prop} (hz : z.length ≤ 1000) (hi : ∀ v : V, (((wipe σ [i]).set i (some v))[i]?) = some (some v)) (hw : ∀ v : V, wipe ((wipe σ [i]).set i (some v)) [i] = wipe σ [i]) (hD : H1 D = none)
    (k : ∀ (H2 : Hp) (acc : List V), H2 D = some (.lst acc) → acc.length = z.cps.toList.count d → Same H1 H2 → Qd H2) :
    ∃ W : Nat → Nat → Hp → Prop, (∃ m, W 0 m (upd H1 D (.lst []))) ∧ ∀ j m H, W j m H →
      ((Its z).stop j H ∧ Qd H) ∨ ((Its z).go j H ∧ ∃ Nx : Hp → Prop, (∀ H', Nx H' → ∃ m', m' < m ∧ W (j + 1) m' H') ∧ ∀ x H', (Its z).yld j H x H' → gName i x (wipe σ [i]) H' fun σ2 H2 => wipe σ2 [i] = wipe σ [i] ∧ (tTest (tOp rEq (tVar i) (tC (.str ⟨#[d]⟩)))) σ2 H2 fun b H3 =>
        if b = true then (tVar i) σ2 H3 fun y H4 => ∃ acc, H4 D = some (.lst acc) ∧ acc.length < sizeLine ∧ Nx (upd H4 D (.lst (acc ++ [y]))) else Nx H3) := by
  refine lc_it (n := z.cps.size) (fun j H2 => ∃ acc, H2 D = some (.lst acc) ∧ acc.length = (z.cps.toList.take j).count d ∧ Same H1 H2) ⟨[], upd_same, rfl, (Same.refl H1).new' hD⟩ ?_ ?_
  · rintro j H2 hj ⟨acc, hD2, hl, s2⟩
    refine ⟨hj, ?_⟩
    rintro x H' ⟨rfl, c, hc, rfl⟩
    have hc' : z.cps.toList[j]? = some c := by rw [Array.getElem?_toList]; exact hc
    have etk : z.cps.toList.take (j + 1) = z.cps.toList.take j ++ [c] := by rw [List.take_succ, hc']; rfl
    refine ⟨hw _, _, hi _, rfl, _, rfl, ?_⟩
    rw [sign_is]
    have hlen : acc.length ≤ 1000 := by
      rw [hl]
      refine Nat.le_trans (List.count_le_length) ?_
      rw [List.length_take]
      have : z.cps.toList.length = z.length := by simp [Str.length]
      omega
    by_cases e : c = d
    · rw [decide_eq_true e]
      refine iteT ⟨_, hi _, acc, hD2, small1000 hlen, acc ++ [.str ⟨#[c]⟩], upd_same, ?_, ?_⟩
      · rw [etk, List.count_append, List.length_append, hl, e]
        simp
      · intro b o eb
        rw [upd_ne (ne_of_none eb hD)]
        exact s2 b o eb
    · rw [decide_eq_false e]
      refine iteF ⟨acc, hD2, ?_, s2⟩
      rw [etk, List.count_append, hl]
      simp [e]
  · rintro H2 ⟨acc, hD2, hl, s2⟩
    refine ⟨Nat.le_refl _, k H2 acc hD2 ?_ s2⟩
    rw [hl, List.take_of_length_le (by simp)]

end
end Toy

end
section
set_option maxHeartbeats 4000000
namespace Toy
open PySem L2
section
variable {P : Program} {w : World} {K : PySem.W.Frag} {mg : Str → Option Value} {base : Heap}
def spSidesL : Sp := fun vs H Q _ => ∃ z : Str, vs = [.str z] ∧ z.length ≤ 1000 ∧ ∀ (p : Addr) (H' : Hp), Same H H' → H' p = some (.tup [.int (Txt.count z "w"), .int ((z.length : Nat) - Txt.count z "w")]) → Q (.ref p) H'
theorem scSidesL : FnScope ["_law_stair_here", "_law_shuts", "_law_sign"] ["_law_stair_here"] (defScope s__law_sides) := ⟨rfl, rfl, rfl, by decide +kernel, rfl, by decide +kernel, by decide +kernel⟩
theorem ok_sidesL {f : Addr} {fd : FuncData} (F : Fun K "_law_sides" "_law_sides" s__law_sides f fd) (T : Blt mg) : FnOk P w K mg base CX0 1 f fd ["_law_stair_here"] spSidesL := by
  refine F.ok scSidesL (fun vs H Q E h => ?_) (fun cdv A outer s H vs Q E hr h => ?_)
  · obtain ⟨z, rfl, _⟩ := h
    rfl
  · obtain ⟨z, rfl, hz, k⟩ := h
    have nd := scSidesL.nd
    refine ⟨_, pss_cons (ps_set (i := 1) nd rfl (Or.inl rfl) (pe_callB call_len_seq (by rfl) T.len PySem.boot_len (pa_cons (pe_lc (own := [("_law_sign", 2)]) (g := gName 2) (by rfl) nd (pi_str (pv 0)) (blkOk_by (own := [("_law_sign", 2)]) (N := ["_law_stair_here", "_law_shuts", "_law_sign"]) (sc := defScope s__law_sides) (by decide +kernel))
        (fun _ _ _ _ _ => pg_name (i := 2) nd rfl (Or.inl rfl)) (fun _ _ _ _ _ => pts_one (pt_cmpR op_eq (pv 2) pe_str (nomark _))) (fun _ _ _ _ _ => pv 2)) pa_nil)))
      (pss_one (ps_ret (pe_tup (pa_cons (pv 1) (pa_cons (pe_op op_sub (pe_callB call_len_str (by rfl) T.len PySem.boot_len (pa_cons (pv 0) pa_nil)) (pv 1)) pa_nil))))), ?_⟩
    refine ⟨_, rfl, z, rfl, fun D hD => cnt_lc (d := 119) (i := 2) hz (fun v => rfl) (fun v => rfl) hD fun H2 acc hD2 hl s2 => ?_⟩
    refine ⟨D, acc, rfl, .inl (SqL.of hD2), ?_⟩
    have ew : ((acc.length : Nat) : Int) = Txt.count z "w" := by rw [hl]; exact (count_sign z 119).symm
    rw [ew]
    refine ⟨_, rfl, _, rfl, z, rfl, small_line' hz, _, rfl, _, _, rfl, rfl, (by show 2 ≤ sizeLine; decide), fun p hp => k p _ (s2.new' hp) ?_⟩
    rw [upd_same]

end
end Toy

end
section
set_option maxHeartbeats 4000000
namespace Toy
open PySem L2
section
variable {P : Program} {w : World} {K : PySem.W.Frag} {mg : Str → Option Value} {base : Heap}
/-! ### the law's own look: columns, what meets -/
def spCol (K : PySem.W.Frag) : Sp := fun vs H Q _ => ∃ (a : Addr) (c : Int) (h d : Nat) (ls : List (List Bool)) (j : Nat), vs = [.ref a, .int c] ∧ c = (j : Int) - 1 ∧ SqL K H a (ls.map vS) ∧ Cols h d ls ∧ j ≤ ls.length + 1 ∧ ∀ H', Same H H' → Q (vS ((extL h d ls).getD j [])) H'
abbrev nmCol : List Str := ["_law_stairs_in", "_law_column_here", "_law_high", "_law_far_here"]
theorem scCol : FnScope nmCol ["_law_stairs_in", "_law_column_here"] (defScope s__law_column) := ⟨rfl, rfl, rfl, by decide +kernel, rfl, by decide +kernel, by decide +kernel⟩
theorem ext_leafN (h d : Nat) (ls : List (List Bool)) : (extL h d ls).getD (ls.length + 1) [] = leafB h d := by
  rw [List.getD_eq_getElem?_getD]
  unfold extL
  rw [List.getElem?_cons_succ, List.getElem?_append_right (Nat.le_refl _)]
  simp
theorem ext_mid (h d : Nat) {ls : List (List Bool)} {i : Nat} {l : List Bool} (hl : ls[i]? = some l) : (extL h d ls).getD (i + 1) [] = l := by
  rw [List.getD_eq_getElem?_getD]
  unfold extL
  rw [List.getElem?_cons_succ, List.getElem?_append_left (List.getElem?_eq_some_iff.mp hl).1, hl]
  rfl
theorem ok_col {f fD : Addr} {fd fdD : FuncData} (F : Fun K "_law_column" "_law_column" s__law_column f fd) (FD : Fun K "_law_sides" "_law_sides" s__law_sides fD fdD) (bD : Binds K fdD ["_law_stair_here"] []) (mD : mg "_law_sides" = some (.ref fD)) (T : Blt mg) : FnOk P w K mg base CX0 2 f fd ["_law_stairs_in", "_law_column_here"] (spCol K) := by
  have GD : FnOk P w K mg base CX0 1 fD fdD ["_law_stair_here"] spSidesL := ok_sidesL FD T
  refine F.ok scCol (fun vs H Q E h => ?_) (fun cdv A outer s H vs Q E hr h => ?_)
  · obtain ⟨a, c, h, d, ls, j, rfl, _⟩ := h
    rfl
  · obtain ⟨a, c, h, d, ls, j, rfl, hcj, ha, hc, hj, k⟩ := h
    have nd := scCol.nd
    obtain ⟨l0, hl0, hm0⟩ := first_col hc
    refine ⟨_, pss_cons (ps_if (pt_chain op_le op_lt pe_int (pv 1) (pe_callB call_len_seq (by rfl) T.len PySem.boot_len (pa_cons (pv 0) pa_nil))) (pss_one (ps_ret (pe_ix ix_list (pv 0) (pv 1) (fun _ _ => rfl)))) pss_nil)
      (pss_cons (ps_asg (pe_call GD hr (by rfl) mD FD.kp bD .nil pass0 (pa_cons (pe_ix ix_list (pv 0) pe_int (fun _ _ => rfl)) pa_nil)) (pg_tup (by rfl) (pgs_cons (pg_name (i := 2) nd rfl (Or.inl rfl)) (pgs_cons (pg_name (i := 3) nd rfl (Or.inl rfl)) pgs_nil))))
      (pss_one (ps_ret (pe_op op_add_str (pe_op op_mulS pe_str (pv 2)) (pe_op op_mulS pe_str (pv 3)))))), ?_⟩
    have hlen0 := hc.len hm0
    have hhd := hc.hd
    have leafy : (extL h d ls).getD j [] = leafB h d → _ := fun e => (show tSeq (tAsg (tCall spSidesL [] E0 (tCons (tOp (rIxL K) (tVar 0) (tC (.int 0))) tNil)) (gTup K 2 (gCons (gName 2) (gCons (gName 3) gNil)))) (tRet (tOp (fun x y H Q => ∃ i j, x = .str i ∧ y = .str j ∧ i.length + j.length ≤ sizeLine ∧ Q (.str (i ++ j)) H) (tOp (fun x y H Q => ∃ z n, x = .str z ∧ y = .int n ∧ MulOk z n ∧ Q (.str (Txt.mul z n)) H) (tC (.str "w")) (tVar 2)) (tOp (fun x y H Q => ∃ z n, x = .str z ∧ y = .int n ∧ MulOk z n ∧ Q (.str (Txt.mul z n)) H) (tC (.str "f")) (tVar 3)))) { nx := fun _ H' => Q .non H', rt := Q } [some (.ref a), some (.int c), none, none] H from by
      refine ⟨_, rfl, a, _, 0, vS l0, rfl, rfl, ha, atI_nat (j := 0) (by rw [List.getElem?_map, hl0]; rfl), stS l0, rfl, by rw [stS_len]; omega, fun p H1 s1 hp => ?_⟩
      rw [count_w, stS_len, hlen0, hc.t l0 hm0, show ((h + d : Nat) : Int) - ((h : Nat) : Int) = ((d : Nat) : Int) by omega] at hp
      refine ⟨p, _, rfl, SqT.of hp, rfl, _, _, rfl, _, _, rfl, rfl, ?_⟩
      refine ⟨_, rfl, _, _, rfl, rfl, mulW hhd.1 hhd.2.1, _, rfl, _, _, rfl, rfl, mulF hhd.2.2.1 hhd.2.2.2, _, _, rfl, rfl, ?_, ?_⟩
      · rw [mulW_eq hhd.2.1, mulF_eq hhd.2.2.2, stS_len, stS_len, List.length_replicate, List.length_replicate]
        exact small_line' (by omega)
      · rw [mulW_eq hhd.2.1, mulF_eq hhd.2.2.2, stS_append]
        have k' := k H1 s1
        rw [e] at k'
        exact k')
    refine ⟨_, rfl, _, _, rfl, rfl, _, rfl, ite2 (fun q1 => ?_) (fun q1 => ?_)⟩
    · have q1 := of_decide_eq_true q1
      refine ⟨_, rfl, a, _, rfl, .inl ha, _, _, rfl, rfl, _, rfl, ?_⟩
      rw [List.length_map]
      refine ite2 (fun q2 => ?_) (fun q2 => ?_)
      · have q2 := of_decide_eq_true q2
        obtain ⟨i, rfl⟩ : ∃ i, j = i + 1 := ⟨j - 1, by omega⟩
        have hi : i < ls.length := by omega
        have hli : ls[i]? = some ls[i] := List.getElem?_eq_getElem hi
        generalize ls[i] = li at hli
        have e : c = ((i : Nat) : Int) := by omega
        have k' := k H (Same.refl H)
        rw [ext_mid h d hli] at k'
        exact ⟨_, rfl, _, rfl, a, _, _, vS li, rfl, rfl, ha, by rw [e]; exact atI_nat (by rw [List.getElem?_map, hli]; rfl), k'⟩
      · have q2 : ¬ c < ((ls.length : Nat) : Int) := fun z => q2 (decide_eq_true z)
        have e : j = ls.length + 1 := by omega
        exact leafy (by rw [e]; exact ext_leafN h d ls)
    · have q1 : ¬ 0 ≤ c := fun z => q1 (decide_eq_true z)
      have e : j = 0 := by omega
      exact ⟨_, rfl, iteF (leafy (by rw [e]; rfl))⟩
def spMeets (K : PySem.W.Frag) : Sp := fun vs H Q _ => ∃ (a : Addr) (h d : Nat) (ls : List (List Bool)) (e at' : Nat), vs = [.ref a, .int (e : Nat), .int (at' : Nat)] ∧ SqL K H a (ls.map vS) ∧ Cols h d ls ∧ e ≤ ls.length ∧ at' < h + d ∧ ∀ H', Same H H' → Q (.bl (meetAt h d ls e at')) H'
abbrev nmMeets : List Str := ["_law_stairs_in", "_law_edge", "_law_at", "_law_one", "_law_other_here"]
theorem scMeets : FnScope nmMeets ["_law_stairs_in", "_law_edge", "_law_at"] (defScope s__law_meets) := ⟨rfl, rfl, rfl, by decide +kernel, rfl, by decide +kernel, by decide +kernel⟩
theorem ok_meets {f fL fD : Addr} {fd fdL fdD : FuncData} (F : Fun K "_law_meets" "_law_meets" s__law_meets f fd) (FL : Fun K "_law_column" "_law_column" s__law_column fL fdL) (bL : Binds K fdL ["_law_stairs_in", "_law_column_here"] []) (mL : mg "_law_column" = some (.ref fL))
    (FD : Fun K "_law_sides" "_law_sides" s__law_sides fD fdD) (bD : Binds K fdD ["_law_stair_here"] []) (mD : mg "_law_sides" = some (.ref fD)) (T : Blt mg) : FnOk P w K mg base CX0 3 f fd ["_law_stairs_in", "_law_edge", "_law_at"] (spMeets K) := by
  have GD : FnOk P w K mg base CX0 1 fD fdD ["_law_stair_here"] spSidesL := ok_sidesL FD T
  have GL : FnOk P w K mg base CX0 2 fL fdL ["_law_stairs_in", "_law_column_here"] (spCol K) := ok_col FL FD bD mD T
  refine F.ok scMeets (fun vs H Q E h => ?_) (fun cdv A outer s H vs Q E hr h => ?_)
  · obtain ⟨a, h, d, ls, e, at', rfl, _⟩ := h
    rfl
  · obtain ⟨a, h, d, ls, e, at', rfl, ha, hc, he, hat, k⟩ := h
    have nd := scMeets.nd
    have hu := hr.units
    have hr1 : Room 1 _ := hr.mono (by decide)
    refine ⟨_, pss_cons (ps_set (i := 3) nd rfl (Or.inl rfl) (pe_call GL hr (by rfl) mL FL.kp bL .nil pass0 (pa_cons (pv 0) (pa_cons (pe_op op_sub (pv 1) pe_int) pa_nil))))
      (pss_cons (ps_set (i := 4) nd rfl (Or.inl rfl) (pe_call GL hr (by rfl) mL FL.kp bL .nil pass0 (pa_cons (pv 0) (pa_cons (pv 1) pa_nil))))
      (pss_cons (ps_if (pt_cmpR op_ne (pe_ix ix_str (pv 3) (pv 2) (fun _ _ => rfl)) (pe_ix ix_str (pv 4) (pv 2) (fun _ _ => rfl)) (nomark _)) (pss_one (ps_ret pe_bl)) pss_nil)
      (pss_one (ps_ret (pe_cmpR (by exact op_eqD hu) (pe_call GD hr1 (by rfl) mD FD.kp bD .nil pass0 (pa_cons (pe_slice sl_str (pv 3) po_none (po_some (pv 2))) pa_nil)) (pe_call GD hr1 (by rfl) mD FD.kp bD .nil pass0 (pa_cons (pe_slice sl_str (pv 4) po_none (po_some (pv 2))) pa_nil)) (nomark _)))))), ?_⟩
    have he1 : (extL h d ls)[e]? = some ((extL h d ls)[e]'(by rw [ext_len]; omega)) := List.getElem?_eq_getElem _
    have he2 : (extL h d ls)[e + 1]? = some ((extL h d ls)[e + 1]'(by rw [ext_len]; omega)) := List.getElem?_eq_getElem _
    generalize (extL h d ls)[e]'(by rw [ext_len]; omega) = u at he1
    generalize (extL h d ls)[e + 1]'(by rw [ext_len]; omega) = v at he2
    obtain ⟨u1, u2, u3⟩ := hc.ext u (List.mem_of_getElem? he1)
    obtain ⟨w1, w2, w3⟩ := hc.ext v (List.mem_of_getElem? he2)
    have eu : (extL h d ls).getD e [] = u := by rw [List.getD_eq_getElem?_getD, he1]; rfl
    have ev : (extL h d ls).getD (e + 1) [] = v := by rw [List.getD_eq_getElem?_getD, he2]; rfl
    have hb1 : u[at']? = some (u[at']'(by omega)) := List.getElem?_eq_getElem _
    have hb2 : v[at']? = some (v[at']'(by omega)) := List.getElem?_eq_getElem _
    generalize u[at']'(by omega) = b1 at hb1
    generalize v[at']'(by omega) = b2 at hb2
    have hhd := hc.hd
    have hzu : (stS u).length ≤ sizeLine := by rw [stS_len]; exact small_line' (by omega)
    have hzv : (stS v).length ≤ sizeLine := by rw [stS_len]; exact small_line' (by omega)
    refine ⟨_, rfl, _, rfl, _, _, rfl, rfl, a, _, h, d, ls, e, rfl, rfl, ha, hc, by omega, fun H1 s1 => ?_⟩
    rw [eu]
    refine ⟨_, rfl, _, rfl, a, _, h, d, ls, e + 1, rfl, by omega, s1.seq ha, hc, by omega, fun H2 s2 => ?_⟩
    rw [ev]
    have kk := fun H' (s' : Same H2 H') => k H' ((s1.trans s2).trans s')
    unfold meetAt meetB at kk
    rw [eu, ev, hb1, hb2] at kk
    have esome : (some b1 == some b2) = (b1 == b2) := by cases b1 <;> cases b2 <;> rfl
    rw [esome] at kk
    refine ⟨_, rfl, _, rfl, _, _, cw b1, rfl, rfl, hzu, at_stS hb1, _, rfl, _, rfl, _, _, cw b2, rfl, rfl, hzv, at_stS hb2, rfl, _, rfl, ?_⟩
    rw [cw_dec]
    cases hbb : (b1 == b2) with
    | false =>
      rw [hbb] at kk
      exact iteT (kk H2 (Same.refl H2))
    | true =>
      rw [hbb] at kk
      refine iteF ?_
      refine ⟨_, rfl, _, rfl, _, rfl, _, rfl, hzu, ?_⟩
      rw [cut_stS u (by omega)]
      refine ⟨stS (u.take at'), rfl, by rw [stS_len, List.length_take]; omega, fun p3 H3 s3 hp3 => ?_⟩
      refine ⟨_, rfl, _, rfl, _, rfl, _, rfl, hzv, ?_⟩
      rw [cut_stS v (by omega)]
      refine ⟨stS (v.take at'), rfl, by rw [stS_len, List.length_take]; omega, fun p4 H4 s4 hp4 => ?_⟩
      rw [count_w, stS_len, List.length_take] at hp3 hp4
      refine ⟨_, _, .tup (SqT.of (s4 _ _ hp3)) (.cons (.int _) (.cons (.int _) .nil)), .tup (SqT.of hp4) (.cons (.int _) (.cons (.int _) .nil)), rfl, rfl, ?_⟩
      have ee := pr_eqv (((u.take at').count true : Nat), ((min at' u.length : Nat) : Int) - ((u.take at').count true : Nat)) (((v.take at').count true : Nat), ((min at' v.length : Nat) : Int) - ((v.take at').count true : Nat))
      dsimp only at ee
      rw [ee]
      have ed : decide (((((u.take at').count true : Nat) : Int), ((min at' u.length : Nat) : Int) - ((u.take at').count true : Nat)) = ((((v.take at').count true : Nat), ((min at' v.length : Nat) : Int) - ((v.take at').count true : Nat)) : C2)) = (true && decide ((u.take at').count true = (v.take at').count true)) := by
        rw [Bool.true_and]
        refine decide_eq_decide.mpr ⟨fun q => ?_, fun q => ?_⟩
        · injection q with q1 q2
          omega
        · rw [q, u3, w3]
      rw [ed]
      exact kk H4 (s3.trans s4)

end
end Toy

end
section
set_option maxHeartbeats 4000000
namespace Toy
open PySem L2
section
variable {P : Program} {w : World} {K : PySem.W.Frag} {mg : Str → Option Value} {base : Heap}
/-! ### all places that meet -/
def goodAt (h d : Nat) (ls : List (List Bool)) (e : Nat) (j : Nat) : List Nat := (List.range j).filter (meetAt h d ls e)
def allM (h d : Nat) (ls : List (List Bool)) (i : Nat) : List C2 := (List.range i).flatMap fun e => (goodAt h d ls e (h + d)).map fun a : Nat => ((e : Int), (a : Int))
theorem allM_succ (h d : Nat) (ls : List (List Bool)) (i : Nat) : allM h d ls (i + 1) = allM h d ls i ++ (goodAt h d ls i (h + d)).map fun a : Nat => ((i : Int), (a : Int)) := by
  unfold allM
  rw [List.range_succ, List.flatMap_append]
  simp
theorem allM_ok (h d : Nat) (ls : List (List Bool)) : ∀ i, i ≤ ls.length + 1 → OkS h d ls (allM h d ls i) ∧ (allM h d ls i).Nodup ∧ (∀ c ∈ allM h d ls i, c.1 < i) ∧ (allM h d ls i).length ≤ i * (h + d)
  | 0, _ => ⟨fun c m => by simp [allM] at m, by simp [allM], fun c m => by simp [allM] at m, by simp [allM]⟩
  | i + 1, hi => by
    obtain ⟨o, nd, lt, len⟩ := allM_ok h d ls i (by omega)
    rw [allM_succ]
    have hnew : ∀ c ∈ (goodAt h d ls i (h + d)).map (fun a : Nat => (((i : Nat) : Int), (a : Int))), ∃ a : Nat, c = ((i : Int), (a : Int)) ∧ a < h + d ∧ meetAt h d ls i a = true := by
      intro c m
      obtain ⟨a, ma, rfl⟩ := List.mem_map.mp m
      obtain ⟨m1, m2⟩ := List.mem_filter.mp ma
      exact ⟨a, rfl, List.mem_range.mp m1, m2⟩
    refine ⟨fun c m => ?_, ?_, fun c m => ?_, ?_⟩
    · rcases List.mem_append.mp m with m | m
      · exact o c m
      · obtain ⟨a, rfl, ha, hm⟩ := hnew c m
        exact ⟨i, a, rfl, by omega, ha, hm⟩
    · rw [List.nodup_append]
      refine ⟨nd, nodup_inj (fun x y e => ?_) (List.nodup_range.filter _), fun c m c' m' e => ?_⟩
      · injection e with _ e
        exact Int.ofNat.inj e
      · have h1 := lt c m
        obtain ⟨a, e2, _⟩ := hnew c' m'
        rw [e, e2] at h1
        dsimp only at h1
        omega
    · rcases List.mem_append.mp m with m | m
      · have := lt c m
        omega
      · obtain ⟨a, rfl, _⟩ := hnew c m
        dsimp only
        omega
    · rw [List.length_append, List.length_map]
      have : (goodAt h d ls i (h + d)).length ≤ h + d := by
        unfold goodAt
        refine Nat.le_trans (List.length_filter_le _ _) ?_
        rw [List.length_range]
        exact Nat.le_refl _
      rw [Nat.succ_mul]
      omega
def spMeeting (K : PySem.W.Frag) : Sp := fun vs H Q _ => ∃ (a : Addr) (h d : Nat) (ls : List (List Bool)), vs = [.ref a] ∧ SqL K H a (ls.map vS) ∧ Cols h d ls ∧ ∀ (t : Addr) (H' : Hp) (cs : List C2), PL K H' t cs → OkS h d ls cs → cs.Nodup → cs.length ≤ 200 → H t = none → Same H H' → Q (.ref t) H'
abbrev nmMg : List Str := ["_law_stairs_in", "_law_found", "_law_edge", "_law_good", "_law_at"]
theorem scMg : FnScope nmMg ["_law_stairs_in"] (defScope s__law_meeting) := ⟨rfl, rfl, rfl, by decide +kernel, rfl, by decide +kernel, by decide +kernel⟩
theorem ok_meeting {f fM fL fD : Addr} {fd fdM fdL fdD : FuncData} (F : Fun K "_law_meeting" "_law_meeting" s__law_meeting f fd) (FM : Fun K "_law_meets" "_law_meets" s__law_meets fM fdM) (bM : Binds K fdM ["_law_stairs_in", "_law_edge", "_law_at"] []) (mM : mg "_law_meets" = some (.ref fM))
    (FL : Fun K "_law_column" "_law_column" s__law_column fL fdL) (bL : Binds K fdL ["_law_stairs_in", "_law_column_here"] []) (mL : mg "_law_column" = some (.ref fL))
    (FD : Fun K "_law_sides" "_law_sides" s__law_sides fD fdD) (bD : Binds K fdD ["_law_stair_here"] []) (mD : mg "_law_sides" = some (.ref fD)) (T : Blt mg) : FnOk P w K mg base CX0 4 f fd ["_law_stairs_in"] (spMeeting K) := by
  have GM : FnOk P w K mg base CX0 3 fM fdM ["_law_stairs_in", "_law_edge", "_law_at"] (spMeets K) := ok_meets FM FL bL mL FD bD mD T
  refine F.ok scMg (fun vs H Q E h => ?_) (fun cdv A outer s H vs Q E hr h => ?_)
  · obtain ⟨a, h, d, ls, rfl, _⟩ := h
    rfl
  · obtain ⟨a, h, d, ls, rfl, ha, hc, k⟩ := h
    have nd := scMg.nd
    obtain ⟨l0, hl0, hm0⟩ := first_col hc
    have hlen0 := hc.len hm0
    have hhd := hc.hd
    have n8 := hc.n8
    refine ⟨_, pss_cons (ps_set (i := 1) nd rfl (Or.inl rfl) (pe_lst pa_nil))
      (pss_cons (ps_for PassesOwn.never rfl (pi_range1 rfl T.range (pa_cons (pe_op op_add (pe_callB call_len_seq (by rfl) T.len PySem.boot_len (pa_cons (pv 0) pa_nil)) pe_int) pa_nil)) (pg_name (i := 2) nd rfl (Or.inr rfl))
        (pss_cons (ps_setLc (i := 3) (own := [("_law_at", 4)]) (g := gName 4) (by rfl) nd rfl rfl (sw_true rfl rfl rfl (by decide +kernel)) (pi_range1 rfl T.range (pa_cons (pe_callB call_len_str (by rfl) T.len PySem.boot_len (pa_cons (pe_ix ix_list (pv 0) pe_int (fun _ _ => rfl)) pa_nil)) pa_nil))
          (blkOk_by (own := [("_law_at", 4)]) (N := nmMg) (sc := defScope s__law_meeting) (by decide +kernel)) (fun _ _ _ _ _ => pg_name (i := 4) nd rfl (Or.inl rfl))
          (fun _ _ _ _ _ => pts_one (pt_val (pe_call GM hr (by rfl) mM FM.kp bM .nil pass0 (pa_cons (pv 0) (pa_cons (pv 2) (pa_cons (pv 4) pa_nil)))))) (fun _ _ _ _ _ => pv 4))
        (pss_one (ps_set (i := 1) nd rfl (Or.inl rfl) (pe_op op_cat (pv 1) (pe_lc (own := [("_law_at", 4)]) (g := gName 4) (by rfl) nd (pi_list (pv 3)) (blkOk_by (own := [("_law_at", 4)]) (N := nmMg) (sc := defScope s__law_meeting) (by decide +kernel))
          (fun _ _ _ _ _ => pg_name (i := 4) nd rfl (Or.inl rfl)) (fun _ _ _ _ _ => pts_nil) (fun _ _ _ _ _ => pe_tup (pa_cons (pv 2) (pa_cons (pv 4) pa_nil)))))))))
      (pss_one (ps_ret (pv 1)))), ?_⟩
    refine ⟨(by show 0 ≤ sizeLine; decide), fun fa hfa => ?_⟩
    have s0 : Same H (upd H fa (.lst [])) := (Same.refl H).new' hfa
    refine ⟨_, rfl, a, _, rfl, .inl (s0.seq ha), _, _, rfl, rfl, _, rfl, by omega, by rw [List.length_map]; omega, ?_⟩
    have en : (((ls.map vS).length : Nat) + 1 : Int).toNat = ls.length + 1 := by rw [List.length_map]; omega
    rw [en]
    refine for_range (n := ls.length + 1) (fun i σ H1 => ∃ (fb : Addr) (v2 v3 v4 : Option V), σ = [some (.ref a), some (.ref fb), v2, v3, v4] ∧ PL K H1 fb (allM h d ls i) ∧ H fb = none ∧ Same H H1) ⟨fa, none, none, none, rfl, ⟨[], upd_same, .nil⟩, hfa, s0⟩ ?_ ?_
    · rintro i σ H1 hi ⟨fb, v2, v3, v4, rfl, ⟨xs, hfb, hpx⟩, hnb, s1⟩
      have hzl : (stS l0).length ≤ sizeLine := by rw [stS_len]; exact small_line' (by omega)
      refine ⟨_, rfl, a, _, 0, vS l0, rfl, rfl, s1.seq ha, atI_nat (j := 0) (by rw [List.getElem?_map, hl0]; rfl), _, rfl, hzl, _, rfl, by omega, by rw [stS_len]; omega, fun D hD => ?_⟩
      have em : (((stS l0).length : Nat) : Int).toNat = h + d := by rw [stS_len, hlen0]; omega
      rw [em]
      refine lc_range (lo := 0) (n := h + d) (fun j H2 => H2 D = some (.lst ((goodAt h d ls i j).map fun q => V.int (q : Nat))) ∧ Same H1 H2) ⟨upd_same, (Same.refl H1).new' hD⟩ ?_ ?_
      · rintro j H2 hj ⟨hD2, s2⟩
        have ei : (0 : Int) + (i : Nat) = ((i : Nat) : Int) := by omega
        have ej : (0 : Int) + (j : Nat) = ((j : Nat) : Int) := by omega
        refine ⟨rfl, _, rfl, _, rfl, _, rfl, a, h, d, ls, i, j, by rw [ei, ej]; rfl, (s1.trans s2).seq ha, hc, by omega, hj, fun H3 s3 => ⟨_, rfl, ?_⟩⟩
        have eg : goodAt h d ls i (j + 1) = goodAt h d ls i j ++ (if meetAt h d ls i j then [j] else []) := by
          unfold goodAt
          rw [List.range_succ, List.filter_append, List.filter_cons, List.filter_nil]
        cases hme : meetAt h d ls i j with
        | true =>
          rw [hme, if_pos rfl] at eg
          refine iteT ⟨_, rfl, _, s3 _ _ hD2, ?_, ?_, ?_⟩
          · rw [List.length_map]
            refine small1000 (Nat.le_trans (List.length_filter_le _ _) ?_)
            rw [List.length_range]
            omega
          · rw [upd_same, eg, List.map_append, ej]
            rfl
          · intro b o eb
            rw [upd_ne (ne_of_none eb hD)]
            exact (s2.trans s3) b o eb
        | false =>
          rw [hme, if_neg (by decide), List.append_nil] at eg
          exact iteF ⟨by rw [eg]; exact s3 _ _ hD2, s2.trans s3⟩
      · rintro H2 ⟨hD2, s2⟩
        refine ⟨_, rfl, _, rfl, D, rfl, ⟨_, SqL.of hD2⟩, fun D3 hD3 => ?_⟩
        refine lc_list (K := K) (a := D) (xs := (goodAt h d ls i (h + d)).map fun q => V.int (q : Nat)) (fun j H3 => ∃ zs, H3 D3 = some (.lst zs) ∧ Prs K H3 zs (((goodAt h d ls i (h + d)).take j).map fun q : Nat => ((i : Int), (q : Int))) ∧ Same H2 H3) ⟨[], upd_same, .nil, (Same.refl H2).new' hD3⟩ (fun j H3 _ ⟨_, _, _, s3⟩ => SqL.of (s3 _ _ hD2)) ?_ ?_
        · rintro j x H3 hx ⟨zs, hD4, hz, s3⟩
          rw [List.getElem?_map] at hx
          cases hq : (goodAt h d ls i (h + d))[j]? with
          | none => rw [hq] at hx; cases hx
          | some q =>
            rw [hq] at hx
            cases hx
            refine ⟨rfl, ?_⟩
            unfold tYes
            dsimp only
            rw [if_pos rfl]
            refine ⟨_, rfl, _, rfl, (by show 2 ≤ sizeLine; decide), fun q3 hq3 => ?_⟩
            have nq : q3 ≠ D3 := (ne_of_none hD4 hq3).symm
            refine ⟨zs, by rw [upd_ne nq.symm]; exact hD4, ?_, zs ++ [.ref q3], upd_same, ?_, ?_⟩
            · have h1 := Paired.length hz
              rw [List.length_map, List.length_take] at h1
              have h2 : (goodAt h d ls i (h + d)).length ≤ h + d := by
                unfold goodAt
                refine Nat.le_trans (List.length_filter_le _ _) ?_
                rw [List.length_range]
                exact Nat.le_refl _
              exact small1000 (by omega)
            · rw [List.take_succ, hq, List.map_append]
              have hD5 : ∀ o : HO, (upd H3 q3 o) D3 = some (.lst zs) := fun o => by rw [upd_ne nq.symm]; exact hD4
              refine paired_append (Prs.put (hD5 _) (Prs.keep ((Same.refl _).new' hq3) hz)) (.cons ⟨q3, rfl, ?_⟩ .nil)
              rw [upd_ne nq, upd_same]
              show some (HO.tup [V.int (0 + (i : Nat)), V.int (q : Nat)]) = some (HO.tup [V.int ((i : Nat) : Int), V.int (q : Nat)])
              rw [Int.zero_add]
            · intro b o eb
              rw [upd_ne (ne_of_none eb hD3)]
              exact (s3.new' hq3) b o eb
        · rintro H3 ⟨zs, hD4, hz, s3⟩
          rw [List.length_map, List.take_length] at hz
          have sA := s2.trans s3
          have hpl := (allM_ok h d ls i (by omega)).2.2.2
          have hxl := Paired.length hpx
          have hzl2 := Paired.length hz
          rw [List.length_map] at hzl2
          have h2 : (goodAt h d ls i (h + d)).length ≤ h + d := by
            unfold goodAt
            refine Nat.le_trans (List.length_filter_le _ _) ?_
            rw [List.length_range]
            exact Nat.le_refl _
          have hbig : i * (h + d) ≤ 8 * 16 := Nat.mul_le_mul (by omega) (by omega)
          refine ⟨fb, D3, xs, zs, rfl, rfl, sA _ _ hfb, hD4, small_line' (by omega), fun q hq => ?_⟩
          have s4 : Same H3 (upd H3 q (.lst (xs ++ zs))) := (Same.refl H3).new' hq
          refine ⟨q, _, _, _, rfl, ⟨_, upd_same, ?_⟩, (s1.trans sA).free hq, (s1.trans sA).trans s4⟩
          rw [allM_succ]
          exact paired_append (Prs.keep (sA.trans s4) hpx) (Prs.keep s4 hz)
    · rintro σ H1 ⟨fb, v2, v3, v4, rfl, hpl, hnb, s1⟩
      obtain ⟨o, ndp, _, len⟩ := allM_ok h d ls (ls.length + 1) (Nat.le_refl _)
      have hbig : (ls.length + 1) * (h + d) ≤ 9 * 16 := Nat.mul_le_mul (by omega) (by omega)
      exact ⟨_, rfl, k fb H1 _ hpl o ndp (by omega) hnb s1⟩

end
end Toy

end
section
set_option maxHeartbeats 4000000
namespace Toy
open PySem L2
section
variable {P : Program} {w : World} {K : PySem.W.Frag} {mg : Str → Option Value} {base : Heap}
/-! ### stairs and slits drawn -/
theorem atI_last {xs : List V} {v : V} (h0 : 0 < xs.length) (h : xs[xs.length - 1]? = some v) : atI xs (-1) = some v := by
  unfold atI ixN
  rw [if_neg (by decide), if_pos (by omega)]
  show xs[_]? = some v
  rw [show ((-1 : Int) + (xs.length : Nat)).toNat = xs.length - 1 by omega]
  exact h
def spStairs (K : PySem.W.Frag) : Sp := fun vs H Q _ => ∃ (d p : Addr) (h f m : Nat), vs = [.ref d, .ref p, .int (m : Nat)] ∧ Draw H d ∧ H p = some (.tup [.int (h : Nat), .int (f : Nat)]) ∧ (1 ≤ h ∧ h ≤ 8 ∧ 1 ≤ f ∧ f ≤ 8) ∧ 1 ≤ m ∧ m ≤ 8 ∧ ∀ (l : Addr) (H' : Hp) (ls : List (List Bool)), Cols h f ls → ls.length ≤ m → H' l = some (.lst (ls.map vS)) → Draw H' d → l ≠ d → Ext d H H' → H l = none → Q (.ref l) H'
abbrev nmSts : List Str := ["_law_draw", "_law_size_here", "_law_most", "_law_found", "_law_column_here"]
theorem scSts : FnScope nmSts ["_law_draw", "_law_size_here", "_law_most"] (defScope s__law_stairs) := ⟨rfl, rfl, rfl, by decide +kernel, rfl, by decide +kernel, by decide +kernel⟩
theorem tup_ne_draw {H : Hp} {d p : Addr} {xs : List V} (D : Draw H d) (h : H p = some (.tup xs)) : p ≠ d := by
  rintro rfl
  obtain ⟨ys, e⟩ := D.lst
  rw [e] at h
  cases h
theorem draw_putS {H : Hp} {d l : Addr} {xs : List V} {o : HO} (D : Draw H d) (ne : l ≠ d) (h : H l = some (.lst xs)) (hx : ∃ s, V.str s ∈ xs) : Draw (upd H l o) d := by
  obtain ⟨q, ns, p, c, g, a, b, r⟩ := D.ex
  have nq : q ≠ l := by
    rintro rfl
    rw [b] at h
    injection h with h
    injection h with h
    obtain ⟨s, hs⟩ := hx
    rw [← h] at hs
    obtain ⟨n, _, e⟩ := List.mem_map.mp hs
    cases e
  exact ⟨q, ns, p, c, g, by rw [upd_ne ne.symm]; exact a, by rw [upd_ne nq]; exact b, r⟩
theorem ext_put {H H' : Hp} {d p : Addr} {o : HO} (s : Ext d H H') (hp : H p = none) : Ext d H (upd H' p o) := fun b u nb e => by
  rw [upd_ne (ne_of_none e hp)]
  exact s b u nb e
theorem ok_stairs {f fT fR : Addr} {fd fdT fdR : FuncData} (F : Fun K "_law_stairs" "_law_stairs" s__law_stairs f fd) (FT : Fun K "_law_take" "_law_take" s__law_take fT fdT) (bT : Binds K fdT ["_law_draw", "_law_many"] []) (mT : mg "_law_take" = some (.ref fT))
    (FR : Fun K "_law_stair" "_law_stair" s__law_stair fR fdR) (bR : Binds K fdR ["_law_draw", "_law_size_here"] []) (mR : mg "_law_stair" = some (.ref fR)) (T : Blt mg) : FnOk P w K mg base CX0 3 f fd ["_law_draw", "_law_size_here", "_law_most"] (spStairs K) := by
  have GT : FnOk P w K mg base CX0 1 fT fdT ["_law_draw", "_law_many"] spTake := ok_take FT T
  have GR : FnOk P w K mg base CX0 2 fR fdR ["_law_draw", "_law_size_here"] (spStair K) := ok_stair FR FT bT mT T
  refine F.ok scSts (fun vs H Q E h => ?_) (fun cdv A outer s H vs Q E hr h => ?_)
  · obtain ⟨d, p, h, f, m, rfl, _⟩ := h
    rfl
  · obtain ⟨d, p, h, fl, m, rfl, D0, hp, hhd, m1, m8, k⟩ := h
    have nd := scSts.nd
    have hr1 : Room 1 _ := hr.mono (by decide)
    refine ⟨_, pss_cons (ps_set (i := 3) nd rfl (Or.inl rfl) (pe_lst (pa_cons (pe_call GR hr (by rfl) mR FR.kp bR .nil pass0 (pa_cons (pv 0) (pa_cons (pv 1) pa_nil))) pa_nil)))
      (pss_cons (ps_for PassesOwn.never rfl (pi_range1 rfl T.range (pa_cons (pe_call GT hr1 (by rfl) mT FT.kp bT .nil pass0 (pa_cons (pv 0) (pa_cons (pv 2) pa_nil))) pa_nil)) (pg_name (i := 4) nd rfl (Or.inl rfl))
        (pss_one (ps_if (pt_cmpR op_eq (pe_call GT hr1 (by rfl) mT FT.kp bT .nil pass0 (pa_cons (pv 0) (pa_cons pe_int pa_nil))) pe_int (nomark _))
          (pss_one (ps_expr (pe_bm PySem.F.plainAttrs_list PySem.F.slot_list_append PySem.F.type_list_append mt_append (pv 3) (pa_cons (pe_ix ix_list (pv 3) (pe_un un_neg pe_int) (fun _ _ => rfl)) pa_nil))))
          (pss_one (ps_expr (pe_bm PySem.F.plainAttrs_list PySem.F.slot_list_append PySem.F.type_list_append mt_append (pv 3) (pa_cons (pe_call GR hr (by rfl) mR FR.kp bR .nil pass0 (pa_cons (pv 0) (pa_cons (pv 1) pa_nil))) pa_nil)))))))
      (pss_one (ps_ret (pv 3)))), ?_⟩
    obtain ⟨hh1, hh2, hf1, hf2⟩ := hhd
    have npd := tup_ne_draw D0 hp
    refine ⟨_, rfl, _, rfl, d, p, h, fl, rfl, D0, SqT.of hp, hh1, hh2, hf1, hf2, fun l0 H1 c1 c2 D1 b1 => ?_⟩
    refine ⟨(by show 1 ≤ sizeLine; decide), fun l hl => ?_⟩
    have nld : l ≠ d := by
      obtain ⟨ys, e⟩ := D1.lst
      exact (ne_of_none e hl).symm
    have hHl : H l = none := by rw [← b1 l nld]; exact hl
    have D2 := D1.new (o := .lst [vS l0]) hl
    have hp2 : (upd H1 l (.lst [vS l0])) p = some (.tup [.int (h : Nat), .int (fl : Nat)]) := by
      have e : H1 p = some (.tup [.int (h : Nat), .int (fl : Nat)]) := (b1 p npd).trans hp
      rw [upd_ne (ne_of_none e hl)]
      exact e
    refine ⟨_, rfl, _, rfl, d, _, rfl, D2, by omega, log_small (by omega), fun r H3 r0 r1 D3 b3 => ?_⟩
    obtain ⟨rn, rfl⟩ := Int.eq_ofNat_of_zero_le r0
    refine ⟨_, rfl, by omega, by omega, ?_⟩
    rw [Int.toNat_natCast]
    refine for_range (n := rn) (fun i σ H4 => ∃ (v4 : Option V) (ls : List (List Bool)), σ = [some (.ref d), some (.ref p), some (.int (m : Nat)), some (.ref l), v4] ∧ ls.length = i + 1 ∧ (∀ q ∈ ls, q.count true = h ∧ q.count false = fl) ∧ H4 l = some (.lst (ls.map vS)) ∧ Draw H4 d ∧ H4 p = some (.tup [.int (h : Nat), .int (fl : Nat)]) ∧ Ext d H H4) ⟨none, [l0], rfl, rfl, fun q mq => by rw [List.mem_singleton.mp mq]; exact ⟨c1, c2⟩, (b3 l nld).trans upd_same, D3, (b3 p npd).trans hp2, ((Ext.but b1).new hl).trans (Ext.but b3)⟩ ?_ ?_
    · rintro i σ H4 hi ⟨v4, ls, rfl, hlen, hcnt, hl4, D4, hp4, x4⟩
      refine ⟨_, rfl, d, 4, rfl, D4, by decide, by decide, fun r2 H5 _ _ D5 b5 => ?_⟩
      have hl5 : H5 l = some (.lst (ls.map vS)) := (b5 l nld).trans hl4
      have hp5 := (b5 p npd).trans hp4
      have hstr : ∃ s, V.str s ∈ ls.map vS := by
        have hx : ls[0]? = some (ls[0]'(by omega)) := List.getElem?_eq_getElem _
        exact ⟨_, List.mem_map_of_mem (List.mem_of_getElem? hx)⟩
      have big : (ls.map vS).length < sizeLine := by rw [List.length_map]; exact small1000 (by omega)
      refine ⟨rfl, _, rfl, ite2 (fun _ => ?_) (fun _ => ?_)⟩
      · have hx : ls[ls.length - 1]? = some (ls[ls.length - 1]'(by omega)) := List.getElem?_eq_getElem _
        generalize hq : ls[ls.length - 1]'(by omega) = q at hx
        have hat : atI (ls.map vS) (-1) = some (vS q) := atI_last (by rw [List.length_map]; omega) (by rw [List.length_map, List.getElem?_map, hx]; rfl)
        refine ⟨_, rfl, .inl ⟨rfl, _, SqL.of hl5⟩, _, rfl, 1, rfl, l, _, _, _, rfl, rfl, SqL.of hl5, hat, l, _, _, rfl, rfl, hl5, big, _, ls ++ [q], rfl, by rw [List.length_append, hlen]; rfl, ?_, ?_, ?_, ?_, ?_⟩
        · intro q' mq
          rcases List.mem_append.mp mq with mq | mq
          · exact hcnt q' mq
          · rw [List.mem_singleton.mp mq]
            exact hcnt q (List.mem_of_getElem? hx)
        · rw [upd_same, List.map_append]
          rfl
        · exact draw_putS D5 nld hl5 hstr
        · rw [upd_ne (fun z => by rw [z, hl5] at hp5; cases hp5)]
          exact hp5
        · exact ext_put (x4.trans (Ext.but b5)) hHl
      · refine ⟨_, rfl, .inl ⟨rfl, _, SqL.of hl5⟩, _, rfl, _, rfl, d, p, h, fl, rfl, D5, SqT.of hp5, hh1, hh2, hf1, hf2, fun q H6 g1 g2 D6 b6 => ?_⟩
        have hl6 : H6 l = some (.lst (ls.map vS)) := (b6 l nld).trans hl5
        have hp6 := (b6 p npd).trans hp5
        refine ⟨l, _, _, rfl, rfl, hl6, big, _, ls ++ [q], rfl, by rw [List.length_append, hlen]; rfl, ?_, ?_, ?_, ?_, ?_⟩
        · intro q' mq
          rcases List.mem_append.mp mq with mq | mq
          · exact hcnt q' mq
          · rw [List.mem_singleton.mp mq]
            exact ⟨g1, g2⟩
        · rw [upd_same, List.map_append]
          rfl
        · exact draw_putS D6 nld hl6 hstr
        · rw [upd_ne (fun z => by rw [z, hl6] at hp6; cases hp6)]
          exact hp6
        · exact ext_put ((x4.trans (Ext.but b5)).trans (Ext.but b6)) hHl
    · rintro σ H4 ⟨v4, ls, rfl, hlen, hcnt, hl4, D4, hp4, x4⟩
      exact ⟨_, rfl, k l H4 ls ⟨by omega, by omega, ⟨hh1, hh2, hf1, hf2⟩, fun q mq => (hcnt q mq).1, fun q mq => (hcnt q mq).2⟩ (by omega) hl4 D4 nld x4 hHl⟩

end
end Toy

end
section
set_option maxHeartbeats 4000000
namespace Toy
open PySem L2
section
variable {P : Program} {w : World} {K : PySem.W.Frag} {mg : Str → Option Value} {base : Heap}
/-- the drawing list with its script at l -/
structure DrawL (H : Hp) (d l : Addr) : Prop where
  ex : ∃ (ns : List Int) (p c g : Int), H d = some (.lst [.ref l, .int p, .int c, .int g]) ∧ H l = some (.lst (ns.map V.int)) ∧ l ≠ d ∧ 0 ≤ p ∧ 0 ≤ g ∧ g < 2305843009213693951
theorem drawL_of {H : Hp} {d : Addr} (D : Draw H d) : ∃ l, DrawL H d l := by
  obtain ⟨l, ns, p, c, g, r⟩ := D.ex
  exact ⟨l, ns, p, c, g, r⟩
theorem DrawL.draw {H : Hp} {d l : Addr} (D : DrawL H d l) : Draw H d := by
  obtain ⟨ns, p, c, g, r⟩ := D.ex
  exact ⟨l, ns, p, c, g, r⟩
theorem DrawL.keep {H H' : Hp} {d l : Addr} (D : DrawL H d l) (s : Same H H') : DrawL H' d l := by
  obtain ⟨ns, p, c, g, a, b, r⟩ := D.ex
  exact ⟨ns, p, c, g, s _ _ a, s _ _ b, r⟩
theorem DrawL.put {H : Hp} {d l b : Addr} {o : HO} (D : DrawL H d l) (n1 : b ≠ d) (n2 : b ≠ l) : DrawL (upd H b o) d l := by
  obtain ⟨ns, p, c, g, e1, e2, r⟩ := D.ex
  exact ⟨ns, p, c, g, by rw [upd_ne n1.symm]; exact e1, by rw [upd_ne n2.symm]; exact e2, r⟩
theorem DrawL.ne {H : Hp} {d l b : Addr} (D : DrawL H d l) (h : H b = none) : b ≠ d ∧ b ≠ l := by
  obtain ⟨ns, p, c, g, e1, e2, r⟩ := D.ex
  exact ⟨(ne_of_none e1 h).symm, (ne_of_none e2 h).symm⟩
def spTakeL : Sp := fun vs H Q _ => ∃ (d l : Addr) (m : Int), vs = [.ref d, .int m] ∧ DrawL H d l ∧ 0 < m ∧ m.natAbs.log2 < 1000 ∧ ∀ (r : Int) (H' : Hp), 0 ≤ r → r < m → DrawL H' d l → But d H H' → Q (.int r) H'
theorem ok_takeL {f : Addr} {fd : FuncData} (F : Fun K "_law_take" "_law_take" s__law_take f fd) (T : Blt mg) : FnOk P w K mg base CX0 1 f fd ["_law_draw", "_law_many"] spTakeL := by
  refine F.ok scTake (fun vs H Q E h => ?_) (fun cdv A outer s H vs Q E hr h => ?_)
  · obtain ⟨d, l, m, rfl, _⟩ := h
    rfl
  · obtain ⟨d, l, m, rfl, Dr, hm, hml, k⟩ := h
    have nd := scTake.nd
    refine ⟨_, pss_cut (ps_if (PW.pt (pw_and (pt_cmpR op_lt (pe_ix ix_list (pv 0) pe_int (fun _ _ => rfl)) (pv 1) (nomark _)) (pw_and1 (pt_cmpR op_lt (pe_ix ix_list (pv 0) pe_int (fun _ _ => rfl)) (pe_callB call_len_seq (by rfl) T.len PySem.boot_len (pa_cons (pe_ix ix_list (pv 0) pe_int (fun _ _ => rfl)) pa_nil)) (nomark _)))))
        (pss_cons (ps_set (i := 2) nd rfl (Or.inl rfl) (pe_ix ix_list (pe_ix ix_list (pv 0) pe_int (fun _ _ => rfl)) (pe_ix ix_list (pv 0) pe_int (fun _ _ => rfl)) (fun _ _ => rfl)))
        (pss_cons (ps_asg (pe_op op_add (pe_ix ix_list (pv 0) pe_int (fun _ _ => rfl)) pe_int) (pg_sub (pv 0) pe_int set_list))
        (pss_cons (ps_asg pe_int (pg_sub (pv 0) pe_int set_list))
        (pss_cut (ps_if (pt_cmpR op_ge (pv 2) (pe_op op_pow pe_int pe_int) (nomark _)) (pss_one (ps_asg (pv 2) (pg_sub (pv 0) pe_int set_list))) pss_nil)
        (pss_one (ps_asg (pe_op op_mod (pe_op op_add (pe_op op_add (pe_op op_mul (pe_ix ix_list (pv 0) pe_int (fun _ _ => rfl)) pe_int) (pe_op op_mul (pv 2) pe_int)) (pe_ix ix_list (pv 0) pe_int (fun _ _ => rfl))) pe_int) (pg_sub (pv 0) pe_int set_list))))))) pss_nil)
      (pss_cons (ps_if (pt_cmpR op_ge (pe_ix ix_list (pv 0) pe_int (fun _ _ => rfl)) (pv 1) (nomark _))
        (pss_cons (ps_set (i := 3) nd rfl (Or.inl rfl) (pe_op op_mod (pe_ix ix_list (pv 0) pe_int (fun _ _ => rfl)) (pv 1)))
        (pss_cons (ps_asg (pe_op op_fdivL (pe_ix ix_list (pv 0) pe_int (fun _ _ => rfl)) (pv 1)) (pg_sub (pv 0) pe_int set_list))
        (pss_one (ps_ret (pv 3))))) pss_nil)
      (pss_cons (ps_set (i := 4) nd rfl (Or.inl rfl) (pe_op op_mod (pe_op op_mul (pe_ix ix_list (pv 0) pe_int (fun _ _ => rfl)) (pe_ix ix_list (pv 0) pe_int (fun _ _ => rfl))) pe_int))
      (pss_cons (ps_asg (pe_op op_mod (pe_op op_add (pe_op op_add (pe_op op_mul (pv 4) pe_int) (pe_op op_mul (pe_ix ix_list (pv 0) pe_int (fun _ _ => rfl)) pe_int)) pe_int) pe_int) (pg_sub (pv 0) pe_int set_list))
      (pss_one (ps_ret (pe_op op_mod (pe_op op_fdiv (pe_ix ix_list (pv 0) pe_int (fun _ _ => rfl)) pe_int) (pv 1))))))), ?_⟩
    obtain ⟨ns, p, c, g, hd, hl, ne, hp0, hg0, hg1⟩ := Dr.ex
    refine ⟨fun σ2 H2 => ∃ (v : Option V) (p c g : Int), σ2 = [some (.ref d), some (.int m), v, none, none] ∧ But d H H2 ∧ H2 d = some (.lst [.ref l, .int p, .int c, .int g]) ∧ 0 ≤ p ∧ 0 ≤ g ∧ g < 2305843009213693951, ?_, ?_⟩
    · refine ⟨_, rfl, d, _, 2, _, rfl, rfl, SqL.of hd, rfl, _, rfl, _, _, rfl, rfl, _, rfl, ?_⟩
      refine ite2 (fun _ => ?_) (fun _ => ?_)
      · refine ⟨_, rfl, d, _, 1, _, rfl, rfl, SqL.of hd, rfl, _, rfl, d, _, 0, _, rfl, rfl, SqL.of hd, rfl, l, _, rfl, .inl (SqL.of hl), _, _, rfl, rfl, _, rfl, ?_⟩
        refine ite2 (fun h2 => ?_) (fun _ => ?_)
        · have h2 := of_decide_eq_true h2
          rw [List.length_map] at h2
          have hlt : p.toNat < ns.length := by omega
          have hit : atI (ns.map V.int) p = some (V.int ns[p.toNat]) := at_of (j := p.toNat) (by omega) (by simp [hlt])
          refine ⟨_, rfl, d, _, 0, _, rfl, rfl, SqL.of hd, rfl, _, rfl, d, _, 1, _, rfl, rfl, SqL.of hd, rfl, l, _, p, _, rfl, rfl, SqL.of hl, hit, ?_⟩
          refine ⟨_, rfl, d, _, 1, _, rfl, rfl, SqL.of hd, rfl, _, _, rfl, rfl, _, rfl, d, _, 1, 1, rfl, rfl, hd, rfl, ?_⟩
          refine ⟨_, rfl, d, _, 2, 2, rfl, rfl, upd_same, rfl, ?_⟩
          refine ⟨fun σ2 H2 => ∃ (c : Int), σ2 = [some (.ref d), some (.int m), some (.int ns[p.toNat]), none, none] ∧ But d H H2 ∧ H2 d = some (.lst [.ref l, .int (p + 1), .int c, .int g]), ?_, ?_⟩
          · refine ⟨_, rfl, _, _, rfl, rfl, ⟨by decide, by decide, by decide⟩, _, _, rfl, rfl, _, rfl, ?_⟩
            refine ite2 (fun _ => ?_) (fun _ => ?_)
            · refine ⟨_, rfl, _, rfl, d, _, 2, 2, rfl, rfl, upd_same, rfl, ?_⟩
              exact ⟨ns[p.toNat], rfl, ((But.refl d H).put.put).put, upd_same⟩
            · exact ⟨0, rfl, (But.refl d H).put.put, upd_same⟩
          · rintro σ2 H2 ⟨c2, rfl, b2, e2⟩
            refine ⟨_, rfl, d, _, 3, _, rfl, rfl, SqL.of e2, rfl, _, _, rfl, rfl, .inl ⟨by omega, by omega⟩, _, rfl, _, _, rfl, rfl, .inr ⟨by decide, by decide⟩, _, _, rfl, rfl, _, rfl, d, _, 1, _, rfl, rfl, SqL.of e2, rfl, _, _, rfl, rfl, _, _, rfl, rfl, (by show (0 : Int) < 2305843009213693951; decide), ?_⟩
            refine ⟨_, rfl, d, _, 3, 3, rfl, rfl, e2, rfl, ?_⟩
            exact ⟨_, p + 1, c2, _, rfl, b2.put, upd_same, by omega, Int.emod_nonneg _ (by decide), Int.emod_lt_of_pos _ (by decide)⟩
        · exact ⟨none, p, c, g, rfl, But.refl d H, hd, hp0, hg0, hg1⟩
      · exact ⟨none, p, c, g, rfl, But.refl d H, hd, hp0, hg0, hg1⟩
    · rintro σ2 H2 ⟨v, p, c, g, rfl, b2, e2, hp0, hg0, hg1⟩
      have hl2 : H2 l = some (.lst (ns.map V.int)) := (b2 l ne).trans hl
      have hlU : ∀ {H3 : Hp} {o : HO}, H3 l = some (.lst (ns.map V.int)) → (upd H3 d o) l = some (.lst (ns.map V.int)) := fun h => by rw [upd_ne ne]; exact h
      refine ⟨_, rfl, d, _, 2, _, rfl, rfl, SqL.of e2, rfl, _, rfl, _, _, rfl, rfl, _, rfl, ?_⟩
      refine ite2 (fun _ => ?_) (fun _ => ?_)
      · refine ⟨_, rfl, d, _, 2, _, rfl, rfl, SqL.of e2, rfl, _, rfl, _, _, rfl, rfl, hm, ?_⟩
        refine ⟨_, rfl, d, _, 2, _, rfl, rfl, SqL.of e2, rfl, _, rfl, _, _, rfl, rfl, ⟨hm, hml⟩, _, rfl, d, _, 2, 2, rfl, rfl, e2, rfl, ?_⟩
        refine ⟨_, rfl, ?_⟩
        exact k _ _ (Int.emod_nonneg _ (by omega)) (Int.emod_lt_of_pos _ hm) ⟨ns, p, _, g, upd_same, hlU hl2, ne, hp0, hg0, hg1⟩ b2.put
      · refine ⟨_, rfl, d, _, 3, _, rfl, rfl, SqL.of e2, rfl, _, rfl, d, _, 3, _, rfl, rfl, SqL.of e2, rfl, _, _, rfl, rfl, .inl ⟨by omega, by omega⟩, _, _, rfl, rfl, (by show (0 : Int) < 2305843009213693951; decide), ?_⟩
        have m0 : 0 ≤ g * g % 2305843009213693951 := Int.emod_nonneg _ (by decide)
        have m1 : g * g % 2305843009213693951 < 2305843009213693951 := Int.emod_lt_of_pos _ (by decide)
        refine ⟨_, rfl, _, _, rfl, rfl, .inl ⟨by omega, by omega⟩, _, rfl, d, _, 3, _, rfl, rfl, SqL.of e2, rfl, _, _, rfl, rfl, .inl ⟨by omega, by omega⟩, _, _, rfl, rfl, _, _, rfl, rfl, _, _, rfl, rfl, (by show (0 : Int) < 2305843009213693951; decide), ?_⟩
        refine ⟨_, rfl, d, _, 3, 3, rfl, rfl, e2, rfl, ?_⟩
        refine ⟨_, rfl, d, _, 3, _, rfl, rfl, SqL.of upd_same, rfl, _, _, rfl, rfl, ⟨by decide, by decide⟩, _, rfl, _, _, rfl, rfl, hm, ?_⟩
        exact k _ _ (Int.emod_nonneg _ (by omega)) (Int.emod_lt_of_pos _ hm) ⟨ns, p, c, _, upd_same, hlU hl2, ne, hp0, Int.emod_nonneg _ (by decide), Int.emod_lt_of_pos _ (by decide)⟩ b2.put

end
end Toy

end
section
set_option maxHeartbeats 4000000
namespace Toy
open PySem L2
section
variable {P : Program} {w : World} {K : PySem.W.Frag} {mg : Str → Option Value} {base : Heap}
/-! ### slits drawn -/
theorem paired_erase {α β : Type} {F : α → β → Prop} : ∀ {a : List α} {b : List β} (i : Nat), Paired F a b → Paired F (a.eraseIdx i) (b.eraseIdx i)
  | _, _, _, .nil => .nil
  | _, _, 0, .cons _ t => t
  | _, _, i + 1, .cons r t => .cons r (paired_erase i t)
theorem prs_but {H H' : Hp} {d : Addr} {ys xs : List V} {cs : List C2} (b : But d H H') (hd : H d = some (.lst ys)) (h : Prs K H xs cs) : Prs K H' xs cs := by
  refine Paired.imp' (fun v c q => ?_) h
  obtain ⟨p, rfl, hp⟩ := q
  refine ⟨p, rfl, ?_⟩
  rw [b p (fun z => by rw [z, hd] at hp; cases hp)]
  exact hp
theorem erase_perm {α : Type} {rs : List α} {k : Nat} {c : α} (h : rs[k]? = some c) (fs : List α) : ((fs ++ [c]) ++ rs.eraseIdx k).Perm (fs ++ rs) := by
  obtain ⟨hk, e⟩ := List.getElem?_eq_some_iff.mp h
  rw [List.append_assoc]
  refine List.Perm.append_left fs ?_
  rw [List.eraseIdx_eq_take_drop_succ, List.singleton_append]
  have e2 : rs = rs.take k ++ c :: rs.drop (k + 1) := by rw [← e, List.getElem_cons_drop, List.take_append_drop]
  refine List.Perm.trans ?_ (List.Perm.of_eq e2.symm)
  exact List.perm_middle.symm
def spSome (K : PySem.W.Frag) : Sp := fun vs H Q _ => ∃ (d a : Addr) (h f m : Nat) (ls : List (List Bool)), vs = [.ref d, .ref a, .int (m : Nat)] ∧ Draw H d ∧ H a = some (.lst (ls.map vS)) ∧ a ≠ d ∧ Cols h f ls ∧ m ≤ 4 ∧ ∀ (t : Addr) (H' : Hp) (cs : List C2), PL K H' t cs → CardV h f ls cs → Draw H' d → Ext d H H' → Q (.ref t) H'
abbrev nmSome : List Str := ["_law_draw", "_law_stairs_in", "_law_most", "_law_spots", "_law_found", "_law_turn"]
theorem scSome : FnScope nmSome ["_law_draw", "_law_stairs_in", "_law_most"] (defScope s__law_some_slits) := ⟨rfl, rfl, rfl, by decide +kernel, rfl, by decide +kernel, by decide +kernel⟩
theorem ok_some {f fT fG : Addr} {fd fdT fdG : FuncData} (F : Fun K "_law_some_slits" "_law_some_slits" s__law_some_slits f fd) (FT : Fun K "_law_take" "_law_take" s__law_take fT fdT) (bT : Binds K fdT ["_law_draw", "_law_many"] []) (mT : mg "_law_take" = some (.ref fT))
    (GG : FnOk P w K mg base CX0 4 fG fdG ["_law_stairs_in"] (spMeeting K)) (kG : PySem.W.keepIn K (.ref fG) = true) (bG : Binds K fdG ["_law_stairs_in"] []) (mG : mg "_law_meeting" = some (.ref fG)) (T : Blt mg) (Ts : mg "sorted" = none) : FnOk P w K mg base CX0 5 f fd ["_law_draw", "_law_stairs_in", "_law_most"] (spSome K) := by
  have GT : FnOk P w K mg base CX0 1 fT fdT ["_law_draw", "_law_many"] spTakeL := ok_takeL FT T
  refine F.ok scSome (fun vs H Q E h => ?_) (fun cdv A outer s H vs Q E hr h => ?_)
  · obtain ⟨d, a, h, f, m, ls, rfl, _⟩ := h
    rfl
  · obtain ⟨d, a, h, fl, m, ls, rfl, D0, ha, nad, hc, hm4, k⟩ := h
    have nd := scSome.nd
    have hr1 : Room 1 _ := hr.mono (by decide)
    refine ⟨_, pss_cons (ps_set (i := 3) nd rfl (Or.inl rfl) (pe_call GG hr (by rfl) mG kG bG .nil pass0 (pa_cons (pv 1) pa_nil)))
      (pss_cons (ps_set (i := 4) nd rfl (Or.inl rfl) (pe_lst pa_nil))
      (pss_cons (ps_for PassesOwn.never rfl (pi_range1 rfl T.range (pa_cons (pe_call GT hr1 (by rfl) mT FT.kp bT .nil pass0 (pa_cons (pv 0) (pa_cons (pe_op op_add (pv 2) pe_int) pa_nil))) pa_nil)) (pg_name (i := 5) nd rfl (Or.inl rfl))
        (pss_one (ps_if (pt_cmpR op_gt (pe_callB call_len_seq (by rfl) T.len PySem.boot_len (pa_cons (pv 3) pa_nil)) pe_int (nomark _))
          (pss_one (ps_expr (pe_bm PySem.F.plainAttrs_list PySem.F.slot_list_append PySem.F.type_list_append mt_append (pv 4) (pa_cons (pe_bm PySem.F.plainAttrs_list PySem.F.slot_list_pop PySem.F.type_list_pop mt_popAt (pv 3) (pa_cons (pe_call GT hr1 (by rfl) mT FT.kp bT .nil pass0 (pa_cons (pv 0) (pa_cons (pe_callB call_len_seq (by rfl) T.len PySem.boot_len (pa_cons (pv 3) pa_nil)) pa_nil))) pa_nil)) pa_nil)))) pss_nil)))
      (pss_one (ps_ret (pe_callB cr_sortedP (by rfl) Ts (by decide +kernel) (pa_cons (pv 4) pa_nil)))))), ?_⟩
    obtain ⟨l, DL0⟩ := drawL_of D0
    refine ⟨_, rfl, a, h, fl, ls, rfl, SqL.of ha, hc, fun sp H1 cs0 pl1 o1 nd1 len1 n1 s1 => ?_⟩
    obtain ⟨xs1, hsp1, hpx1⟩ := pl1
    have DL1 := DL0.keep s1
    obtain ⟨nsd, nsl⟩ := DL0.ne n1
    have nas : a ≠ sp := ne_of_none ha n1
    refine ⟨(by show 0 ≤ sizeLine; decide), fun fb hfb => ?_⟩
    obtain ⟨nfd, nfl⟩ := DL1.ne hfb
    have nsf : sp ≠ fb := ne_of_none hsp1 hfb
    have ha1 := s1 _ _ ha
    have naf : a ≠ fb := ne_of_none ha1 hfb
    have s2 : Same H1 (upd H1 fb (.lst [])) := (Same.refl H1).new' hfb
    have DL2 := DL1.keep s2
    refine ⟨_, rfl, _, rfl, _, _, rfl, rfl, d, l, _, rfl, DL2, by omega, ?_, fun r H3 r0 r1 DL3 b3 => ?_⟩
    · have := log_small (n := m + 1) (by omega)
      rw [show ((m : Nat) : Int) + 1 = ((m + 1 : Nat) : Int) by omega]
      exact this
    obtain ⟨rn, rfl⟩ := Int.eq_ofNat_of_zero_le r0
    refine ⟨_, rfl, by omega, by omega, ?_⟩
    rw [Int.toNat_natCast]
    obtain ⟨ysd, hd2⟩ := DL2.draw.lst
    refine for_range (n := rn) (fun i σ H4 => ∃ (v5 : Option V) (xs ys : List V) (rs fs : List C2), σ = [some (.ref d), some (.ref a), some (.int (m : Nat)), some (.ref sp), some (.ref fb), v5] ∧ H4 sp = some (.lst xs) ∧ Prs K H4 xs rs ∧ H4 fb = some (.lst ys) ∧ Prs K H4 ys fs ∧ (fs ++ rs).Perm cs0 ∧ fs.length ≤ i ∧ DrawL H4 d l ∧ Ext d H H4)
      ⟨none, xs1, [], cs0, [], rfl, (b3 sp nsd).trans (s2 _ _ hsp1), prs_but b3 hd2 (Prs.keep s2 hpx1), (b3 fb nfd).trans upd_same, .nil, List.Perm.refl _, Nat.le_refl _, DL3, ((Ext.same s1).trans (Ext.same s2)).trans (Ext.but b3)⟩ ?_ ?_
    · rintro i σ H4 hi ⟨v5, xs, ys, rs, fs, rfl, hsp, hpx, hfb4, hpy, hperm, hlen, DL4, ha4⟩
      have hxl := Paired.length hpx
      have hyl := Paired.length hpy
      have hpl := hperm.length_eq
      rw [List.length_append] at hpl
      refine ⟨_, rfl, sp, _, rfl, .inl (SqL.of hsp), _, _, rfl, rfl, _, rfl, ite2 (fun q1 => ?_) (fun q1 => ?_)⟩
      · have q1 := of_decide_eq_true q1
        refine ⟨_, rfl, .inl ⟨rfl, _, SqL.of hfb4⟩, _, rfl, .inl ⟨rfl, _, SqL.of hsp⟩, _, rfl, _, rfl, sp, _, rfl, .inl (SqL.of hsp), d, l, _, rfl, DL4, by omega, log_small (by omega), fun r5 H5 r50 r51 DL5 b5 => ?_⟩
        obtain ⟨kk, rfl⟩ := Int.eq_ofNat_of_zero_le r50
        obtain ⟨ysd4, hd4⟩ := DL4.draw.lst
        have hkx : kk < xs.length := by omega
        have hkr : rs[kk]? = some (rs[kk]'(by omega)) := List.getElem?_eq_getElem _
        generalize rs[kk]'(by omega) = c at hkr
        have hxk : xs[kk]? = some xs[kk] := List.getElem?_eq_getElem hkx
        have hpx5 := prs_but b5 hd4 hpx
        have hpy5 := prs_but b5 hd4 hpy
        obtain ⟨c', hc', hcp⟩ := paired_at hpx5 hxk
        rw [hkr] at hc'
        cases hc'
        have hsp5 := (b5 sp nsd).trans hsp
        have hfb5 := (b5 fb nfd).trans hfb4
        have ha5 : Ext d H H5 := ha4.trans (Ext.but b5)
        refine ⟨sp, xs, _, kk, _, rfl, rfl, hsp5, by omega, by omega, ?_, hxk, ?_⟩
        · have := seqIndex_of (k := ((kk : Nat) : Int)) (n := xs.length) (by omega) (by omega)
          rw [this, Int.toNat_natCast]
        have hfb6 : (upd H5 sp (.lst (xs.eraseIdx kk))) fb = some (.lst ys) := by rw [upd_ne nsf.symm]; exact hfb5
        refine ⟨fb, ys, _, rfl, rfl, hfb6, small1000 (by omega), ?_⟩
        refine ⟨_, xs.eraseIdx kk, ys ++ [xs[kk]], rs.eraseIdx kk, fs ++ [c], rfl, ?_, ?_, upd_same, ?_, ?_, ?_, ?_, ?_⟩
        · rw [upd_ne nsf, upd_same]
        · exact Prs.put hfb6 (Prs.put hsp5 (paired_erase kk hpx5))
        · refine paired_append (Prs.put hfb6 (Prs.put hsp5 hpy5)) (Prs.put hfb6 (Prs.put hsp5 (.cons hcp .nil)))
        · exact (erase_perm hkr fs).trans hperm
        · rw [List.length_append]
          show fs.length + 1 ≤ i + 1
          omega
        · exact (DL5.put nsd nsl).put nfd nfl
        · intro b o nb eb
          rw [upd_ne (ne_of_none (s1 _ _ eb) hfb), upd_ne (ne_of_none eb n1)]
          exact ha5 b o nb eb
      · exact ⟨_, xs, ys, rs, fs, rfl, hsp, hpx, hfb4, hpy, hperm, by omega, DL4, ha4⟩
    · rintro σ H4 ⟨v5, xs, ys, rs, fs, rfl, hsp, hpx, hfb4, hpy, hperm, hlen, DL4, ha4⟩
      refine ⟨_, rfl, fb, ys, fs, rfl, SqL.of hfb4, hpy, fun xs' cs' t hx pm ri ht => ?_⟩
      have st : Same H4 (upd H4 t (.lst xs')) := (Same.refl H4).new' ht
      have ndf : fs.Nodup := (List.nodup_append.mp (hperm.nodup_iff.mpr nd1)).1
      refine k t _ cs' ⟨xs', upd_same, Prs.keep st hx⟩ ⟨hc, fun c mc => ?_, pm.nodup_iff.mpr ndf, by rw [pm.length_eq]; omega, ri⟩ (DL4.keep st).draw (ha4.trans (Ext.same st))
      exact o1 c (hperm.mem_iff.mp (List.mem_append_left _ (pm.mem_iff.mp mc)))

end
end Toy

end
section
set_option maxHeartbeats 4000000
namespace Toy
open PySem L2
section
variable {P : Program} {w : World} {K : PySem.W.Frag} {mg : Str → Option Value} {base : Heap}
def spModel (K : PySem.W.Frag) : Sp := fun vs H Q _ => ∃ (d : Addr) (n m : Nat), vs = [.ref d, .int (n : Nat), .int (m : Nat)] ∧ Draw H d ∧ 1 ≤ n ∧ n ≤ 8 ∧ 1 ≤ m ∧ m ≤ 8 ∧ ∀ (t a b : Addr) (H' : Hp) (h f : Nat) (ls : List (List Bool)) (cs : List C2), H' t = some (.tup [.ref a, .ref b]) → H' a = some (.lst (ls.map vS)) → PL K H' b cs → CardV h f ls cs → h ≤ m → f ≤ m → ls.length ≤ n → Draw H' d → Ext d H H' → Q (.ref t) H'
abbrev nmModel : List Str := ["_law_draw", "_law_columns", "_law_most", "_law_stairs_in"]
theorem scModel : FnScope nmModel ["_law_draw", "_law_columns", "_law_most"] (defScope s__law_model) := ⟨rfl, rfl, rfl, by decide +kernel, rfl, by decide +kernel, by decide +kernel⟩
theorem ok_model {f fZ fA fB : Addr} {fd fdZ fdA fdB : FuncData} (F : Fun K "_law_model" "_law_model" s__law_model f fd)
    (GZ : FnOk P w K mg base CX0 3 fZ fdZ ["_law_draw", "_law_most"] spSize) (kZ : PySem.W.keepIn K (.ref fZ) = true) (bZ : Binds K fdZ ["_law_draw", "_law_most"] []) (mZ : mg "_law_size" = some (.ref fZ))
    (GA : FnOk P w K mg base CX0 3 fA fdA ["_law_draw", "_law_size_here", "_law_most"] (spStairs K)) (kA : PySem.W.keepIn K (.ref fA) = true) (bA : Binds K fdA ["_law_draw", "_law_size_here", "_law_most"] []) (mA : mg "_law_stairs" = some (.ref fA))
    (GB : FnOk P w K mg base CX0 5 fB fdB ["_law_draw", "_law_stairs_in", "_law_most"] (spSome K)) (kB : PySem.W.keepIn K (.ref fB) = true) (bB : Binds K fdB ["_law_draw", "_law_stairs_in", "_law_most"] []) (mB : mg "_law_some_slits" = some (.ref fB)) : FnOk P w K mg base CX0 6 f fd ["_law_draw", "_law_columns", "_law_most"] (spModel K) := by
  refine F.ok scModel (fun vs H Q E h => ?_) (fun cdv A outer s H vs Q E hr h => ?_)
  · obtain ⟨d, n, m, rfl, _⟩ := h
    rfl
  · obtain ⟨d, n, m, rfl, D0, n1, n8, m1, m8, k⟩ := h
    have nd := scModel.nd
    have hr3 : Room 3 _ := hr.mono (by decide)
    refine ⟨_, pss_cons (ps_set (i := 3) nd rfl (Or.inl rfl) (pe_call GA hr3 (by rfl) mA kA bA .nil pass0 (pa_cons (pv 0) (pa_cons (pe_call GZ hr3 (by rfl) mZ kZ bZ .nil pass0 (pa_cons (pv 0) (pa_cons (pv 2) pa_nil))) (pa_cons (pv 1) pa_nil)))))
      (pss_one (ps_ret (pe_tup (pa_cons (pv 3) (pa_cons (pe_call GB hr (by rfl) mB kB bB .nil pass0 (pa_cons (pv 0) (pa_cons (pv 3) (pa_cons pe_int pa_nil)))) pa_nil))))), ?_⟩
    refine ⟨_, rfl, _, rfl, _, rfl, d, m, rfl, D0, m1, by omega, fun p H2 h f h1 h8 hm f1 f8 fm hp D2 x2 => ?_⟩
    refine ⟨_, rfl, d, p, h, f, n, rfl, D2, hp, ⟨h1, h8, f1, f8⟩, n1, n8, fun l H3 ls hc ln hl D3 nld x3 _ => ?_⟩
    refine ⟨_, rfl, _, rfl, _, rfl, d, l, h, f, 4, ls, rfl, D3, hl, nld, hc, by decide, fun t H4 cs pl V0 D4 x4 => ?_⟩
    refine ⟨(by show 2 ≤ sizeLine; decide), fun q hq => ?_⟩
    have st : Same H4 (upd H4 q (.tup [.ref l, .ref t])) := (Same.refl H4).new' hq
    exact k q l t _ h f ls cs upd_same (st _ _ (x4 _ _ nld hl)) (pl.keep st) V0 hm fm ln (D4.keep st) (((x2.trans x3).trans x4).trans (Ext.same st))

end
end Toy

end
section
set_option maxHeartbeats 4000000
namespace Toy
open PySem L2
section
variable {P : Program} {w : World} {K : PySem.W.Frag} {mg : Str → Option Value} {base : Heap}
/-! ### the law's cards -/
def ModelAt (K : PySem.W.Frag) (H : Hp) (t : Addr) (ls : List (List Bool)) (cs : List C2) : Prop := ∃ a b : Addr, H t = some (.tup [.ref a, .ref b]) ∧ H a = some (.lst (ls.map vS)) ∧ PL K H b cs
theorem ModelAt.keep {H H' : Hp} {t : Addr} {ls : List (List Bool)} {cs : List C2} (m : ModelAt K H t ls cs) (s : Same H H') : ModelAt K H' t ls cs := by
  obtain ⟨a, b, e1, e2, e3⟩ := m
  exact ⟨a, b, s _ _ e1, s _ _ e2, e3.keep s⟩
def spLC (K : PySem.W.Frag) (C : Addr) : Sp := fun vs H Q _ => ∃ (t : Addr) (h d : Nat) (ls : List (List Bool)) (cs : List C2), vs = [.ref t] ∧ ModelAt K H t ls cs ∧ CardV h d ls cs ∧ ∀ (x : Addr) (H' : Hp), Same H H' → CardAt K C H' x ls cs → H x = none → Q (.ref x) H'
theorem scLC : FnScope ["_law_model_here"] ["_law_model_here"] (defScope s__law_card) := ⟨rfl, rfl, rfl, by decide +kernel, rfl, by decide +kernel, by decide +kernel⟩
theorem ok_lc {C f : Addr} {fd : FuncData} (F : Fun K "_law_card" "_law_card" s__law_card f fd) (gN : NOkC CX0 P w K mg base C 7 "Card" ["self", "stairs", "slits"] [] (spCInit K C)) (T : Blt mg) : FnOk P w K mg base CX0 9 f fd ["_law_model_here"] (spLC K C) := by
  refine F.ok scLC (fun vs H Q E h => ?_) (fun cdv A outer s H vs Q E hr h => ?_)
  · obtain ⟨t, h, d, ls, cs, rfl, _⟩ := h
    rfl
  · obtain ⟨t, h, d, ls, cs, rfl, ⟨a, b, e1, e2, xs, e3, e4⟩, V0, k⟩ := h
    refine ⟨_, pss_one (ps_ret (pe_nok gN hr (by rfl) (pa_cons (pe_callTy call_list_of (by rfl) T.list boot_list (pa_cons (pe_ix ix_tup (pv 0) pe_int (fun _ _ => rfl)) pa_nil)) (pa_cons (pe_callTy call_list_of (by rfl) T.list boot_list (pa_cons (pe_ix ix_tup (pv 0) pe_int (fun _ _ => rfl)) pa_nil)) pa_nil)))), ?_⟩
    refine ⟨_, rfl, t, _, 0, .ref a, rfl, rfl, SqT.of e1, rfl, a, _, rfl, .inl (SqL.of e2), fun l1 hl1 => ?_⟩
    have s1 : Same H (upd H l1 (.lst (ls.map vS))) := (Same.refl H).new' hl1
    refine ⟨_, rfl, t, _, 1, .ref b, rfl, rfl, SqT.of (s1 _ _ e1), rfl, b, _, rfl, .inl (SqL.of (s1 _ _ e3)), fun l2 hl2 => ?_⟩
    have s2 : Same (upd H l1 (.lst (ls.map vS))) (upd (upd H l1 (.lst (ls.map vS))) l2 (.lst xs)) := (Same.refl _).new' hl2
    intro x dx hx hdx ne
    refine card_new hx hdx ne (SqL.of (s2 _ _ upd_same)) V0.c (.lst (SqL.of upd_same) (Prs.keep (s1.trans s2) e4)) V0.nd V0.n4 V0.o fun H4 cs' s4 card pm V1 => ⟨rfl, ?_⟩
    have e := rising_eq pm V1.ri V0.ri
    subst e
    exact k x H4 ((s1.trans s2).trans s4) card ((s1.trans s2).free hx)

end
end Toy

end
section
set_option maxHeartbeats 4000000
namespace Toy
open PySem L2
section
variable {P : Program} {w : World} {K : PySem.W.Frag} {mg : Str → Option Value} {base : Heap}
theorem scSame : FnScope ["_law_told", "_law_due", "_law_one", "_law_other_here"] ["_law_told", "_law_due"] (defScope s__law_same) := ⟨rfl, rfl, rfl, by decide +kernel, rfl, by decide +kernel, by decide +kernel⟩
theorem step_same {f : Addr} {fd : FuncData} {R : Hp → V → V → Prop} {n : Nat} (F : Fun K "_law_same" "_law_same" s__law_same f fd) (b : Binds K fd ["_law_told", "_law_due"] []) (mS : mg "_law_same" = some (.ref f)) (T : Blt mg) (hR : ∀ H H' x y, Same H H' → R H x y → R H' x y)
    (ih : FnOk P w K mg base CX0 n f fd ["_law_told", "_law_due"] (spR R)) : FnOk P w K mg base CX0 (n + 1) f fd ["_law_told", "_law_due"] (spR (StepR R)) := by
  refine F.ok scSame (fun vs H Q E h => ?_) (fun cdv A outer s H vs Q E hr h => ?_)
  · obtain ⟨x, y, rfl, _⟩ := h
    rfl
  · obtain ⟨x, y, rfl, al, k⟩ := h
    have nd := scSame.nd
    refine ⟨_, pss_cons (ps_if (pt_cmpR op_isN (pv 1) pe_non (nomark _)) (pss_one (ps_ret (pe_cmpR op_isN (pv 0) pe_non (nomark _)))) pss_nil)
      (pss_cons (ps_if (PW.pt (pw_or (pt_val (pe_callB (call_isi (T := "bool")) (by rfl) T.isinstance boot_isinstance (pa_cons (pv 1) (pa_cons (pe_bltn (v := .ty "bool") (by rfl) T.bool boot_bool rfl) pa_nil)))) (pw_or1 (pt_val (pe_callB (call_isi (T := "bool")) (by rfl) T.isinstance boot_isinstance (pa_cons (pv 0) (pa_cons (pe_bltn (v := .ty "bool") (by rfl) T.bool boot_bool rfl) pa_nil)))))))
        (pss_one (ps_ret (pe_and (pe_callB (call_isi (T := "bool")) (by rfl) T.isinstance boot_isinstance (pa_cons (pv 1) (pa_cons (pe_bltn (v := .ty "bool") (by rfl) T.bool boot_bool rfl) pa_nil))) (pe_and (pe_callB (call_isi (T := "bool")) (by rfl) T.isinstance boot_isinstance (pa_cons (pv 0) (pa_cons (pe_bltn (v := .ty "bool") (by rfl) T.bool boot_bool rfl) pa_nil))) (pe_one (pe_cmpR op_eq (pv 0) (pv 1) (nomark _))))))) pss_nil)
      (pss_cons (ps_if (pt_val (pe_callB call_isi2 (by rfl) T.isinstance boot_isinstance (pa_cons (pv 1) (pa_cons (pe_tup (pa_cons (pe_bltn (v := .ty "int") (by rfl) T.int boot_int rfl) (pa_cons (pe_bltn (v := .ty "str") (by rfl) T.str boot_str rfl) pa_nil))) pa_nil))))
        (pss_one (ps_ret (pe_and (pe_callB call_isi2 (by rfl) T.isinstance boot_isinstance (pa_cons (pv 0) (pa_cons (pe_tup (pa_cons (pe_bltn (v := .ty "int") (by rfl) T.int boot_int rfl) (pa_cons (pe_bltn (v := .ty "str") (by rfl) T.str boot_str rfl) pa_nil))) pa_nil)))
          (pe_and (pe_cmpR op_eq (pe_callB (call_isi (T := "int")) (by rfl) T.isinstance boot_isinstance (pa_cons (pv 0) (pa_cons (pe_bltn (v := .ty "int") (by rfl) T.int boot_int rfl) pa_nil))) (pe_callB (call_isi (T := "int")) (by rfl) T.isinstance boot_isinstance (pa_cons (pv 1) (pa_cons (pe_bltn (v := .ty "int") (by rfl) T.int boot_int rfl) pa_nil))) (nomark _)) (pe_one (pe_cmpR op_eq (pv 0) (pv 1) (nomark _))))))) pss_nil)
      (pss_cons (ps_if (PW.pt (pw_or (pt_cmpR op_ne (pe_callB (call_isi (T := "list")) (by rfl) T.isinstance boot_isinstance (pa_cons (pv 1) (pa_cons (pe_bltn (v := .ty "list") (by rfl) T.list boot_list rfl) pa_nil))) (pe_callB (call_isi (T := "list")) (by rfl) T.isinstance boot_isinstance (pa_cons (pv 0) (pa_cons (pe_bltn (v := .ty "list") (by rfl) T.list boot_list rfl) pa_nil))) (nomark _))
          (pw_or1 (pt_cmpR op_ne (pe_callB (call_isi (T := "tuple")) (by rfl) T.isinstance boot_isinstance (pa_cons (pv 1) (pa_cons (pe_bltn (v := .ty "tuple") (by rfl) T.tuple boot_tuple rfl) pa_nil))) (pe_callB (call_isi (T := "tuple")) (by rfl) T.isinstance boot_isinstance (pa_cons (pv 0) (pa_cons (pe_bltn (v := .ty "tuple") (by rfl) T.tuple boot_tuple rfl) pa_nil))) (nomark _)))))
        (pss_one (ps_ret pe_bl)) pss_nil)
      (pss_one (ps_ret (pe_and (pe_cmpR op_eq (pe_callB call_len_seq (by rfl) T.len PySem.boot_len (pa_cons (pv 0) pa_nil)) (pe_callB call_len_seq (by rfl) T.len PySem.boot_len (pa_cons (pv 1) pa_nil)) (nomark _))
        (pe_one (pe_callB (cr_all rfl) (by rfl) T.all boot_all (pa_cons (pe_lc (own := [("_law_one", 2), ("_law_other_here", 3)]) (g := gTup K 2 (gCons (gName 2) (gCons (gName 3) gNil))) (by rfl) nd (pi_zipn (by rfl) T.zip (pa_cons (pv 0) (pa_cons (pv 1) pa_nil))) (blkOk_by (own := [("_law_one", 2), ("_law_other_here", 3)]) (N := ["_law_told", "_law_due", "_law_one", "_law_other_here"]) (sc := defScope s__law_same) (by decide +kernel))
          (fun _ _ _ _ _ => pg_tup (by rfl) (pgs_cons (pg_name (i := 2) nd rfl (Or.inl rfl)) (pgs_cons (pg_name (i := 3) nd rfl (Or.inl rfl)) pgs_nil))) (fun _ _ _ _ _ => pts_nil) (fun _ _ _ _ _ => pe_call ih hr (by rfl) mS F.kp b .nil pass0 (pa_cons (pv 2) (pa_cons (pv 3) pa_nil)))) pa_nil))))))))), ?_⟩
    have skip : ∀ {q : Prop} {A B : Prop} [Decidable q], q → A → if (decide q) = true then A else B := fun hq ha => by rw [decide_eq_true hq]; exact iteT ha
    rcases al with ⟨hf, rfl⟩ | ⟨a, b', xs, ys, rfl, rfl, ha, hb, hl, hz, hel⟩ | ⟨a, b', xs, ys, rfl, rfl, ha, hb, hl, hz, hel⟩
    · cases x with
      | non =>
        refine ⟨_, rfl, rfl, _, rfl, ?_⟩
        rw [decide_eq_true rfl]
        refine iteT ?_
        refine ⟨_, rfl, rfl, ?_⟩
        exact k H (Same.refl H)
      | bl y =>
        refine ⟨_, rfl, rfl, _, rfl, ?_⟩
        rw [decide_eq_false (fun z => nomatch z)]
        refine iteF ?_
        refine ⟨_, rfl, _, _, true, rfl, .bl y, (kt_bool K).2.1, _, rfl, iteT ?_⟩
        refine iteT ?_
        refine ⟨_, rfl, _, _, true, rfl, .bl y, (kt_bool K).2.1, _, rfl, iteT ?_⟩
        refine ⟨_, rfl, _, _, true, rfl, .bl y, (kt_bool K).2.1, _, rfl, iteT ?_⟩
        refine ⟨_, rfl, _, rfl, rfl, ?_⟩
        rw [decide_eq_true rfl]
        exact k H (Same.refl H)
      | int y =>
        refine ⟨_, rfl, rfl, _, rfl, ?_⟩
        rw [decide_eq_false (fun z => nomatch z)]
        refine iteF ?_
        refine ⟨_, rfl, _, _, false, rfl, .int y, (kt_bool K).2.2.1, _, rfl, iteF ?_⟩
        refine ⟨_, rfl, _, _, false, rfl, .int y, (kt_bool K).2.2.1, _, rfl, ?_⟩
        refine iteF ?_
        refine ⟨_, rfl, (by show 2 ≤ sizeLine; decide), fun p hp => ⟨_, _, p, "int", "str", true, rfl, upd_same, .int y, (fun _ z => nomatch z), (kt_two K).1, _, rfl, iteT ?_⟩⟩
        refine ⟨_, rfl, (by show 2 ≤ sizeLine; decide), fun p2 hp2 => ⟨_, _, p2, "int", "str", true, rfl, upd_same, .int y, (fun _ z => nomatch z), (kt_two K).1, _, rfl, iteT ?_⟩⟩
        refine ⟨_, rfl, _, _, true, rfl, .int y, (kt_int K).1, _, rfl, _, _, true, rfl, .int y, (kt_int K).1, rfl, ?_⟩
        rw [decide_eq_true rfl]
        refine ⟨_, rfl, iteT ?_⟩
        refine ⟨_, rfl, _, rfl, rfl, ?_⟩
        rw [decide_eq_true rfl]
        exact k _ (((Same.refl H).new hp).new hp2)
      | str y =>
        refine ⟨_, rfl, rfl, _, rfl, ?_⟩
        rw [decide_eq_false (fun z => nomatch z)]
        refine iteF ?_
        refine ⟨_, rfl, _, _, false, rfl, .str y, (kt_bool K).2.2.2.1, _, rfl, iteF ?_⟩
        refine ⟨_, rfl, _, _, false, rfl, .str y, (kt_bool K).2.2.2.1, _, rfl, ?_⟩
        refine iteF ?_
        refine ⟨_, rfl, (by show 2 ≤ sizeLine; decide), fun p hp => ⟨_, _, p, "int", "str", true, rfl, upd_same, .str y, (fun _ z => nomatch z), (kt_two K).2.1, _, rfl, iteT ?_⟩⟩
        refine ⟨_, rfl, (by show 2 ≤ sizeLine; decide), fun p2 hp2 => ⟨_, _, p2, "int", "str", true, rfl, upd_same, .str y, (fun _ z => nomatch z), (kt_two K).2.1, _, rfl, iteT ?_⟩⟩
        refine ⟨_, rfl, _, _, false, rfl, .str y, (kt_int K).2, _, rfl, _, _, false, rfl, .str y, (kt_int K).2, rfl, ?_⟩
        rw [decide_eq_true rfl]
        refine ⟨_, rfl, iteT ?_⟩
        refine ⟨_, rfl, _, rfl, rfl, ?_⟩
        rw [decide_eq_true rfl]
        exact k _ (((Same.refl H).new hp).new hp2)
      | byt y => cases hf
      | flt y => cases hf
      | ref y => cases hf
      | ty y => cases hf
    · refine ⟨_, rfl, rfl, _, rfl, ?_⟩
      rw [decide_eq_false (fun z => nomatch z)]
      refine iteF ?_
      refine ⟨_, rfl, _, _, false, rfl, .lst hb, (kt_bool K).2.2.2.2.1, _, rfl, iteF ?_⟩
      refine ⟨_, rfl, _, _, false, rfl, .lst ha, (kt_bool K).2.2.2.2.1, _, rfl, ?_⟩
      refine iteF ?_
      refine ⟨_, rfl, (by show 2 ≤ sizeLine; decide), fun p hp => ?_⟩
      have ha1 : (upd H p (.tup [.ty "int", .ty "str"])) a = some (.lst xs) := by rw [upd_ne (ne_of_none ha hp)]; exact ha
      have hb1 : (upd H p (.tup [.ty "int", .ty "str"])) b' = some (.lst ys) := by rw [upd_ne (ne_of_none hb hp)]; exact hb
      have s1 : Same H (upd H p (.tup [.ty "int", .ty "str"])) := (Same.refl H).new hp
      generalize hH1 : upd H p (.tup [.ty "int", .ty "str"]) = H1 at ha1 hb1 s1
      refine ⟨_, _, p, "int", "str", false, rfl, (by rw [← hH1]; exact upd_same), .lst hb1, (fun _ z => nomatch z), (kt_two K).2.2.1, _, rfl, iteF ?_⟩
      refine ⟨_, rfl, _, _, true, rfl, .lst hb1, (kt_list K).1, _, rfl, _, _, true, rfl, .lst ha1, (kt_list K).1, rfl, _, rfl, ?_⟩
      refine iteNS rfl ?_
      refine ⟨_, rfl, _, _, false, rfl, .lst hb1, (kt_tuple K).1, _, rfl, _, _, false, rfl, .lst ha1, (kt_tuple K).1, rfl, _, rfl, ?_⟩
      refine iteNS rfl ?_
      refine ⟨_, rfl, a, xs, rfl, .inl (SqL.of ha1), _, rfl, b', ys, rfl, .inl (SqL.of hb1), rfl, ?_⟩
      rw [hl, decide_eq_true rfl]
      refine ⟨_, rfl, iteT ?_⟩
      have sH : ∀ {H2 : Hp}, Same H1 H2 → Same H H2 := fun s2 => s1.trans s2
      refine ⟨_, rfl, _, rfl, .L a, .L b', xs, ys, rfl, SqL.of ha1, SqL.of hb1, fun D hD => lc_it (n := xs.length) (fun i H2 => Same H1 H2 ∧ H2 D = some (.lst (List.replicate i (V.bl true)))) ⟨(Same.refl H1).new hD, upd_same⟩ (fun i H2 hi z => ?_) (fun H2 z => ?_)⟩
      · obtain ⟨s2, hD2⟩ := z
        refine ⟨⟨xs, ys, _, _, SqL.of (s2 _ _ ha1), SqL.of (s2 _ _ hb1), List.getElem?_eq_getElem hi, List.getElem?_eq_getElem (by omega)⟩, ?_⟩
        rintro v HF ⟨T, x, y, rfl, hT, rfl, hx, hy⟩
        have hx := hx _ (SqL.of (s2 _ _ ha1))
        have hy := hy _ (SqL.of (s2 _ _ hb1))
        refine ⟨T, [x, y], rfl, SqT.of upd_same, rfl, x, [y], rfl, y, [], rfl, rfl, rfl, ?_⟩
        unfold tYes
        dsimp only
        rw [if_pos rfl]
        have s3 : Same H2 (upd H2 T (.tup [x, y])) := (Same.refl H2).new hT
        refine ⟨_, rfl, _, rfl, x, y, rfl, hR H _ x y (sH (s2.trans s3)) (hel i x y hx hy), fun H3 s4 => ?_⟩
        refine ⟨_, s4 _ _ (s3 _ _ hD2), by rw [List.length_replicate]; omega, (s2.trans (s3.trans s4)).turn hD, ?_⟩
        rw [upd_same, List.replicate_succ']
      · obtain ⟨s2, hD2⟩ := z
        refine ⟨⟨xs, ys, SqL.of (s2 _ _ ha1), SqL.of (s2 _ _ hb1), .inl (Nat.le_refl _)⟩, ?_⟩
        refine ⟨D, List.replicate xs.length true, rfl, SqL.of (by rw [hD2, List.map_replicate]), ?_⟩
        rw [show (List.replicate xs.length true).all id = true by simp]
        exact k H2 (sH s2)
    · refine ⟨_, rfl, rfl, _, rfl, ?_⟩
      rw [decide_eq_false (fun z => nomatch z)]
      refine iteF ?_
      refine ⟨_, rfl, _, _, false, rfl, .tup hb, (kt_bool K).2.2.2.2.2, _, rfl, iteF ?_⟩
      refine ⟨_, rfl, _, _, false, rfl, .tup ha, (kt_bool K).2.2.2.2.2, _, rfl, ?_⟩
      refine iteF ?_
      refine ⟨_, rfl, (by show 2 ≤ sizeLine; decide), fun p hp => ?_⟩
      have ha1 : (upd H p (.tup [.ty "int", .ty "str"])) a = some (.tup xs) := by rw [upd_ne (ne_of_none ha hp)]; exact ha
      have hb1 : (upd H p (.tup [.ty "int", .ty "str"])) b' = some (.tup ys) := by rw [upd_ne (ne_of_none hb hp)]; exact hb
      have s1 : Same H (upd H p (.tup [.ty "int", .ty "str"])) := (Same.refl H).new hp
      generalize hH1 : upd H p (.tup [.ty "int", .ty "str"]) = H1 at ha1 hb1 s1
      refine ⟨_, _, p, "int", "str", false, rfl, (by rw [← hH1]; exact upd_same), .tup hb1, (fun _ z => nomatch z), (kt_two K).2.2.2, _, rfl, iteF ?_⟩
      refine ⟨_, rfl, _, _, false, rfl, .tup hb1, (kt_list K).2, _, rfl, _, _, false, rfl, .tup ha1, (kt_list K).2, rfl, _, rfl, ?_⟩
      refine iteNS rfl ?_
      refine ⟨_, rfl, _, _, true, rfl, .tup hb1, (kt_tuple K).2, _, rfl, _, _, true, rfl, .tup ha1, (kt_tuple K).2, rfl, _, rfl, ?_⟩
      refine iteNS rfl ?_
      refine ⟨_, rfl, a, xs, rfl, .inr (SqT.of ha1), _, rfl, b', ys, rfl, .inr (SqT.of hb1), rfl, ?_⟩
      rw [hl, decide_eq_true rfl]
      refine ⟨_, rfl, iteT ?_⟩
      have sH : ∀ {H2 : Hp}, Same H1 H2 → Same H H2 := fun s2 => s1.trans s2
      refine ⟨_, rfl, _, rfl, .T a, .T b', xs, ys, rfl, SqT.of ha1, SqT.of hb1, fun D hD => lc_it (n := xs.length) (fun i H2 => Same H1 H2 ∧ H2 D = some (.lst (List.replicate i (V.bl true)))) ⟨(Same.refl H1).new hD, upd_same⟩ (fun i H2 hi z => ?_) (fun H2 z => ?_)⟩
      · obtain ⟨s2, hD2⟩ := z
        refine ⟨⟨xs, ys, _, _, SqT.of (s2 _ _ ha1), SqT.of (s2 _ _ hb1), List.getElem?_eq_getElem hi, List.getElem?_eq_getElem (by omega)⟩, ?_⟩
        rintro v HF ⟨T, x, y, rfl, hT, rfl, hx, hy⟩
        have hx := hx _ (SqT.of (s2 _ _ ha1))
        have hy := hy _ (SqT.of (s2 _ _ hb1))
        refine ⟨T, [x, y], rfl, SqT.of upd_same, rfl, x, [y], rfl, y, [], rfl, rfl, rfl, ?_⟩
        unfold tYes
        dsimp only
        rw [if_pos rfl]
        have s3 : Same H2 (upd H2 T (.tup [x, y])) := (Same.refl H2).new hT
        refine ⟨_, rfl, _, rfl, x, y, rfl, hR H _ x y (sH (s2.trans s3)) (hel i x y hx hy), fun H3 s4 => ?_⟩
        refine ⟨_, s4 _ _ (s3 _ _ hD2), by rw [List.length_replicate]; omega, (s2.trans (s3.trans s4)).turn hD, ?_⟩
        rw [upd_same, List.replicate_succ']
      · obtain ⟨s2, hD2⟩ := z
        refine ⟨⟨xs, ys, SqT.of (s2 _ _ ha1), SqT.of (s2 _ _ hb1), .inl (Nat.le_refl _)⟩, ?_⟩
        refine ⟨D, List.replicate xs.length true, rfl, SqL.of (by rw [hD2, List.map_replicate]), ?_⟩
        rw [show (List.replicate xs.length true).all id = true by simp]
        exact k H2 (sH s2)
theorem ok_same {f : Addr} {fd : FuncData} (F : Fun K "_law_same" "_law_same" s__law_same f fd) (b : Binds K fd ["_law_told", "_law_due"] []) (mS : mg "_law_same" = some (.ref f)) (T : Blt mg) : ∀ n, FnOk P w K mg base CX0 n f fd ["_law_told", "_law_due"] (spR (Alike n))
  | 0 => FnOk.never
  | n + 1 => step_same F b mS T (fun _ _ _ _ s h => Alike.keep s h) (ok_same F b mS T n)

end
end Toy

end
section
set_option maxHeartbeats 4000000
namespace Toy
open PySem L2
section
variable {P : Program} {w : World} {K : PySem.W.Frag} {mg : Str → Option Value} {base : Heap}
theorem scFar : FnScope ["_law_draw", "_law_number"] ["_law_draw"] (defScope s__law_far) := ⟨rfl, rfl, rfl, by decide +kernel, rfl, by decide +kernel, by decide +kernel⟩
def spFar : Sp := fun vs H Q _ => ∃ (d : Addr), vs = [.ref d] ∧ Draw H d ∧ ∀ (r : Int) (H' : Hp), Draw H' d → But d H H' → Q (.int r) H'
theorem ok_far {f fT : Addr} {fd fdT : FuncData} (F : Fun K "_law_far" "_law_far" s__law_far f fd) (FT : Fun K "_law_take" "_law_take" s__law_take fT fdT) (bT : Binds K fdT ["_law_draw", "_law_many"] []) (mT : mg "_law_take" = some (.ref fT)) (T : Blt mg) : FnOk P w K mg base CX0 2 f fd ["_law_draw"] spFar := by
  have GT : FnOk P w K mg base CX0 1 fT fdT ["_law_draw", "_law_many"] spTake := ok_take FT T
  refine F.ok scFar (fun vs H Q E h => ?_) (fun cdv A outer s H vs Q E hr h => ?_)
  · obtain ⟨d, rfl, _⟩ := h
    rfl
  · obtain ⟨d, rfl, Dr, k⟩ := h
    have nd := scFar.nd
    refine ⟨_, pss_cons (ps_set (i := 1) nd rfl (Or.inl rfl) (pe_call GT hr (by rfl) mT FT.kp bT .nil pass0 (pa_cons (pv 0) (pa_cons (pe_op op_pow pe_int pe_int) pa_nil))))
      (pss_cons (ps_if (pt_cmpR op_eq (pe_call GT hr (by rfl) mT FT.kp bT .nil pass0 (pa_cons (pv 0) (pa_cons pe_int pa_nil))) pe_int (nomark _)) (pss_one (ps_ret (pe_op op_sub (pe_op op_sub pe_int pe_int) (pv 1)))) pss_nil)
      (pss_one (ps_ret (pe_op op_add pe_int (pv 1))))), ?_⟩
    refine ⟨_, rfl, _, _, rfl, rfl, ⟨by decide, by decide, by decide⟩, d, _, rfl, Dr, (by decide), (by decide +kernel), fun r H1 r0 r1 D1 b1 => ?_⟩
    refine ⟨_, rfl, d, _, rfl, D1, (by decide), (by decide +kernel), fun r2 H2 r20 r21 D2 b2 => ?_⟩
    refine ⟨rfl, _, rfl, ite2 (fun _ => ?_) (fun _ => ?_)⟩
    · exact ⟨_, _, rfl, rfl, _, rfl, _, _, rfl, rfl, k _ H2 D2 (b1.trans b2)⟩
    · exact ⟨_, rfl, _, _, rfl, rfl, k _ H2 D2 (b1.trans b2)⟩

end
end Toy

end
section
set_option maxHeartbeats 4000000
namespace Toy
open PySem L2
section
variable {P : Program} {w : World} {K : PySem.W.Frag} {mg : Str → Option Value} {base : Heap}
abbrev nmKind : List Str := ["_law_e", "_law_flags", "_law_words", "_law_of_room", "_law_bases", "_law_word", "_law_good"]
theorem scKind : FnScope nmKind ["_law_e"] (defScope s__law_kind) := ⟨rfl, rfl, rfl, by decide +kernel, rfl, by decide +kernel, by decide +kernel⟩
theorem ok_kind {f cE rE : Addr} {fd : FuncData} {e : Nat → Addr} (F : Fun K "_law_kind" "_law_kind" s__law_kind f fd) (R : Errs K mg e cE rE) (T : Blt mg) : FnOkQ P w K mg base 1 f fd ["_law_e"] (spKind K e cE rE) := by
  refine F.okQ scKind (fun ea oe vs H Q E h => ?_) (fun cdv A outer s H vs Q ea oe hr hA hx hH hfr h => ?_)
  · obtain ⟨j, rfl, _⟩ := h
    rfl
  · obtain ⟨j, rfl, J, hcls, hex, hdic, k⟩ := h
    have nd := scKind.nd
    have hu : A.units + 3 + 64 < cLine := huq_of hr
    have kn : ExKn (cxOfQ CX0 P w K mg base nmKind "_law_kind" (defScope s__law_kind) f cdv A outer s H E0).nox ea (e j) oe := ⟨hx, hH, hfr, by simp [cxOfQ], hcls, hex⟩
    have qu : Qu (cxOfQ CX0 P w K mg base nmKind "_law_kind" (defScope s__law_kind) f cdv A outer s H E0).nox := by
      obtain ⟨vs, dv, cv⟩ := id hex
      exact ⟨ea, oe, vs, hA, hx, hH, hfr, by simp [cxOfQ], dv, cv⟩
    have z : ExcK (cxOfQ CX0 P w K mg base nmKind "_law_kind" (defScope s__law_kind) f cdv A outer s H E0).nox.K (e j) := J.z
    refine ⟨_, pss_cut (ps_set (i := 1) nd rfl (Or.inl rfl) (pe_lst (pa_cons (pe_callB (call_isiE kn z) (by rfl) T.isinstance boot_isinstance (pa_cons (pv 0) (pa_cons (pe_glob (v := .ref (e 0)) (by rfl) R.m0 rfl) pa_nil))) (pa_cons (pe_callB (call_isiE kn z) (by rfl) T.isinstance boot_isinstance (pa_cons (pv 0) (pa_cons (pe_glob (v := .ref (e 1)) (by rfl) R.m1 rfl) pa_nil))) (pa_cons (pe_callB (call_isiE kn z) (by rfl) T.isinstance boot_isinstance (pa_cons (pv 0) (pa_cons (pe_glob (v := .ref (e 2)) (by rfl) R.m2 rfl) pa_nil))) pa_nil)))))
      (pss_cut (ps_set (i := 1) nd rfl (Or.inl rfl) (pe_op op_cat (pv 1) (pe_lst (pa_cons (pe_callB (call_isiE kn z) (by rfl) T.isinstance boot_isinstance (pa_cons (pv 0) (pa_cons (pe_glob (v := .ref (e 3)) (by rfl) R.m3 rfl) pa_nil))) (pa_cons (pe_callB (call_isiE kn z) (by rfl) T.isinstance boot_isinstance (pa_cons (pv 0) (pa_cons (pe_glob (v := .ref (e 4)) (by rfl) R.m4 rfl) pa_nil))) (pa_cons (pe_callB (call_isiE kn z) (by rfl) T.isinstance boot_isinstance (pa_cons (pv 0) (pa_cons (pe_glob (v := .ref (e 5)) (by rfl) R.m5 rfl) pa_nil))) pa_nil))))))
      (pss_cut (ps_set (i := 1) nd rfl (Or.inl rfl) (pe_op op_cat (pv 1) (pe_lst (pa_cons (pe_callB (call_isiE kn z) (by rfl) T.isinstance boot_isinstance (pa_cons (pv 0) (pa_cons (pe_glob (v := .ref (e 6)) (by rfl) R.m6 rfl) pa_nil))) (pa_cons (pe_callB (call_isiE kn z) (by rfl) T.isinstance boot_isinstance (pa_cons (pv 0) (pa_cons (pe_glob (v := .ref (e 7)) (by rfl) R.m7 rfl) pa_nil))) (pa_cons (pe_callB (call_isiE kn z) (by rfl) T.isinstance boot_isinstance (pa_cons (pv 0) (pa_cons (pe_glob (v := .ref (e 8)) (by rfl) R.m8 rfl) pa_nil))) pa_nil))))))
      (pss_cut (ps_set (i := 1) nd rfl (Or.inl rfl) (pe_op op_cat (pv 1) (pe_lst (pa_cons (pe_callB (call_isiE kn z) (by rfl) T.isinstance boot_isinstance (pa_cons (pv 0) (pa_cons (pe_glob (v := .ref (e 9)) (by rfl) R.m9 rfl) pa_nil))) (pa_cons (pe_callB (call_isiE kn z) (by rfl) T.isinstance boot_isinstance (pa_cons (pv 0) (pa_cons (pe_glob (v := .ref (e 10)) (by rfl) R.m10 rfl) pa_nil))) (pa_cons (pe_callB (call_isiE kn z) (by rfl) T.isinstance boot_isinstance (pa_cons (pv 0) (pa_cons (pe_glob (v := .ref (e 11)) (by rfl) R.m11 rfl) pa_nil))) pa_nil))))))
      (pss_cut (ps_set (i := 1) nd rfl (Or.inl rfl) (pe_op op_cat (pv 1) (pe_lst (pa_cons (pe_callB (call_isiE kn z) (by rfl) T.isinstance boot_isinstance (pa_cons (pv 0) (pa_cons (pe_glob (v := .ref (e 12)) (by rfl) R.m12 rfl) pa_nil))) (pa_cons (pe_callB (call_isiE kn z) (by rfl) T.isinstance boot_isinstance (pa_cons (pv 0) (pa_cons (pe_glob (v := .ref (e 13)) (by rfl) R.m13 rfl) pa_nil))) (pa_cons (pe_callB (call_isiE kn z) (by rfl) T.isinstance boot_isinstance (pa_cons (pv 0) (pa_cons (pe_glob (v := .ref (e 14)) (by rfl) R.m14 rfl) pa_nil))) pa_nil))))))
      (pss_cut (ps_set (i := 1) nd rfl (Or.inl rfl) (pe_op op_cat (pv 1) (pe_lst (pa_cons (pe_callB (call_isiE kn z) (by rfl) T.isinstance boot_isinstance (pa_cons (pv 0) (pa_cons (pe_glob (v := .ref (e 15)) (by rfl) R.m15 rfl) pa_nil))) (pa_cons (pe_callB (call_isiE kn z) (by rfl) T.isinstance boot_isinstance (pa_cons (pv 0) (pa_cons (pe_glob (v := .ref (e 16)) (by rfl) R.m16 rfl) pa_nil))) (pa_cons (pe_callB (call_isiE kn z) (by rfl) T.isinstance boot_isinstance (pa_cons (pv 0) (pa_cons (pe_glob (v := .ref (e 17)) (by rfl) R.m17 rfl) pa_nil))) pa_nil))))))
      (pss_cut (ps_set (i := 1) nd rfl (Or.inl rfl) (pe_op op_cat (pv 1) (pe_lst (pa_cons (pe_callB (call_isiE kn z) (by rfl) T.isinstance boot_isinstance (pa_cons (pv 0) (pa_cons (pe_glob (v := .ref (e 18)) (by rfl) R.m18 rfl) pa_nil))) (pa_cons (pe_callB (call_isiE kn z) (by rfl) T.isinstance boot_isinstance (pa_cons (pv 0) (pa_cons (pe_glob (v := .ref (e 19)) (by rfl) R.m19 rfl) pa_nil))) (pa_cons (pe_callB (call_isiE kn z) (by rfl) T.isinstance boot_isinstance (pa_cons (pv 0) (pa_cons (pe_glob (v := .ref (e 20)) (by rfl) R.m20 rfl) pa_nil))) pa_nil))))))
      (pss_cut (ps_set (i := 1) nd rfl (Or.inl rfl) (pe_op op_cat (pv 1) (pe_lst (pa_cons (pe_callB (call_isiE kn z) (by rfl) T.isinstance boot_isinstance (pa_cons (pv 0) (pa_cons (pe_glob (v := .ref (e 21)) (by rfl) R.m21 rfl) pa_nil))) (pa_cons (pe_callB (call_isiE kn z) (by rfl) T.isinstance boot_isinstance (pa_cons (pv 0) (pa_cons (pe_glob (v := .ref (e 22)) (by rfl) R.m22 rfl) pa_nil))) pa_nil)))))
      (pss_cons (ps_set (i := 2) nd rfl (Or.inl rfl) pe_str)
      (pss_cons (ps_set (i := 2) nd rfl (Or.inl rfl) (pe_op op_add_str (pv 2) pe_str))
      (pss_cut (ps_set (i := 3) nd rfl (Or.inl rfl) (pe_cmpR op_in_seq pe_bl (pe_slice sl_list (pv 1) (po_some pe_int) po_none) (by rfl)))
      (pss_cut (ps_set (i := 4) nd rfl (Or.inl rfl) (pe_lst (pa_cons (pe_callB (call_isiE kn z) (by rfl) T.isinstance boot_isinstance (pa_cons (pv 0) (pa_cons (pe_glob (v := .ref cE) (by rfl) R.mC rfl) pa_nil))) (pa_cons (pe_callB (call_isiET (T := "ValueError") kn z) (by rfl) T.isinstance boot_isinstance (pa_cons (pv 0) (pa_cons (pe_bltn (v := .ty "ValueError") (by rfl) R.mV boot_valueerror rfl) pa_nil))) pa_nil))))
      (pss_cut (ps_set (i := 4) nd rfl (Or.inl rfl) (pe_op op_cat (pv 4) (pe_lst (pa_cons (pe_callB (call_isiE kn z) (by rfl) T.isinstance boot_isinstance (pa_cons (pv 0) (pa_cons (pe_glob (v := .ref rE) (by rfl) R.mR rfl) pa_nil))) (pa_cons (pe_callB (call_isiET (T := "LookupError") kn z) (by rfl) T.isinstance boot_isinstance (pa_cons (pv 0) (pa_cons (pe_bltn (v := .ty "LookupError") (by rfl) R.mL boot_lookuperror rfl) pa_nil))) pa_nil)))))
      (pss_cut (ps_if (pt_cmpR (op_neD hu) (pv 4) (pe_lst (pa_cons (pe_not (pv 3)) (pa_cons (pe_not (pv 3)) (pa_cons (pv 3) (pa_cons (pv 3) pa_nil))))) (nomark _)) (pss_one (ps_ret pe_str)) pss_nil)
      (pss_one (ps_ret (pe_join pe_str (pe_lcQ (own := [("_law_word", 5), ("_law_good", 6)]) (g := gTup K 2 (gCons (gName 5) (gCons (gName 6) gNil))) qu nd (pi_zipQ (by rfl) T.zip (pa_cons (pe_split (pv 2) pe_str) (pa_cons (pv 1) pa_nil))) (blkOk_by (own := [("_law_word", 5), ("_law_good", 6)]) (N := nmKind) (sc := defScope s__law_kind) (by decide +kernel))
        (fun _ _ _ _ _ q => pg_tupQ q (pgs_cons (pg_name (i := 5) nd rfl (Or.inl rfl)) (pgs_cons (pg_name (i := 6) nd rfl (Or.inl rfl)) pgs_nil))) (fun _ _ _ _ _ => pts_one (pt_val (pv 6))) (fun _ _ _ _ _ => pv 5)))))))))))))))))), ?_⟩
    have lt := J.lt
    refine ⟨fun σ2 H2 => ∃ fl : Addr, σ2 = [some (.ref ea), some (.ref fl), none, none, none, none, none] ∧ Same H H2 ∧ H2 fl = some (.lst (flg j 3)), ?_, ?_⟩
    · refine ⟨_, rfl, e 0, decide (0 = j), ⟨rfl, J.is 0 (by decide)⟩, hdic, _, rfl, e 1, decide (1 = j), ⟨rfl, J.is 1 (by decide)⟩, hdic, _, rfl, e 2, decide (2 = j), ⟨rfl, J.is 2 (by decide)⟩, hdic, (by show 3 ≤ sizeLine; decide), fun p hp => ⟨p, rfl, (Same.refl H).new hp, upd_same⟩⟩
    rintro σ2 H2 ⟨fl, rfl, s2, e2⟩
    have hd2 := hdic.keep s2
    refine ⟨fun σ2 H2 => ∃ fl : Addr, σ2 = [some (.ref ea), some (.ref fl), none, none, none, none, none] ∧ Same H H2 ∧ H2 fl = some (.lst (flg j 6)), ?_, ?_⟩
    · refine ⟨_, rfl, _, rfl, e 3, decide (3 = j), ⟨rfl, J.is 3 (by decide)⟩, hd2, _, rfl, e 4, decide (4 = j), ⟨rfl, J.is 4 (by decide)⟩, hd2, _, rfl, e 5, decide (5 = j), ⟨rfl, J.is 5 (by decide)⟩, hd2, (by show 3 ≤ sizeLine; decide), fun p hp => ⟨fl, p, _, _, rfl, rfl, (by rw [upd_ne (ne_of_none e2 hp)]; exact e2), upd_same, (by show 6 ≤ sizeLine; decide), fun q hq => ⟨q, rfl, (s2.new hp).new hq, upd_same⟩⟩⟩
    rintro σ2 H2 ⟨fl, rfl, s2, e2⟩
    have hd2 := hdic.keep s2
    refine ⟨fun σ2 H2 => ∃ fl : Addr, σ2 = [some (.ref ea), some (.ref fl), none, none, none, none, none] ∧ Same H H2 ∧ H2 fl = some (.lst (flg j 9)), ?_, ?_⟩
    · refine ⟨_, rfl, _, rfl, e 6, decide (6 = j), ⟨rfl, J.is 6 (by decide)⟩, hd2, _, rfl, e 7, decide (7 = j), ⟨rfl, J.is 7 (by decide)⟩, hd2, _, rfl, e 8, decide (8 = j), ⟨rfl, J.is 8 (by decide)⟩, hd2, (by show 3 ≤ sizeLine; decide), fun p hp => ⟨fl, p, _, _, rfl, rfl, (by rw [upd_ne (ne_of_none e2 hp)]; exact e2), upd_same, (by show 9 ≤ sizeLine; decide), fun q hq => ⟨q, rfl, (s2.new hp).new hq, upd_same⟩⟩⟩
    rintro σ2 H2 ⟨fl, rfl, s2, e2⟩
    have hd2 := hdic.keep s2
    refine ⟨fun σ2 H2 => ∃ fl : Addr, σ2 = [some (.ref ea), some (.ref fl), none, none, none, none, none] ∧ Same H H2 ∧ H2 fl = some (.lst (flg j 12)), ?_, ?_⟩
    · refine ⟨_, rfl, _, rfl, e 9, decide (9 = j), ⟨rfl, J.is 9 (by decide)⟩, hd2, _, rfl, e 10, decide (10 = j), ⟨rfl, J.is 10 (by decide)⟩, hd2, _, rfl, e 11, decide (11 = j), ⟨rfl, J.is 11 (by decide)⟩, hd2, (by show 3 ≤ sizeLine; decide), fun p hp => ⟨fl, p, _, _, rfl, rfl, (by rw [upd_ne (ne_of_none e2 hp)]; exact e2), upd_same, (by show 12 ≤ sizeLine; decide), fun q hq => ⟨q, rfl, (s2.new hp).new hq, upd_same⟩⟩⟩
    rintro σ2 H2 ⟨fl, rfl, s2, e2⟩
    have hd2 := hdic.keep s2
    refine ⟨fun σ2 H2 => ∃ fl : Addr, σ2 = [some (.ref ea), some (.ref fl), none, none, none, none, none] ∧ Same H H2 ∧ H2 fl = some (.lst (flg j 15)), ?_, ?_⟩
    · refine ⟨_, rfl, _, rfl, e 12, decide (12 = j), ⟨rfl, J.is 12 (by decide)⟩, hd2, _, rfl, e 13, decide (13 = j), ⟨rfl, J.is 13 (by decide)⟩, hd2, _, rfl, e 14, decide (14 = j), ⟨rfl, J.is 14 (by decide)⟩, hd2, (by show 3 ≤ sizeLine; decide), fun p hp => ⟨fl, p, _, _, rfl, rfl, (by rw [upd_ne (ne_of_none e2 hp)]; exact e2), upd_same, (by show 15 ≤ sizeLine; decide), fun q hq => ⟨q, rfl, (s2.new hp).new hq, upd_same⟩⟩⟩
    rintro σ2 H2 ⟨fl, rfl, s2, e2⟩
    have hd2 := hdic.keep s2
    refine ⟨fun σ2 H2 => ∃ fl : Addr, σ2 = [some (.ref ea), some (.ref fl), none, none, none, none, none] ∧ Same H H2 ∧ H2 fl = some (.lst (flg j 18)), ?_, ?_⟩
    · refine ⟨_, rfl, _, rfl, e 15, decide (15 = j), ⟨rfl, J.is 15 (by decide)⟩, hd2, _, rfl, e 16, decide (16 = j), ⟨rfl, J.is 16 (by decide)⟩, hd2, _, rfl, e 17, decide (17 = j), ⟨rfl, J.is 17 (by decide)⟩, hd2, (by show 3 ≤ sizeLine; decide), fun p hp => ⟨fl, p, _, _, rfl, rfl, (by rw [upd_ne (ne_of_none e2 hp)]; exact e2), upd_same, (by show 18 ≤ sizeLine; decide), fun q hq => ⟨q, rfl, (s2.new hp).new hq, upd_same⟩⟩⟩
    rintro σ2 H2 ⟨fl, rfl, s2, e2⟩
    have hd2 := hdic.keep s2
    refine ⟨fun σ2 H2 => ∃ fl : Addr, σ2 = [some (.ref ea), some (.ref fl), none, none, none, none, none] ∧ Same H H2 ∧ H2 fl = some (.lst (flg j 21)), ?_, ?_⟩
    · refine ⟨_, rfl, _, rfl, e 18, decide (18 = j), ⟨rfl, J.is 18 (by decide)⟩, hd2, _, rfl, e 19, decide (19 = j), ⟨rfl, J.is 19 (by decide)⟩, hd2, _, rfl, e 20, decide (20 = j), ⟨rfl, J.is 20 (by decide)⟩, hd2, (by show 3 ≤ sizeLine; decide), fun p hp => ⟨fl, p, _, _, rfl, rfl, (by rw [upd_ne (ne_of_none e2 hp)]; exact e2), upd_same, (by show 21 ≤ sizeLine; decide), fun q hq => ⟨q, rfl, (s2.new hp).new hq, upd_same⟩⟩⟩
    rintro σ2 H2 ⟨fl, rfl, s2, e2⟩
    have hd2 := hdic.keep s2
    refine ⟨fun σ2 H2 => ∃ fl : Addr, σ2 = [some (.ref ea), some (.ref fl), none, none, none, none, none] ∧ Same H H2 ∧ H2 fl = some (.lst (flg j 23)), ?_, ?_⟩
    · refine ⟨_, rfl, _, rfl, e 21, decide (21 = j), ⟨rfl, J.is 21 (by decide)⟩, hd2, _, rfl, e 22, decide (22 = j), ⟨rfl, J.is 22 (by decide)⟩, hd2, (by show 2 ≤ sizeLine; decide), fun p hp => ⟨fl, p, _, _, rfl, rfl, (by rw [upd_ne (ne_of_none e2 hp)]; exact e2), upd_same, (by show 23 ≤ sizeLine; decide), fun q hq => ⟨q, rfl, (s2.new hp).new hq, upd_same⟩⟩⟩
    rintro σ2 H2 ⟨fl, rfl, s2, e2⟩
    have hd2 := hdic.keep s2
    refine ⟨_, rfl, _, _, rfl, rfl, small_line' words_len, ?_⟩
    refine ⟨fun σ3 H3 => σ3 = [some (.ref ea), some (.ref fl), some (.str (wordsA ++ wordsB)), some (.bl (!decide (j < 17))), none, none, none] ∧ Same H2 H3, ?_, ?_⟩
    · refine ⟨_, rfl, 17, rfl, fl, _, rfl, SqL.of e2, fun p hp => ⟨p, _, rfl, .inl (SqL.of upd_same), rfl, (flg_room j lt).2, ?_⟩⟩
      rw [show (if false = true then !inV (.bl true) (cutV (flg j 23) (some 17) none) else inV (.bl true) (cutV (flg j 23) (some 17) none)) = (!decide (j < 17)) from (flg_room j lt).1]
      exact ⟨rfl, (Same.refl H2).new hp⟩
    rintro σ3 H3 ⟨rfl, s3⟩
    have hd3 := hd2.keep s3
    refine ⟨fun σ4 H4 => ∃ b4 : Addr, σ4 = [some (.ref ea), some (.ref fl), some (.str (wordsA ++ wordsB)), some (.bl (!decide (j < 17))), some (.ref b4), none, none] ∧ Same H2 H4 ∧ H4 b4 = some (.lst [.bl (decide (j < 17)), .bl (decide (j < 17))]), ?_, ?_⟩
    · exact ⟨_, rfl, cE, _, ⟨rfl, J.c⟩, hd3, _, rfl, _, ⟨rfl, J.v⟩, hd3, (by show 2 ≤ sizeLine; decide), fun p hp => ⟨p, rfl, s3.new hp, upd_same⟩⟩
    rintro σ4 H4 ⟨b4, rfl, s4, e4⟩
    have hd4 := hd2.keep s4
    refine ⟨fun σ5 H5 => ∃ b4 : Addr, σ5 = [some (.ref ea), some (.ref fl), some (.str (wordsA ++ wordsB)), some (.bl (!decide (j < 17))), some (.ref b4), none, none] ∧ Same H2 H5 ∧ H5 b4 = some (.lst [.bl (decide (j < 17)), .bl (decide (j < 17)), .bl (!decide (j < 17)), .bl (!decide (j < 17))]), ?_, ?_⟩
    · exact ⟨_, rfl, _, rfl, rE, _, ⟨rfl, J.r⟩, hd4, _, rfl, _, ⟨rfl, J.l⟩, hd4, (by show 2 ≤ sizeLine; decide), fun p hp => ⟨b4, p, _, _, rfl, rfl, (by rw [upd_ne (ne_of_none e4 hp)]; exact e4), upd_same, (by show 4 ≤ sizeLine; decide), fun q hq => ⟨q, rfl, (s4.new hp).new hq, upd_same⟩⟩⟩
    rintro σ5 H5 ⟨b5, rfl, s5, e5⟩
    refine ⟨fun σ6 H6 => ∃ v4, σ6 = [some (.ref ea), some (.ref fl), some (.str (wordsA ++ wordsB)), some (.bl (!decide (j < 17))), v4, none, none] ∧ Same H2 H6, ?_, ?_⟩
    · refine ⟨_, rfl, _, rfl, _, rfl, _, rfl, _, rfl, _, rfl, _, rfl, (by show 4 ≤ sizeLine; decide), fun p hp => ?_⟩
      have e5' : (upd H5 p (.lst [.bl (!(!decide (j < 17))), .bl (!(!decide (j < 17))), .bl (!decide (j < 17)), .bl (!decide (j < 17))])) b5 = some (.lst [.bl (decide (j < 17)), .bl (decide (j < 17)), .bl (!decide (j < 17)), .bl (!decide (j < 17))]) := by rw [upd_ne (ne_of_none e5 hp)]; exact e5
      refine ⟨.list [.bool (decide (j < 17)), .bool (decide (j < 17)), .bool (!decide (j < 17)), .bool (!decide (j < 17))], .list [.bool (!(!decide (j < 17))), .bool (!(!decide (j < 17))), .bool (!decide (j < 17)), .bool (!decide (j < 17))], .lst (SqL.of e5') (.cons (.bl _) (.cons (.bl _) (.cons (.bl _) (.cons (.bl _) .nil)))), .lst (SqL.of upd_same) (.cons (.bl _) (.cons (.bl _) (.cons (.bl _) (.cons (.bl _) .nil)))), ?_, ?_, _, rfl, ?_⟩
      · cases decide (j < 17) <;> decide +kernel
      · cases decide (j < 17) <;> decide +kernel
      · rw [show (!PyData.eqv (.list [.bool (decide (j < 17)), .bool (decide (j < 17)), .bool (!decide (j < 17)), .bool (!decide (j < 17))]) (.list [.bool (!(!decide (j < 17))), .bool (!(!decide (j < 17))), .bool (!decide (j < 17)), .bool (!decide (j < 17))])) = false by cases decide (j < 17) <;> decide +kernel]
        exact iteF ⟨_, rfl, s5.new hp⟩
    rintro σ6 H6 ⟨v4, rfl, s6⟩
    refine ⟨⟨_, rfl⟩, _, rfl, ⟨_, rfl⟩, _, _, rfl, rfl, (by decide +kernel), small_line' (by have := words_len; show (wordsA ++ wordsB).length + 2 ≤ 1000; decide +kernel), fun p hp => ?_⟩
    rw [words_split]
    have e6 : (upd H6 p (.lst ((errNames.map Str.ofString).map V.str))) fl = some (.lst (flg j 23)) := by rw [upd_ne (ne_of_none (s6 _ _ e2) hp)]; exact s6 _ _ e2
    have s7 : Same H2 (upd H6 p (.lst ((errNames.map Str.ofString).map V.str))) := s6.new hp
    have ep : (upd H6 p (.lst ((errNames.map Str.ofString).map V.str))) p = some (.lst ((errNames.map Str.ofString).map V.str)) := upd_same
    generalize upd H6 p (.lst ((errNames.map Str.ofString).map V.str)) = H7 at e6 s7 ep
    refine ⟨_, rfl, p, fl, _, _, rfl, SqL.of ep, SqL.of e6, fun D hD => lc_zip (n := 23) (fun i H8 => Same H7 H8 ∧ H8 D = some (.lst (if j < i then [.str (Str.ofString (errNames.getD j ""))] else []))) ⟨(Same.refl H7).new hD, upd_same⟩ (by decide) (by simp [flg]) (.inl rfl)
      (fun i H8 _ z => ⟨SqL.of (z.1 _ _ ep), SqL.of (z.1 _ _ e6)⟩) (fun i x y t H8 hx hy ht z => ?_) (fun H8 z => ?_)⟩
    · obtain ⟨s8, hD8⟩ := z
      have hi : i < 23 := (List.getElem?_eq_some_iff.mp hx).1
      have ex : x = .str (Str.ofString (errNames.getD i "")) := by
        rw [List.getElem?_map, List.getElem?_map, List.getElem?_eq_getElem (show i < errNames.length from hi)] at hx
        rw [List.getD_eq_getElem?_getD, List.getElem?_eq_getElem (show i < errNames.length from hi)]
        exact (Option.some.inj hx).symm
      have ey : y = .bl (decide (i = j)) := by
        unfold flg at hy
        rw [List.getElem?_map, List.getElem?_range hi] at hy
        exact (Option.some.inj hy).symm
      subst ex ey
      have s9 : Same H8 (upd H8 t (.tup [.str (Str.ofString (errNames.getD i "")), .bl (decide (i = j))])) := (Same.refl H8).new ht
      refine ⟨t, _, rfl, SqT.of upd_same, rfl, _, _, rfl, _, [], rfl, rfl, rfl, ?_⟩
      refine ⟨_, rfl, _, rfl, ite2 (fun q => ?_) (fun q => ?_)⟩
      · have q := of_decide_eq_true q
        subst q
        rw [if_neg (Nat.lt_irrefl _)] at hD8
        refine ⟨_, rfl, _, s9 _ _ hD8, (by show 0 < sizeLine; decide), (s8.trans s9).turn hD, ?_⟩
        rw [upd_same, if_pos (Nat.lt_succ_self _)]
        rfl
      · have q : ¬ i = j := fun z => q (decide_eq_true z)
        refine ⟨s8.trans s9, ?_⟩
        rw [s9 _ _ hD8]
        by_cases c : j < i
        · rw [if_pos c, if_pos (by omega)]
        · rw [if_neg c, if_neg (by omega)]
    · obtain ⟨s8, hD8⟩ := z
      rw [if_pos lt] at hD8
      refine ⟨_, D, [Str.ofString (errNames.getD j "")], rfl, rfl, .inl (SqL.of hD8), ?_, ?_⟩
      · exact (show ∀ j, j < 23 → ([Str.ofString (errNames.getD j "")].map (·.length)).sum + [Str.ofString (errNames.getD j "")].length * (Str.ofString "+").length ≤ 16777216 by decide +kernel) j lt
      · rw [join_one j lt]
        exact k H8 (s2.trans (s7.trans s8))

end
end Toy

end
section
set_option maxHeartbeats 4000000
namespace Toy
open PySem L2
section
variable {P : Program} {w : World} {K : PySem.W.Frag} {mg : Str → Option Value} {base : Heap}
theorem alike2 {H : Hp} {n : Nat} {a b : Addr} {x y : V} (ha : H a = some (.tup [x, y])) (hb : H b = some (.tup [x, y])) (hx : flatV x = true) (hy : flatV y = true) : Alike (n + 2) H (.ref a) (.ref b) := by
  refine Or.inr (Or.inr ⟨a, b, _, _, rfl, rfl, ha, hb, rfl, (by show 2 < sizeLine; decide), fun i u v hu hv => ?_⟩)
  rw [hu] at hv
  cases hv
  match i, hu with
  | 0, hu => cases hu; exact Alike.flat hx
  | 1, hu => cases hu; exact Alike.flat hy
  | i + 2, hu => simp at hu
theorem alikeP {H : Hp} {n : Nat} {a b : Addr} {cs : List C2} (hl : cs.length ≤ 900) (ha : PL K H a cs) (hb : PL K H b cs) : Alike (n + 3) H (.ref a) (.ref b) := by
  obtain ⟨xs, ea, pa⟩ := ha
  obtain ⟨ys, eb, pb⟩ := hb
  have lx := Paired.length pa
  have ly := Paired.length pb
  refine Or.inr (Or.inl ⟨a, b, xs, ys, rfl, rfl, ea, eb, by omega, small1000 (by omega), fun i u v hu hv => ?_⟩)
  obtain ⟨c, ec, p1⟩ := paired_at pa hu
  obtain ⟨c', ec', p2⟩ := paired_at pb hv
  have ecc : c = c' := by rw [ec] at ec'; exact Option.some.inj ec'
  subst ecc
  obtain ⟨p, rfl, hp⟩ := p1
  obtain ⟨q, rfl, hq⟩ := p2
  exact alike2 hp hq rfl rfl
theorem alikeS {H : Hp} {n : Nat} {a b : Addr} {ls : List (List Bool)} (hl : ls.length ≤ 900) (ha : H a = some (.lst (ls.map vS))) (hb : H b = some (.lst (ls.map vS))) : Alike (n + 2) H (.ref a) (.ref b) := by
  refine Or.inr (Or.inl ⟨a, b, _, _, rfl, rfl, ha, hb, rfl, by rw [List.length_map]; exact small1000 (by omega), fun i u v hu hv => ?_⟩)
  rw [hu] at hv
  cases hv
  rw [List.getElem?_map] at hu
  cases hq : ls[i]? with
  | none => rw [hq] at hu; cases hu
  | some q => rw [hq] at hu; cases hu; exact Alike.flat rfl
theorem alikeTwo {H : Hp} {n : Nat} {a b x1 x2 y1 y2 : Addr} (ha : H a = some (.lst [.ref x1, .ref x2])) (hb : H b = some (.lst [.ref y1, .ref y2])) (h1 : Alike n H (.ref x1) (.ref y1)) (h2 : Alike n H (.ref x2) (.ref y2)) : Alike (n + 1) H (.ref a) (.ref b) := by
  refine Or.inr (Or.inl ⟨a, b, _, _, rfl, rfl, ha, hb, rfl, (by show 2 < sizeLine; decide), fun i u v hu hv => ?_⟩)
  match i, hu, hv with
  | 0, hu, hv => cases hu; cases hv; exact h1
  | 1, hu, hv => cases hu; cases hv; exact h2
  | i + 2, hu, _ => simp at hu
def spSo (K : PySem.W.Frag) (C : Addr) : Sp := fun vs H Q _ => ∃ (p t : Addr) (h d : Nat) (ls : List (List Bool)) (cs : List C2), vs = [.ref p, .ref t] ∧ CardAt K C H p ls cs ∧ ModelAt K H t ls cs ∧ CardV h d ls cs ∧ ∀ H' : Hp, Same H H' → Q (.bl true) H'
theorem scSo : FnScope ["_law_card_here", "_law_model_here"] ["_law_card_here", "_law_model_here"] (defScope s__law_card_so) := ⟨rfl, rfl, rfl, by decide +kernel, rfl, by decide +kernel, by decide +kernel⟩
theorem ok_so {C f fA fB fS : Addr} {fd fdA fdB fdS : FuncData} (F : Fun K "_law_card_so" "_law_card_so" s__law_card_so f fd) (Z : CardC K C) (mC : mg "Card" = some (.ref C))
    (GA : FnOk P w K mg base CX0 1 fA fdA ["self"] (spSt K C)) (bA : Binds K fdA ["self"] []) (mA : Meth K C "stairs" fA) (GB : FnOk P w K mg base CX0 1 fB fdB ["self"] (spSl K C)) (bB : Binds K fdB ["self"] []) (mB : Meth K C "slits" fB)
    (GS : FnOk P w K mg base CX0 4 fS fdS ["_law_told", "_law_due"] (spR (Alike 4))) (kS : PySem.W.keepIn K (.ref fS) = true) (bS : Binds K fdS ["_law_told", "_law_due"] []) (mS : mg "_law_same" = some (.ref fS)) (T : Blt mg) : FnOk P w K mg base CX0 5 f fd ["_law_card_here", "_law_model_here"] (spSo K C) := by
  refine F.ok scSo (fun vs H Q E h => ?_) (fun cdv A outer s H vs Q E hr h => ?_)
  · obtain ⟨p, t, h, d, ls, cs, rfl, _⟩ := h
    rfl
  · obtain ⟨p, t, h, d, ls, cs, rfl, hcard, hmod, V0, k⟩ := h
    have hr1 : Room 1 _ := hr.mono (by decide)
    refine ⟨_, pss_cons (ps_if (pt_not (pt_val (pe_callB call_isiO (by rfl) T.isinstance boot_isinstance (pa_cons (pv 0) (pa_cons (pe_glob (v := .ref C) (by rfl) mC rfl) pa_nil))))) (pss_one (ps_ret pe_bl)) pss_nil)
      (pss_one (ps_ret (pe_call GS hr (by rfl) mS kS bS .nil pass0 (pa_cons (pe_lst (pa_cons (pe_meth0 (pv 0) Z.cls mA GA hr1 bA .nil pass0) (pa_cons (pe_meth0 (pv 0) Z.cls mB GB hr1 bB .nil pass0) pa_nil)))
        (pa_cons (pe_lst (pa_cons (pe_callTy call_list_of (by rfl) T.list boot_list (pa_cons (pe_ix ix_tup (pv 1) pe_int (fun _ _ => rfl)) pa_nil)) (pa_cons (pe_callTy call_list_of (by rfl) T.list boot_list (pa_cons (pe_ix ix_tup (pv 1) pe_int (fun _ _ => rfl)) pa_nil)) pa_nil))) pa_nil))))), ?_⟩
    obtain ⟨dx, t1, t2, xs, e1, e2, e3, e4⟩ := id hcard
    have n8 := V0.c.n8
    have n4 := V0.n4
    refine ⟨_, rfl, _, _, C, true, rfl, .ins e1 Z.cls Z.ha Z.hn Z.htk Z.hm, Z.kit, _, rfl, iteF ?_⟩
    refine ⟨_, rfl, p, dx, _, rfl, e1, rfl, p, ls, cs, rfl, hcard, fun l1 H1 s1 hl1 _ => ?_⟩
    refine ⟨_, rfl, p, dx, _, rfl, s1 _ _ e1, rfl, p, ls, cs, rfl, hcard.keep s1, fun l2 H2 s2 hl2 _ => ?_⟩
    refine ⟨(by show 2 ≤ sizeLine; decide), fun l3 hl3 => ?_⟩
    have s3 : Same H2 (upd H2 l3 (.lst [.ref l1, .ref l2])) := (Same.refl H2).new' hl3
    have sA : Same H (upd H2 l3 (.lst [.ref l1, .ref l2])) := (s1.trans s2).trans s3
    have hl1' := s3 _ _ (s2 _ _ hl1)
    have hl2' := hl2.keep s3
    have hl3' : (upd H2 l3 (.lst [.ref l1, .ref l2])) l3 = some (.lst [.ref l1, .ref l2]) := upd_same
    obtain ⟨a, b, g1, g2, ys, g3, g4⟩ := hmod.keep sA
    generalize upd H2 l3 (.lst [.ref l1, .ref l2]) = H3 at *
    refine ⟨_, rfl, t, _, 0, .ref a, rfl, rfl, SqT.of g1, rfl, a, _, rfl, .inl (SqL.of g2), fun l4 hl4 => ?_⟩
    have s4 : Same H3 (upd H3 l4 (.lst (ls.map vS))) := (Same.refl H3).new' hl4
    refine ⟨_, rfl, t, _, 1, .ref b, rfl, rfl, SqT.of (s4 _ _ g1), rfl, b, _, rfl, .inl (SqL.of (s4 _ _ g3)), fun l5 hl5 => ?_⟩
    have s5 : Same (upd H3 l4 (.lst (ls.map vS))) (upd (upd H3 l4 (.lst (ls.map vS))) l5 (.lst ys)) := (Same.refl _).new' hl5
    have hl4' := s5 _ _ (upd_same (H := H3) (a := l4) (o := .lst (ls.map vS)))
    have hl5' : PL K (upd (upd H3 l4 (.lst (ls.map vS))) l5 (.lst ys)) l5 cs := ⟨ys, upd_same, Prs.keep (s4.trans s5) g4⟩
    generalize upd (upd H3 l4 (.lst (ls.map vS))) l5 (.lst ys) = H5 at *
    refine ⟨(by show 2 ≤ sizeLine; decide), fun l6 hl6 => ?_⟩
    have s6 : Same H5 (upd H5 l6 (.lst [.ref l4, .ref l5])) := (Same.refl H5).new' hl6
    have sB := (s4.trans s5).trans s6
    refine ⟨_, _, rfl, alikeTwo (sB _ _ hl3') upd_same (alikeS (by omega) (sB _ _ hl1') (s6 _ _ hl4')) (alikeP (by omega) (hl2'.keep sB) (hl5'.keep s6)), fun H7 s7 => k H7 ((sA.trans sB).trans s7)⟩

end
end Toy

end
section
set_option maxHeartbeats 4000000
namespace Toy
open PySem L2
section
variable {P : Program} {w : World} {K : PySem.W.Frag} {mg : Str → Option Value} {base : Heap}
/-! ### a column, equality, texts of cards -/
abbrev bmV' : List Value := [.type "ValueError", .type "Exception", .type "BaseException", .type "object"]
def spCstX (K : PySem.W.Frag) (C N : Addr) : Sp := fun vs H Q E => ∃ (p : Addr) (h d : Nat) (ls : List (List Bool)) (cs : List C2) (c : Int), vs = [.ref p, .int c] ∧ CardAt K C H p ls cs ∧ Cols h d ls ∧ ((∃ (n : Nat) (l : List Bool), c = (n : Int) ∧ ls[n]? = some l ∧ Q (vS l) H) ∨ ((c < 0 ∨ (ls.length : Int) ≤ c) ∧ E (.ref N) none H))
theorem scCstX : FnScope ["self", "column"] ["self", "column"] (defScope s_Card_stair) := ⟨rfl, rfl, rfl, by decide +kernel, rfl, by decide +kernel, by decide +kernel⟩
theorem ok_cstX {C N f : Addr} {fd : FuncData} (F : Fun K "stair" "Card.stair" s_Card_stair f fd) (Z : CardC K C) (mN : mg "NoColumn" = some (.ref N)) (eN : PySem.W.excIn K N bmV' "ValueError.__new__" = true) (T : Blt mg) : FnOk P w K mg base (CX1 P w) 1 f fd ["self", "column"] (spCstX K C N) := by
  refine F.okX scCstX (fun vs H Q E h => ?_) (fun cdv A outer s H vs Q E hr hx h => ?_)
  · obtain ⟨p, h, d, ls, cs, c, rfl, _⟩ := h
    rfl
  · obtain ⟨p, h, d, ls, cs, c, rfl, hcard, hc, hcase⟩ := h
    refine ⟨_, pss_cons (ps_if (pt_not (pt_chain op_le op_lt pe_int (pv 1) (pe_callB call_len_seq (by rfl) T.len PySem.boot_len (pa_cons (pe_fld (pv 0) (by rfl)) pa_nil)))) (pss_one (ps_raise hx hr.hd (by rfl) mN eN PySem.F.excBase_ValueError (pa_cons pe_str pa_nil))) pss_nil)
      (pss_one (ps_ret (pe_ix ix_tup (pe_fld (pv 0) (by rfl)) (pv 1) (fun _ _ => rfl)))), ?_⟩
    obtain ⟨dx, t1, t2, xs, e1, e2, e3, e4⟩ := id hcard
    rcases hcase with ⟨n, l, rfl, hl, k⟩ | ⟨hno, kE⟩
    · have hn : n < ls.length := (List.getElem?_eq_some_iff.mp hl).1
      refine ⟨_, rfl, _, _, rfl, rfl, _, rfl, ?_⟩
      rw [decide_eq_true (by omega)]
      refine iteT ⟨_, rfl, p, C, dx, _, .ref t1, rfl, e1, Z.cls, Z.nc, rfl, t1, _, rfl, .inr (SqT.of e2), _, _, rfl, rfl, _, rfl, ?_⟩
      rw [List.length_map, decide_eq_true (by omega)]
      exact iteF ⟨_, rfl, p, C, dx, _, .ref t1, rfl, e1, Z.cls, Z.nc, rfl, _, rfl, t1, _, _, vS l, rfl, rfl, SqT.of e2, atI_nat (by rw [List.getElem?_map, hl]; rfl), k⟩
    · refine ⟨_, rfl, _, _, rfl, rfl, _, rfl, ite2 (fun h1 => ?_) (fun h1 => ?_)⟩
      · have h1 := of_decide_eq_true h1
        refine ⟨_, rfl, p, C, dx, _, .ref t1, rfl, e1, Z.cls, Z.nc, rfl, t1, _, rfl, .inr (SqT.of e2), _, _, rfl, rfl, _, rfl, ?_⟩
        rw [List.length_map, decide_eq_false (by omega)]
        exact iteT ⟨(by show 1 ≤ sizeLine; decide), kE⟩
      · exact ⟨_, rfl, iteT ⟨(by show 1 ≤ sizeLine; decide), kE⟩⟩
/-! ### cards compared, of any kind -/
theorem eqv_map {α : Type} [DecidableEq α] (f : α → PyData) (hf : ∀ a b, PyData.eqv (f a) (f b) = decide (a = b)) : ∀ xs ys : List α, PyData.eqvAll (xs.map f) (ys.map f) = decide (xs = ys)
  | [], [] => rfl
  | [], y :: ys => by rw [decide_eq_false (by simp)]; rfl
  | x :: xs, [] => by rw [decide_eq_false (by simp)]; rfl
  | x :: xs, y :: ys => by
    show (PyData.eqv (f x) (f y) && PyData.eqvAll (xs.map f) (ys.map f)) = _
    rw [hf, eqv_map f hf xs ys, ← Bool.decide_and, decide_eq_decide]
    constructor
    · rintro ⟨h1, h2⟩
      rw [h1, h2]
    · intro h
      injection h with h1 h2
      exact ⟨h1, h2⟩
theorem eqv_dS (a b : List Bool) : PyData.eqv (dS a) (dS b) = decide (a = b) := by
  show (stS a == stS b) = _
  rw [Bool.eq_iff_iff, beq_iff_eq, decide_eq_true_iff]
  exact ⟨fun h => stS_inj h, fun h => by rw [h]⟩
theorem eqv_dC (a b : C2) : PyData.eqv (dC a) (dC b) = decide (a = b) := by
  show ((a.1 == b.1) && ((a.2 == b.2) && true)) = _
  rw [Bool.and_true, Bool.eq_iff_iff, Bool.and_eq_true, beq_iff_eq, beq_iff_eq, decide_eq_true_iff]
  exact ⟨fun h => Prod.ext h.1 h.2, fun h => by rw [h]; exact ⟨rfl, rfl⟩⟩
def spEq (K : PySem.W.Frag) (C : Addr) : Sp := fun vs H Q _ => ∃ (p q : Addr) (ls ms : List (List Bool)) (cs es : List C2), vs = [.ref p, .ref q] ∧ CardAt K C H p ls cs ∧ CardAt K C H q ms es ∧ Q (.bl (decide (ls = ms ∧ cs = es))) H
theorem scEq : FnScope ["self", "other"] ["self", "other"] (defScope s_Card_eq) := ⟨rfl, rfl, rfl, by decide +kernel, rfl, by decide +kernel, by decide +kernel⟩
theorem strs_dp {H : Hp} : ∀ ls : List (List Bool), DpAll K H (ls.map vS) (ls.map dS)
  | [] => .nil
  | l :: ls => .cons (.str _) (strs_dp ls)
theorem ok_eq {C f : Addr} {fd : FuncData} (F : Fun K "__eq__" "Card.__eq__" s_Card_eq f fd) (Z : CardC K C) (mC : mg "Card" = some (.ref C)) (T : Blt mg) : FnOk P w K mg base CX0 1 f fd ["self", "other"] (spEq K C) := by
  refine F.ok scEq (fun vs H Q E h => ?_) (fun cdv A outer s H vs Q E hr h => ?_)
  · obtain ⟨p, q, ls, ms, cs, es, rfl, _⟩ := h
    rfl
  · obtain ⟨p, q, ls, ms, cs, es, rfl, ⟨dx, t1, t2, xs, e1, e2, e3, e4⟩, ⟨dy, u1, u2, ys, g1, g2, g3, g4⟩, k⟩ := h
    have hu := hr.units
    refine ⟨_, pss_one (ps_ret (pe_and (pe_callB call_isiO (by rfl) T.isinstance boot_isinstance (pa_cons (pv 1) (pa_cons (pe_glob (v := .ref C) (by rfl) mC rfl) pa_nil)))
      (pe_and (pe_cmpR (by exact op_eqD hu) (pe_fld (pv 0) (by rfl)) (pe_fld (pv 1) (by rfl)) (nomark _)) (pe_one (pe_cmpR (by exact op_eqD hu) (pe_fld (pv 0) (by rfl)) (pe_fld (pv 1) (by rfl)) (nomark _)))))), ?_⟩
    refine ⟨_, rfl, _, _, C, true, rfl, .ins g1 Z.cls Z.ha Z.hn Z.htk Z.hm, Z.kit, _, rfl, iteT ?_⟩
    refine ⟨_, rfl, p, C, dx, _, .ref t1, rfl, e1, Z.cls, Z.nc, rfl, _, rfl, q, C, dy, _, .ref u1, rfl, g1, Z.cls, Z.nc, rfl, .tuple (ls.map dS), .tuple (ms.map dS), .tup (SqT.of e2) (strs_dp ls), .tup (SqT.of g2) (strs_dp ms), sh_strs ls, sh_strs ms, ?_⟩
    rw [show PyData.eqv (.tuple (ls.map dS)) (.tuple (ms.map dS)) = decide (ls = ms) from eqv_map dS eqv_dS ls ms]
    refine ⟨_, rfl, ?_⟩
    by_cases h1 : ls = ms
    · rw [decide_eq_true h1]
      refine iteT ⟨_, rfl, p, C, dx, _, .ref t2, rfl, e1, Z.cls, Z.ng, rfl, _, rfl, q, C, dy, _, .ref u2, rfl, g1, Z.cls, Z.ng, rfl, .tuple (cs.map dC), .tuple (es.map dC), .tup (SqT.of e3) (Prs.dp e4), .tup (SqT.of g3) (Prs.dp g4), sh_prs cs, sh_prs es, ?_⟩
      rw [show PyData.eqv (.tuple (cs.map dC)) (.tuple (es.map dC)) = decide (cs = es) from eqv_map dC eqv_dC cs es]
      rw [show decide (cs = es) = decide (ls = ms ∧ cs = es) by rw [decide_eq_decide]; exact ⟨fun h => ⟨h1, h⟩, fun h => h.2⟩]
      exact k
    · rw [decide_eq_false h1]
      refine iteF ?_
      rw [decide_eq_false fun h => h1 h.1] at k
      exact k
def spLn (K : PySem.W.Frag) (C : Addr) : Sp := fun vs H Q _ => ∃ (p : Addr) (ls : List (List Bool)) (cs : List C2), vs = [.ref p] ∧ CardAt K C H p ls cs ∧ Q (.int ((ls.length : Nat) : Int)) H
theorem scLn : FnScope ["self"] ["self"] (defScope s_Card_len) := ⟨rfl, rfl, rfl, by decide +kernel, rfl, by decide +kernel, by decide +kernel⟩
theorem ok_ln {C f : Addr} {fd : FuncData} (F : Fun K "__len__" "Card.__len__" s_Card_len f fd) (Z : CardC K C) (T : Blt mg) : FnOk P w K mg base CX0 1 f fd ["self"] (spLn K C) := by
  refine F.ok scLn (fun vs H Q E h => ?_) (fun cdv A outer s H vs Q E hr h => ?_)
  · obtain ⟨p, ls, cs, rfl, _⟩ := h
    rfl
  · obtain ⟨p, ls, cs, rfl, ⟨dx, t1, t2, xs, e1, e2, e3, e4⟩, k⟩ := h
    refine ⟨_, pss_one (ps_ret (pe_callB call_len_seq (by rfl) T.len PySem.boot_len (pa_cons (pe_fld (pv 0) (by rfl)) pa_nil))), ?_⟩
    refine ⟨_, rfl, p, C, dx, _, .ref t1, rfl, e1, Z.cls, Z.nc, rfl, t1, _, rfl, .inr (SqT.of e2), ?_⟩
    rw [List.length_map]
    exact k
section
variable {X : Cx} {n k : Nat} {C : Addr} {ps : List Str} {sp : Sp}
theorem call_lenM (g : MOkC CX0 X.prog X.w X.K X.mg X.base C n "__len__" ps [] sp) (hr : Room k X.A) (hn : n + 1 ≤ k := by decide) :
    CallR X (.builtin "len") (fun xs H Q => ∃ a dx fs, xs = [.ref a] ∧ H a = some (.ins C dx fs) ∧ sp [.ref a] H (fun v H2 => ∃ n : Nat, v = .int (n : Nat) ∧ n ≤ 1000 ∧ Q (.int (n : Nat)) H2) E0) := by
  obtain ⟨f, fd, us, F, hb, hd, hm, c⟩ := g
  cases hd
  exact call_lenO hm F (hr.mono hn) hb pass0
end

/-- == with a thing that is no card -/
def spEqN (K : PySem.W.Frag) (C : Addr) : Sp := fun vs H Q _ => ∃ (p : Addr) (y : V) (t : Value) (ls : List (List Bool)) (cs : List C2), vs = [.ref p, y] ∧ CardAt K C H p ls cs ∧ TyOf K H y t ∧ PySem.W.kitOne K t (.ref C) = some false ∧ Q (.bl false) H
theorem ok_eqN {C f : Addr} {fd : FuncData} (F : Fun K "__eq__" "Card.__eq__" s_Card_eq f fd) (Z : CardC K C) (mC : mg "Card" = some (.ref C)) (T : Blt mg) : FnOk P w K mg base CX0 1 f fd ["self", "other"] (spEqN K C) := by
  refine F.ok scEq (fun vs H Q E h => ?_) (fun cdv A outer s H vs Q E hr h => ?_)
  · obtain ⟨p, y, t, ls, cs, rfl, _⟩ := h
    rfl
  · obtain ⟨p, y, t, ls, cs, rfl, _, ty, hk, k⟩ := h
    have hu := hr.units
    refine ⟨_, pss_one (ps_ret (pe_and (pe_callB call_isiO (by rfl) T.isinstance boot_isinstance (pa_cons (pv 1) (pa_cons (pe_glob (v := .ref C) (by rfl) mC rfl) pa_nil)))
      (pe_and (pe_cmpR (by exact op_eqD hu) (pe_fld (pv 0) (by rfl)) (pe_fld (pv 1) (by rfl)) (nomark _)) (pe_one (pe_cmpR (by exact op_eqD hu) (pe_fld (pv 0) (by rfl)) (pe_fld (pv 1) (by rfl)) (nomark _)))))), ?_⟩
    exact ⟨_, rfl, _, _, C, false, rfl, ty, hk, _, rfl, iteF k⟩
def spEqA (K : PySem.W.Frag) (C : Addr) : Sp := fun vs H Q E => spEq K C vs H Q E ∨ spEqN K C vs H Q E
section
variable {X : Cx} {n k : Nat} {C : Addr} {ps : List Str} {sp : Sp}
theorem op_eqM (g : MOkC CX0 X.prog X.w X.K X.mg X.base C n "__eq__" ps [] sp) (hr : Room k X.A) (hn : n ≤ k := by decide) : OpR X (compareOp .Eq) (rEqO C sp E0) := by
  obtain ⟨f, fd, us, F, hb, hd, hm, c⟩ := g
  cases hd
  exact op_eqO hm F (hr.mono hn) hb pass0
theorem op_eqXM (g : MOkC CX0 X.prog X.w X.K X.mg X.base C n "__eq__" ps [] sp) (hr : Room k X.A) (hn : n ≤ k := by decide) : OpR X (compareOp .Eq) (rEqX X.K C sp E0) := by
  obtain ⟨f, fd, us, F, hb, hd, hm, c⟩ := g
  cases hd
  exact op_eqX hm F (hr.mono hn) hb pass0
theorem op_neM (hN : PySem.W.findIn X.K (.ref C) "__ne__" = some (some (.builtin "object.__ne__"))) (hO : PySem.W.mroIn X.K C (.type "object") = some true) (g : MOkC CX0 X.prog X.w X.K X.mg X.base C n "__eq__" ps [] sp) (hr : Room k X.A) (hn : n + 1 ≤ k := by decide) : OpR X (compareOp .NotEq) (rNeO C sp E0) := by
  obtain ⟨f, fd, us, F, hb, hd, hm, c⟩ := g
  cases hd
  exact op_neO hm hN hO F (hr.mono hn) hb pass0
theorem op_inM (g : MOkC CX0 X.prog X.w X.K X.mg X.base C n "__eq__" ps [] sp) (hr : Room k X.A) (hn : n + 1 ≤ k := by decide) : OpR X (compareOp .In) (rInO C sp E0) := by
  obtain ⟨f, fd, us, F, hb, hd, hm, c⟩ := g
  cases hd
  exact op_inO hm F (hr.mono hn) hb pass0
theorem call_strM (g : MOkC CX0 X.prog X.w X.K X.mg X.base C n "__str__" ps [] sp) (hr : Room k X.A) (hn : n + 2 ≤ k := by decide) :
    CallR X (.type "str") (fun xs H Q => ∃ a dx fs, xs = [.ref a] ∧ H a = some (.ins C dx fs) ∧ sp [.ref a] H (fun v H2 => ∃ z, v = .str z ∧ Q (.str z) H2) E0) := by
  obtain ⟨f, fd, us, F, hb, hd, hm, c⟩ := g
  cases hd
  exact call_strO hm F (hr.mono hn) hb pass0
theorem call_reprM (g : MOkC CX0 X.prog X.w X.K X.mg X.base C n "__repr__" ps [] sp) (hr : Room k X.A) (hn : n + 1 ≤ k := by decide) :
    CallR X (.builtin "repr") (fun xs H Q => ∃ a dx fs, xs = [.ref a] ∧ H a = some (.ins C dx fs) ∧ sp [.ref a] H (fun v H2 => ∃ z, v = .str z ∧ Q (.str z) H2) E0) := by
  obtain ⟨f, fd, us, F, hb, hd, hm, c⟩ := g
  cases hd
  exact call_reprO hm F (hr.mono hn) hb pass0
end

end
end Toy

end
section
set_option maxHeartbeats 4000000
namespace Toy
open PySem L2
section
variable {P : Program} {w : World} {K : PySem.W.Frag} {mg : Str → Option Value} {base : Heap}
/-! ### the texts of a card -/
def ptS (c : C2) : Str := Str.empty ++ (toString c.1 : String) ++ ("." : String) ++ (toString c.2 : String)
def ptL (c : C2) : Str := ((((" " : String) : Str) ++ (toString c.1 : String)) ++ ("." : String)) ++ (toString c.2 : String)
def txtC (ls : List (List Bool)) (cs : List C2) : Str := Txt.join " " (Txt.join "/" (ls.map stS) :: cs.map ptS)
theorem len_app (x y : Str) : (x ++ y).length = x.length + y.length := by rw [TL.len_tl, TL.tl_append, List.length_append, ← TL.len_tl, ← TL.len_tl]
theorem ptL_eq (c : C2) : ptL c = ((" " : String) : Str) ++ ptS c := by
  apply TL.ext_tl
  unfold ptL ptS
  simp only [TL.tl_append]
  have e : TL.tl Str.empty = [] := rfl
  rw [e]
  simp only [List.nil_append, List.append_assoc]
theorem joinL_nilT : ∀ ps : List (List Nat), TL.joinL [] ps = ps.flatten
  | [] => rfl
  | [p] => by simp [TL.joinL]
  | p :: q :: r => by
    show p ++ ([] ++ TL.joinL [] (q :: r)) = _
    rw [joinL_nilT (q :: r)]
    simp
theorem joinL_head (s a : List Nat) : ∀ ps : List (List Nat), TL.joinL s (a :: ps) = a ++ (ps.map fun p => s ++ p).flatten
  | [] => by simp [TL.joinL]
  | p :: ps => by
    show a ++ (s ++ TL.joinL s (p :: ps)) = _
    rw [joinL_head s p ps]
    simp
theorem txt_eq (ls : List (List Bool)) (cs : List C2) : Txt.join "/" (ls.map stS) ++ Txt.join "" (cs.map ptL) = txtC ls cs := by
  apply TL.ext_tl
  unfold txtC
  rw [TL.tl_append, TL.join_eq, TL.join_eq, TL.join_eq]
  generalize Str.join "/" (ls.map stS) = z
  rw [TL.tl_join, TL.tl_join, List.map_cons, joinL_head]
  have e0 : TL.tl ("" : Str) = [] := by decide +kernel
  rw [e0, joinL_nilT, List.map_map, List.map_map, List.map_map]
  congr 2
  apply List.map_congr_left
  intro c _
  show TL.tl (ptL c) = TL.tl ((" " : String) : Str) ++ TL.tl (ptS c)
  rw [ptL_eq, TL.tl_append]
theorem mapVS (ls : List (List Bool)) : (ls.map stS).map V.str = ls.map vS := by rw [List.map_map]; rfl
theorem pt_small : ∀ e, e < 9 → ∀ a, a < 16 → (ptS ((e : Nat), (a : Nat))).length ≤ 10 := by decide +kernel
theorem ok_pt {h d : Nat} {ls : List (List Bool)} {cs : List C2} (V0 : CardV h d ls cs) {c : C2} (m : c ∈ cs) : ∃ e a : Nat, c = (((e : Nat) : Int), ((a : Nat) : Int)) ∧ e < 9 ∧ a < 16 ∧ (ptS c).length ≤ 10 := by
  obtain ⟨e, a, rfl, he, ha, _⟩ := V0.o c m
  have := V0.c.n8
  have := V0.c.hd
  exact ⟨e, a, rfl, by omega, by omega, pt_small e (by omega) a (by omega)⟩
theorem sum_len {xs : List Str} {b : Nat} (h : ∀ x ∈ xs, x.length ≤ b) : (xs.map (·.length)).sum ≤ b * xs.length := by
  induction xs with
  | nil => simp
  | cons x xs ih =>
    rw [List.map_cons, List.sum_cons, List.length_cons, Nat.mul_succ]
    have := ih fun y m => h y (List.mem_cons_of_mem _ m)
    have := h x List.mem_cons_self
    omega
theorem cols_len {h d : Nat} {ls : List (List Bool)} (hc : Cols h d ls) : ((ls.map stS).map (·.length)).sum ≤ 128 := by
  have hn8 := hc.n8
  have hhd := hc.hd
  refine Nat.le_trans (sum_len (b := 16) fun x m => ?_) ?_
  · obtain ⟨l, ml, rfl⟩ := List.mem_map.mp m
    rw [stS_len, hc.len ml]
    omega
  · rw [List.length_map]
    omega
theorem joinL_len (s : List Nat) : ∀ ps : List (List Nat), (TL.joinL s ps).length ≤ (ps.map List.length).sum + ps.length * s.length
  | [] => Nat.zero_le _
  | [p] => by simp [TL.joinL]
  | p :: q :: r => by
    show (p ++ (s ++ TL.joinL s (q :: r))).length ≤ _
    have ih := joinL_len s (q :: r)
    rw [List.length_append, List.length_append, List.map_cons, List.sum_cons, List.length_cons (a := p), Nat.succ_mul]
    omega
theorem join_len (s : Str) (ps : List Str) : (Txt.join s ps).length ≤ (ps.map (·.length)).sum + ps.length * s.length := by
  rw [TL.join_eq, TL.len_tl, TL.tl_join]
  refine Nat.le_trans (joinL_len _ _) ?_
  rw [List.map_map, List.length_map, ← TL.len_tl]
  have e : List.map (List.length ∘ TL.tl) ps = ps.map (·.length) := List.map_congr_left fun x _ => (TL.len_tl x).symm
  rw [e]
  exact Nat.le_refl _
theorem slash_len {h d : Nat} {ls : List (List Bool)} (hc : Cols h d ls) : (Txt.join "/" (ls.map stS)).length ≤ 200 := by
  have hn8 := hc.n8
  refine Nat.le_trans (join_len _ _) ?_
  rw [List.length_map]
  have := cols_len hc
  have e : ("/" : Str).length = 1 := by decide +kernel
  rw [e]
  omega
def spStr (K : PySem.W.Frag) (C : Addr) : Sp := fun vs H Q _ => ∃ (p : Addr) (h d : Nat) (ls : List (List Bool)) (cs : List C2), vs = [.ref p] ∧ CardAt K C H p ls cs ∧ CardV h d ls cs ∧ ∀ H', Same H H' → Q (.str (txtC ls cs)) H'
abbrev nmStr : List Str := ["self", "words", "edge", "at"]
theorem scStr : FnScope nmStr ["self"] (defScope s_Card_str) := ⟨rfl, rfl, rfl, by decide +kernel, rfl, by decide +kernel, by decide +kernel⟩
theorem ok_str {C f : Addr} {fd : FuncData} (F : Fun K "__str__" "Card.__str__" s_Card_str f fd) (Z : CardC K C) (T : Blt mg) : FnOk P w K mg base CX0 1 f fd ["self"] (spStr K C) := by
  refine F.ok scStr (fun vs H Q E h => ?_) (fun cdv A outer s H vs Q E hr h => ?_)
  · obtain ⟨p, h, d, ls, cs, rfl, _⟩ := h
    rfl
  · obtain ⟨p, h, d, ls, cs, rfl, hcard, V0, k⟩ := h
    have nd := scStr.nd
    refine ⟨_, (pss_cons (ps_set (i := 1) nd rfl (Or.inl rfl) (pe_lst (pa_cons (pe_join pe_str (pe_fld (pv 0) (by rfl))) pa_nil)))
      (pss_cons (ps_aug (i := 1) nd rfl (Or.inl rfl) (pe_lc (own := [("edge", 2), ("at", 3)]) (g := (gTup K 2 (gCons (gName 2) (gCons (gName 3) gNil)))) (by rfl) nd (pi_tup (pe_fld (pv 0) (by rfl))) (blkOk_by (own := [("edge", 2), ("at", 3)]) (N := nmStr) (sc := defScope s_Card_str) (by decide +kernel)) (fun _ _ _ _ _ => (pg_tup (by rfl) (pgs_cons (pg_name (i := 2) nd rfl (Or.inl rfl)) (pgs_cons (pg_name (i := 3) nd rfl (Or.inl rfl)) pgs_nil)))) (fun _ _ _ _ _ => pts_nil) (fun _ _ _ _ _ => (pe_fstr (pj_cons (pe_fmt (pv 2)) (pj_cons pe_str (pj_cons (pe_fmt (pv 3)) pj_nil)))))) ip_cat)
      (pss_one (ps_ret (pe_join pe_str (pv 1)))))), ?_⟩
    obtain ⟨dx, t1, t2, xs, e1, e2, e3, e4⟩ := id hcard
    have hc := V0.c
    have n8 := hc.n8
    have n4 := V0.n4
    have hlx : xs.length = cs.length := Paired.length e4
    have hs := cols_len hc
    have hsl := slash_len hc
    refine ⟨⟨_, rfl⟩, _, rfl, p, C, dx, _, .ref t1, rfl, e1, Z.cls, Z.nc, rfl, "/", t1, ls.map stS, rfl, rfl, .inr (SqT.of (by rw [mapVS]; exact e2)), ?_, ?_⟩
    · rw [List.length_map]
      have e : ("/" : Str).length = 1 := by decide +kernel
      rw [e]
      omega
    refine ⟨(by show 1 ≤ sizeLine; decide), fun l1 hl1 => ?_⟩
    have s1 : Same H (upd H l1 (.lst [.str (Txt.join "/" (ls.map stS))])) := (Same.refl H).new' hl1
    have g1 : (upd H l1 (.lst [.str (Txt.join "/" (ls.map stS))])) l1 = some (.lst [.str (Txt.join "/" (ls.map stS))]) := upd_same
    generalize upd H l1 (.lst [.str (Txt.join "/" (ls.map stS))]) = H1 at s1 g1
    refine ⟨_, rfl, _, rfl, p, C, dx, _, .ref t2, rfl, s1 _ _ e1, Z.cls, Z.ng, rfl, t2, rfl, ⟨_, SqT.of (s1 _ _ e3)⟩, fun D hD => ?_⟩
    refine lc_tup (K := K) (a := t2) (xs := xs) (fun i H3 => H3 D = some (.lst (((cs.take i).map ptS).map V.str)) ∧ Same H1 H3) ⟨upd_same, (Same.refl H1).new' hD⟩ (fun i H3 _ ⟨_, s3⟩ => SqT.of (s3 _ _ (s1 _ _ e3))) ?_ ?_
    · rintro i x H3 hx ⟨hD3, s3⟩
      obtain ⟨c, hcc, q, rfl, hq⟩ := paired_at e4 hx
      obtain ⟨e, a, rfl, he, ha, hz⟩ := ok_pt V0 (List.mem_of_getElem? hcc)
      refine ⟨q, _, rfl, SqT.of (s3 _ _ (s1 _ _ hq)), rfl, _, _, rfl, _, _, rfl, rfl, rfl, ?_⟩
      unfold tYes
      dsimp only
      rw [if_pos rfl]
      have sz : ∀ n : Nat, n ≤ 16 → ((Int.natAbs (n : Int))).log2 < 1920 := fun n hn => Nat.lt_trans (log_small (by omega)) (by decide)
      unfold ptS at hz
      dsimp only at hz
      rw [len_app, len_app, len_app] at hz
      refine ⟨_, rfl, .inl ⟨_, rfl, sz e (by omega), _, rfl, ?_, _, rfl, ?_, _, rfl, .inl ⟨_, rfl, sz a (by omega), _, rfl, ?_, ?_⟩⟩⟩
      · rw [len_app]; exact small_line' (by omega)
      · rw [len_app, len_app]; exact small_line' (by omega)
      · rw [len_app, len_app, len_app]; exact small_line' (by omega)
      refine ⟨by rw [len_app, len_app, len_app]; exact small_line' (by omega), _, hD3, ?_, ?_, (Same.refl _).trans ?_⟩
      · rw [List.length_map, List.length_map, List.length_take]; exact small1000 (by omega)
      · rw [upd_same, List.take_succ, hcc, List.map_append, List.map_append]
        rfl
      · exact s3.turn hD
    · rintro H3 ⟨hD3, s3⟩
      rw [hlx, List.take_of_length_le (Nat.le_refl _)] at hD3
      refine ⟨l1, D, _, _, rfl, rfl, s3 _ _ g1, hD3, ?_, ?_⟩
      · rw [List.length_map, List.length_map]; exact small_line' (by show 1 + cs.length ≤ 1000; omega)
      refine ⟨⟨_, rfl⟩, _, rfl, " ", l1, Txt.join "/" (ls.map stS) :: cs.map ptS, rfl, rfl, .inl (SqL.of upd_same), ?_, k _ ?_⟩
      · rw [List.map_cons, List.sum_cons, List.length_cons, List.length_map]
        have h2 : ((cs.map ptS).map (·.length)).sum ≤ 10 * (cs.map ptS).length := sum_len fun x m => by
          obtain ⟨c, mc, rfl⟩ := List.mem_map.mp m
          obtain ⟨_, _, _, _, _, z⟩ := ok_pt V0 mc
          exact z
        rw [List.length_map] at h2
        have e : (" " : Str).length = 1 := by decide +kernel
        rw [e]
        omega
      · intro b o eb
        rw [upd_ne (ne_of_none eb hl1)]
        exact s3 _ _ (s1 _ _ eb)
/-! ### repr -/
abbrev dLs (ls : List (List Bool)) : PyData := .list (ls.map dS)
abbrev dCs (cs : List C2) : PyData := .list (cs.map dC)
def reprC (ls : List (List Bool)) (cs : List C2) : Str := ((((("Card(" : String) : Str) ++ (dLs ls).shown) ++ (", " : String)) ++ (dCs cs).shown) ++ (")" : String)
theorem dLs_sh : ∀ ls : List (List Bool), PyData.showableAll (ls.map dS) = true ∧ PyData.hasDictAll (ls.map dS) = false ∧ PyData.leavesShortAll 13 (ls.map dS) = true
  | [] => ⟨rfl, rfl, rfl⟩
  | l :: ls => by
    obtain ⟨h1, h2, h3⟩ := dLs_sh ls
    refine ⟨by rw [List.map_cons, PyData.showableAll, h1]; rfl, by rw [List.map_cons, PyData.hasDictAll, h2]; rfl, ?_⟩
    rw [List.map_cons, PyData.leavesShortAll, h3, Bool.and_true]
    unfold dS
    rw [PyData.leavesShort, List.all_eq_true]
    intro c hc
    rw [stS_list] at hc
    obtain ⟨b, _, rfl⟩ := List.mem_map.mp hc
    cases b <;> decide
theorem int_short : ∀ n, n < 16 → (PyData.leavesShort 13 (.int (n : Nat)) = true ∧ PyData.showable (.int (n : Nat)) = true ∧ PyData.weight (.int (n : Nat)) ≤ 10) := by decide +kernel
theorem dCs_sh {cs : List C2} : (∀ c ∈ cs, ∃ e a : Nat, c = (((e : Nat) : Int), ((a : Nat) : Int)) ∧ e < 9 ∧ a < 16) → PyData.showableAll (cs.map dC) = true ∧ PyData.hasDictAll (cs.map dC) = false ∧ PyData.leavesShortAll 13 (cs.map dC) = true ∧ PyData.weightAll (cs.map dC) ≤ 30 * cs.length := by
  induction cs with
  | nil => exact fun _ => ⟨rfl, rfl, rfl, Nat.le_refl _⟩
  | cons c cs ih =>
    intro h
    obtain ⟨h1, h2, h3, h4⟩ := ih fun x m => h x (List.mem_cons_of_mem _ m)
    obtain ⟨e, a, rfl, he, ha⟩ := h c List.mem_cons_self
    obtain ⟨i1, i2, i3⟩ := int_short e (by omega)
    obtain ⟨j1, j2, j3⟩ := int_short a ha
    refine ⟨?_, ?_, ?_, ?_⟩
    · rw [List.map_cons, PyData.showableAll, h1, Bool.and_true]
      unfold dC
      rw [PyData.showable, PyData.showableAll, PyData.showableAll, PyData.showableAll, i2, j2]
      rfl
    · rw [List.map_cons, PyData.hasDictAll, h2]; rfl
    · rw [List.map_cons, PyData.leavesShortAll, h3, Bool.and_true]
      unfold dC
      rw [PyData.leavesShort, PyData.leavesShortAll, PyData.leavesShortAll, PyData.leavesShortAll, i1, j1]
      rfl
    · rw [List.map_cons, PyData.weightAll, List.length_cons, Nat.mul_succ]
      show PyData.weight (.tuple [.int (e : Nat), .int (a : Nat)]) + 1 + PyData.weightAll (cs.map dC) ≤ _
      rw [PyData.weight, PyData.weightAll, PyData.weightAll, PyData.weightAll]
      omega
theorem dLs_wt {h d : Nat} : ∀ {ls : List (List Bool)}, (∀ l ∈ ls, l.length ≤ 16) → PyData.weightAll (ls.map dS) ≤ 17 * ls.length
  | [], _ => Nat.le_refl _
  | l :: ls, q => by
    have ih := dLs_wt (h := h) (d := d) (ls := ls) fun x m => q x (List.mem_cons_of_mem _ m)
    have e : (stS l).cps.size = l.length := stS_len l
    have := q l List.mem_cons_self
    rw [List.map_cons, PyData.weightAll, List.length_cons, Nat.mul_succ]
    show PyData.weight (.str (stS l)) + 1 + PyData.weightAll (ls.map dS) ≤ _
    rw [PyData.weight, e]
    omega
structure Shows (d : PyData) : Prop where
  s : d.showable = true
  n : d.hasDict = false
  d60 : d.depth ≤ 60
  l : d.shown.length ≤ 10000
theorem shows_l {h d : Nat} {ls : List (List Bool)} (hc : Cols h d ls) : Shows (dLs ls) := by
  obtain ⟨h1, h2, h3⟩ := dLs_sh ls
  have n8 := hc.n8
  have hhd := hc.hd
  have wt := dLs_wt (h := h) (d := d) (ls := ls) fun l m => by rw [hc.len m]; omega
  refine ⟨by rw [PyData.showable, h1], by rw [PyData.hasDict, h2], ?_, ?_⟩
  · rw [PyData.depth, (lay_strs ls).2]; omega
  · refine Nat.le_trans (PyData.shown_le 13 (by decide) _ (by rw [PyData.leavesShort, h3])) ?_
    rw [PyData.weight]
    omega
theorem shows_c {h d : Nat} {ls : List (List Bool)} {cs : List C2} (V0 : CardV h d ls cs) : Shows (dCs cs) := by
  obtain ⟨h1, h2, h3, h4⟩ := dCs_sh (cs := cs) fun c m => by
    obtain ⟨e, a, q1, q2, q3, _⟩ := ok_pt V0 m
    exact ⟨e, a, q1, q2, q3⟩
  have n4 := V0.n4
  refine ⟨by rw [PyData.showable, h1], by rw [PyData.hasDict, h2], ?_, ?_⟩
  · rw [PyData.depth]
    have := (lay_prs cs).2
    omega
  · refine Nat.le_trans (PyData.shown_le 13 (by decide) _ (by rw [PyData.leavesShort, h3])) ?_
    rw [PyData.weight]
    omega
def spRep (K : PySem.W.Frag) (C : Addr) : Sp := fun vs H Q _ => ∃ (p : Addr) (h d : Nat) (ls : List (List Bool)) (cs : List C2), vs = [.ref p] ∧ CardAt K C H p ls cs ∧ CardV h d ls cs ∧ ∀ H', Same H H' → Q (.str (reprC ls cs)) H'
theorem scRep : FnScope ["self"] ["self"] (defScope s_Card_repr) := ⟨rfl, rfl, rfl, by decide +kernel, rfl, by decide +kernel, by decide +kernel⟩
theorem ok_rep {C f : Addr} {fd : FuncData} (F : Fun K "__repr__" "Card.__repr__" s_Card_repr f fd) (Z : CardC K C) (T : Blt mg) : FnOk P w K mg base CX0 1 f fd ["self"] (spRep K C) := by
  refine F.ok scRep (fun vs H Q E h => ?_) (fun cdv A outer s H vs Q E hr h => ?_)
  · obtain ⟨p, h, d, ls, cs, rfl, _⟩ := h
    rfl
  · obtain ⟨p, h, d, ls, cs, rfl, hcard, V0, k⟩ := h
    have hu := hr.units
    refine ⟨_, (pss_one (ps_ret (pe_fstr (pj_cons pe_str (pj_cons (pe_fmtR hr.gd hu (pe_callTy call_list_of (by rfl) T.list boot_list (pa_cons (pe_fld (pv 0) (by rfl)) pa_nil))) (pj_cons pe_str (pj_cons (pe_fmtR hr.gd hu (pe_callTy call_list_of (by rfl) T.list boot_list (pa_cons (pe_fld (pv 0) (by rfl)) pa_nil))) (pj_cons pe_str pj_nil)))))))), ?_⟩
    obtain ⟨dx, t1, t2, xs, e1, e2, e3, e4⟩ := id hcard
    have w1 := shows_l V0.c
    have w2 := shows_c V0
    have q1 := w1.l
    have q2 := w2.l
    have c1 : ("Card(" : Str).length = 5 := by decide +kernel
    have c2 : (", " : Str).length = 2 := by decide +kernel
    have c3 : (")" : Str).length = 1 := by decide +kernel
    have c0 : Str.empty ++ (("Card(" : String) : Str) = (("Card(" : String) : Str) := by decide +kernel
    have hb : (25000 : Nat) ≤ sizeLine := by decide
    refine ⟨_, rfl, by decide +kernel, ?_⟩
    rw [c0]
    refine ⟨_, rfl, p, C, dx, _, .ref t1, rfl, e1, Z.cls, Z.nc, rfl, t1, _, rfl, .inr (SqT.of e2), fun l1 hl1 => ?_⟩
    have s1 : Same H (upd H l1 (.lst (ls.map vS))) := (Same.refl H).new' hl1
    refine ⟨l1, dLs ls, rfl, .lst (SqL.of upd_same) (strs_dp ls), w1.s, w1.n, w1.d60, Nat.le_trans q1 (by omega), _, rfl, by rw [len_app]; omega, ?_⟩
    refine ⟨_, rfl, by rw [len_app, len_app]; omega, ?_⟩
    refine ⟨_, rfl, p, C, dx, _, .ref t2, rfl, s1 _ _ e1, Z.cls, Z.ng, rfl, t2, _, rfl, .inr (SqT.of (s1 _ _ e3)), fun l2 hl2 => ?_⟩
    have s2 : Same (upd H l1 (.lst (ls.map vS))) (upd (upd H l1 (.lst (ls.map vS))) l2 (.lst xs)) := (Same.refl _).new' hl2
    refine ⟨l2, dCs cs, rfl, .lst (SqL.of upd_same) (Prs.dp (Prs.keep (s1.trans s2) e4)), w2.s, w2.n, w2.d60, Nat.le_trans q2 (by omega), _, rfl, by rw [len_app, len_app, len_app]; omega, ?_⟩
    refine ⟨_, rfl, by rw [len_app, len_app, len_app, len_app]; omega, ?_⟩
    exact ⟨by rw [len_app, len_app, len_app, len_app]; omega, k _ (s1.trans s2)⟩
/-! ### the law's own text -/
def spTx (K : PySem.W.Frag) : Sp := fun vs H Q _ => ∃ (t : Addr) (h d : Nat) (ls : List (List Bool)) (cs : List C2), vs = [.ref t] ∧ ModelAt K H t ls cs ∧ CardV h d ls cs ∧ ∀ H', Same H H' → Q (.str (txtC ls cs)) H'
abbrev nmTx : List Str := ["_law_model_here", "_law_edge", "_law_at"]
theorem scTx : FnScope nmTx ["_law_model_here"] (defScope s__law_text_of) := ⟨rfl, rfl, rfl, by decide +kernel, rfl, by decide +kernel, by decide +kernel⟩
theorem ok_tx {f : Addr} {fd : FuncData} (F : Fun K "_law_text_of" "_law_text_of" s__law_text_of f fd) (T : Blt mg) : FnOk P w K mg base CX0 1 f fd ["_law_model_here"] (spTx K) := by
  refine F.ok scTx (fun vs H Q E h => ?_) (fun cdv A outer s H vs Q E hr h => ?_)
  · obtain ⟨t, h, d, ls, cs, rfl, _⟩ := h
    rfl
  · obtain ⟨t, h, d, ls, cs, rfl, ⟨a, b, g1, g2, xs, g3, g4⟩, V0, k⟩ := h
    have nd := scTx.nd
    refine ⟨_, (pss_one (ps_ret (pe_op op_add_str (pe_join pe_str (pe_ix ix_tup (pv 0) pe_int (fun _ _ => rfl))) (pe_join pe_str (pe_lc (own := [("_law_edge", 1), ("_law_at", 2)]) (g := (gTup K 2 (gCons (gName 1) (gCons (gName 2) gNil)))) (by rfl) nd (pi_list (pe_ix ix_tup (pv 0) pe_int (fun _ _ => rfl))) (blkOk_by (own := [("_law_edge", 1), ("_law_at", 2)]) (N := nmTx) (sc := defScope s__law_text_of) (by decide +kernel)) (fun _ _ _ _ _ => (pg_tup (by rfl) (pgs_cons (pg_name (i := 1) nd rfl (Or.inl rfl)) (pgs_cons (pg_name (i := 2) nd rfl (Or.inl rfl)) pgs_nil)))) (fun _ _ _ _ _ => pts_nil) (fun _ _ _ _ _ => (pe_op op_add_str (pe_op op_add_str (pe_op op_add_str pe_str (pe_callTy call_str_int (by rfl) T.str boot_str (pa_cons (pv 1) pa_nil))) pe_str) (pe_callTy call_str_int (by rfl) T.str boot_str (pa_cons (pv 2) pa_nil))))))))), ?_⟩
    have hc := V0.c
    have n8 := hc.n8
    have n4 := V0.n4
    have hlx : xs.length = cs.length := Paired.length g4
    have hs := cols_len hc
    have hsl := slash_len hc
    refine ⟨⟨_, rfl⟩, _, rfl, t, _, 0, .ref a, rfl, rfl, SqT.of g1, rfl, "/", a, ls.map stS, rfl, rfl, .inl (SqL.of (by rw [mapVS]; exact g2)), ?_, ?_⟩
    · rw [List.length_map]
      have e : ("/" : Str).length = 1 := by decide +kernel
      rw [e]
      omega
    refine ⟨⟨_, rfl⟩, _, rfl, t, _, 1, .ref b, rfl, rfl, SqT.of g1, rfl, b, rfl, ⟨_, SqL.of g3⟩, fun D hD => ?_⟩
    refine lc_list (K := K) (a := b) (xs := xs) (fun i H3 => H3 D = some (.lst (((cs.take i).map ptL).map V.str)) ∧ Same H H3) ⟨upd_same, (Same.refl H).new' hD⟩ (fun i H3 _ ⟨_, s3⟩ => SqL.of (s3 _ _ g3)) ?_ ?_
    · rintro i x H3 hx ⟨hD3, s3⟩
      obtain ⟨c, hcc, q, rfl, hq⟩ := paired_at g4 hx
      obtain ⟨e, a', rfl, he, ha, hz⟩ := ok_pt V0 (List.mem_of_getElem? hcc)
      refine ⟨q, _, rfl, SqT.of (s3 _ _ hq), rfl, _, _, rfl, _, _, rfl, rfl, rfl, ?_⟩
      unfold tYes
      dsimp only
      rw [if_pos rfl]
      have sz : ∀ n : Nat, n ≤ 16 → ((Int.natAbs (n : Int))).log2 < 1920 := fun n hn => Nat.lt_trans (log_small (by omega)) (by decide)
      unfold ptS at hz
      dsimp only at hz
      rw [len_app, len_app, len_app] at hz
      have e1 : (" " : Str).length = 1 := by decide +kernel
      refine ⟨_, rfl, _, rfl, sz e (by omega), _, _, rfl, rfl, ?_, _, _, rfl, rfl, ?_, _, rfl, _, rfl, sz a' (by omega), _, _, rfl, rfl, ?_, ?_⟩
      · rw [e1]; exact small_line' (by omega)
      · rw [len_app, e1]; exact small_line' (by omega)
      · rw [len_app, len_app, e1]; exact small_line' (by omega)
      refine ⟨_, hD3, ?_, ?_, s3.turn hD⟩
      · rw [List.length_map, List.length_map, List.length_take]; exact small1000 (by omega)
      · rw [upd_same, List.take_succ, hcc, List.map_append, List.map_append]
        rfl
    · rintro H3 ⟨hD3, s3⟩
      rw [hlx, List.take_of_length_le (Nat.le_refl _)] at hD3
      have h2 : ((cs.map ptL).map (·.length)).sum ≤ 11 * (cs.map ptL).length := sum_len fun x m => by
        obtain ⟨c, mc, rfl⟩ := List.mem_map.mp m
        obtain ⟨_, _, _, _, _, z⟩ := ok_pt V0 mc
        rw [ptL_eq, len_app]
        have e1 : (" " : Str).length = 1 := by decide +kernel
        rw [e1]
        omega
      rw [List.length_map] at h2
      have e0 : ("" : Str).length = 0 := by decide +kernel
      refine ⟨"", D, cs.map ptL, rfl, rfl, .inl (SqL.of hD3), by rw [e0, List.length_map]; omega, _, _, rfl, rfl, ?_, ?_⟩
      · have := join_len "" (cs.map ptL)
        rw [e0, List.length_map] at this
        exact small_line' (by omega)
      · rw [txt_eq]
        exact k _ s3

end
end Toy

end
section
set_option maxHeartbeats 4000000
namespace Toy
open PySem L2
section
variable {P : Program} {w : World} {K : PySem.W.Frag} {mg : Str → Option Value} {base : Heap}
/-! ### mirrored and turned by the law -/
def spMirL (K : PySem.W.Frag) : Sp := fun vs H Q _ => ∃ (t : Addr) (h d : Nat) (ls : List (List Bool)) (cs : List C2), vs = [.ref t] ∧ ModelAt K H t ls cs ∧ CardV h d ls cs ∧ ∀ (t' : Addr) (H' : Hp) (cs' : List C2), Same H H' → ModelAt K H' t' ls.reverse cs' → cs'.Perm (cs.map (mirC ls.length)) → Rising cs' → Q (.ref t') H'
abbrev nmML : List Str := ["_law_model_here", "_law_stairs_in", "_law_slits_in", "_law_edge", "_law_at"]
theorem scML : FnScope nmML ["_law_model_here"] (defScope s__law_mirrored) := ⟨rfl, rfl, rfl, by decide +kernel, rfl, by decide +kernel, by decide +kernel⟩
theorem ok_mirL {f : Addr} {fd : FuncData} (F : Fun K "_law_mirrored" "_law_mirrored" s__law_mirrored f fd) (T : Blt mg) (Ts : mg "sorted" = none) : FnOk P w K mg base CX0 1 f fd ["_law_model_here"] (spMirL K) := by
  refine F.ok scML (fun vs H Q E h => ?_) (fun cdv A outer s H vs Q E hr h => ?_)
  · obtain ⟨t, h, d, ls, cs, rfl, _⟩ := h
    rfl
  · obtain ⟨t, h, d, ls, cs, rfl, ⟨a, b, e1, e2, xs, e3, e4⟩, V0, k⟩ := h
    have nd := scML.nd
    refine ⟨_, pss_cons (ps_asg (pv 0) (pg_tup (by rfl) (pgs_cons (pg_name (i := 1) nd rfl (Or.inr rfl)) (pgs_cons (pg_name (i := 2) nd rfl (Or.inl rfl)) pgs_nil))))
      (pss_one (ps_ret (pe_tup (pa_cons (pe_revL (pv 1) (pe_un un_neg pe_int)) (pa_cons (pe_callB cr_sortedP (by rfl) Ts (by decide +kernel) (pa_cons
        (pe_lc (own := [("_law_edge", 3), ("_law_at", 4)]) (g := gTup K 2 (gCons (gName 3) (gCons (gName 4) gNil))) (te := tTup (tCons (tOp (rI0 fun i j => .int (i - j)) (tCB (fun xs H Q => ∃ p ys, xs = [.ref p] ∧ (SqL K H p ys ∨ SqT K H p ys) ∧ Q (.int ys.length) H) (tCons (tVar 1) tNil)) (tVar 3)) (tCons (tVar 4) tNil))) (by rfl) nd (pi_list (pv 2)) (blkOk_by (own := [("_law_edge", 3), ("_law_at", 4)]) (N := nmML) (sc := defScope s__law_mirrored) (by decide +kernel))
          (fun _ _ _ _ _ => pg_tup (by rfl) (pgs_cons (pg_name (i := 3) nd rfl (Or.inl rfl)) (pgs_cons (pg_name (i := 4) nd rfl (Or.inl rfl)) pgs_nil))) (fun _ _ _ _ _ => pts_nil) (fun _ _ _ _ _ => pe_tup (pa_cons (pe_op op_sub (pe_callB call_len_seq (by rfl) T.len PySem.boot_len (pa_cons (pv 1) pa_nil)) (pv 3)) (pa_cons (pv 4) pa_nil)))) pa_nil)) pa_nil))))), ?_⟩
    refine ⟨_, rfl, t, _, rfl, SqT.of e1, rfl, _, _, rfl, _, _, rfl, rfl, ?_⟩
    refine ⟨_, rfl, 1, rfl, a, _, rfl, rfl, SqL.of e2, fun l1 hl1 => ?_⟩
    have s1 : Same H (upd H l1 (.lst (ls.map vS).reverse)) := (Same.refl H).new' hl1
    have hl1' : (upd H l1 (.lst (ls.map vS).reverse)) l1 = some (.lst (ls.reverse.map vS)) := by rw [upd_same, List.map_reverse]
    have e2' := s1 _ _ e2
    have e3' := s1 _ _ e3
    have e4' := Prs.keep s1 e4
    generalize upd H l1 (.lst (ls.map vS).reverse) = H1 at *
    refine ⟨_, rfl, b, rfl, ⟨_, SqL.of e3'⟩, fun D hD => ?_⟩
    refine lc_list (K := K) (a := b) (xs := xs) (fun i H3 => ∃ zs, H3 D = some (.lst zs) ∧ Prs K H3 zs ((cs.take i).map (mirC ls.length)) ∧ Same H1 H3) ⟨[], upd_same, .nil, (Same.refl H1).new' hD⟩ (fun i H3 _ ⟨_, _, _, s3⟩ => SqL.of (s3 _ _ e3')) ?_ ?_
    · rintro i x H3 hx ⟨zs, hD3, hz, s3⟩
      obtain ⟨c, hcc, q, rfl, hq⟩ := paired_at e4' hx
      refine ⟨q, _, rfl, SqT.of (s3 _ _ hq), rfl, _, _, rfl, _, _, rfl, rfl, rfl, ?_⟩
      unfold tYes
      dsimp only
      rw [if_pos rfl]
      refine ⟨_, rfl, a, _, rfl, .inl (SqL.of (s3 _ _ e2')), _, rfl, _, _, rfl, rfl, _, rfl, (by show 2 ≤ sizeLine; decide), fun q3 hq3 => ?_⟩
      have nq : q3 ≠ D := (ne_of_none hD3 hq3).symm
      refine ⟨zs, by rw [upd_ne nq.symm]; exact hD3, ?_, zs ++ [.ref q3], upd_same, ?_, ?_⟩
      · have := Paired.length hz
        rw [List.length_map, List.length_take] at this
        exact small1000 (by have := V0.n4; omega)
      · rw [List.take_succ, hcc, List.map_append]
        have hD5 : ∀ o : HO, (upd H3 q3 o) D = some (.lst zs) := fun o => by rw [upd_ne nq.symm]; exact hD3
        refine paired_append (Prs.put (hD5 _) (Prs.keep ((Same.refl _).new' hq3) hz)) (.cons ⟨q3, rfl, ?_⟩ .nil)
        rw [upd_ne nq, upd_same, List.length_map]
        rfl
      · intro b o eb
        rw [upd_ne (ne_of_none eb hD)]
        exact (s3.new' hq3) b o eb
    · rintro H3 ⟨zs, hD3, hz, s3⟩
      have hlx : xs.length = cs.length := Paired.length e4
      rw [List.take_of_length_le (by omega)] at hz
      refine ⟨D, zs, _, rfl, SqL.of hD3, hz, fun xs' cs' l2 hx pm ri hl2 => ⟨(by show 2 ≤ sizeLine; decide), fun q hq => ?_⟩⟩
      have s4 : Same H3 (upd H3 l2 (.lst xs')) := (Same.refl H3).new' hl2
      have s5 := s4.new' (o := .tup [.ref l1, .ref l2]) hq
      have sq : Same (upd H3 l2 (.lst xs')) (upd (upd H3 l2 (.lst xs')) q (.tup [.ref l1, .ref l2])) := (Same.refl _).new' hq
      exact k q _ cs' ((s1.trans s3).trans s5) ⟨l1, l2, upd_same, s5 _ _ (s3 _ _ hl1'), xs', sq _ _ upd_same, Prs.keep s5 hx⟩ pm ri
theorem cols_set {h d : Nat} {ls : List (List Bool)} {n : Nat} {l l' : List Bool} (hc : Cols h d ls) (hl : ls[n]? = some l) (e : ∀ y, l'.count y = l.count y) : Cols h d (ls.set n l') := by
  have hm := List.mem_of_getElem? hl
  refine ⟨by rw [List.length_set]; exact hc.n1, by rw [List.length_set]; exact hc.n8, hc.hd, fun q mq => ?_, fun q mq => ?_⟩
  · rcases List.mem_or_eq_of_mem_set mq with mq | rfl
    · exact hc.t q mq
    · rw [e]; exact hc.t l hm
  · rcases List.mem_or_eq_of_mem_set mq with mq | rfl
    · exact hc.f q mq
    · rw [e]; exact hc.f l hm
def stayB (h d : Nat) (ls : List (List Bool)) (c : C2) : Bool := meetAt h d ls c.1.toNat c.2.toNat
theorem stay_ok {h d : Nat} {ls ls' : List (List Bool)} {cs : List C2} (o : OkS h d ls cs) (hl : ls'.length = ls.length) : OkS h d ls' (cs.filter (stayB h d ls')) := by
  intro c m
  obtain ⟨m1, m2⟩ := List.mem_filter.mp m
  obtain ⟨e, a, rfl, he, ha, _⟩ := o c m1
  exact ⟨e, a, rfl, by omega, ha, m2⟩
theorem rising_filter {cs : List C2} (p : C2 → Bool) (h : Rising cs) : Rising (cs.filter p) := List.Pairwise.filter p h
def spSet (K : PySem.W.Frag) : Sp := fun vs H Q _ => ∃ (a b : Addr) (h d : Nat) (ls0 ls : List (List Bool)) (cs : List C2), vs = [.ref a, .ref b] ∧ H a = some (.lst (ls.map vS)) ∧ PL K H b cs ∧ Cols h d ls ∧ CardV h d ls0 cs ∧ ls.length = ls0.length ∧ ∀ (t : Addr) (H' : Hp), Same H H' → ModelAt K H' t ls (cs.filter (stayB h d ls)) → H t = none → Q (.ref t) H'
abbrev nmSet : List Str := ["_law_stairs_in", "_law_slits_in", "_law_one"]
theorem scSet : FnScope nmSet ["_law_stairs_in", "_law_slits_in"] (defScope s__law_settled) := ⟨rfl, rfl, rfl, by decide +kernel, rfl, by decide +kernel, by decide +kernel⟩
theorem ok_set {f : Addr} {fd : FuncData} (F : Fun K "_law_settled" "_law_settled" s__law_settled f fd) (gX : Ok P w K mg base 3 "_law_meets" ["_law_stairs_in", "_law_edge", "_law_at"] (spMeets K)) (Ts : mg "sorted" = none) : FnOk P w K mg base CX0 4 f fd ["_law_stairs_in", "_law_slits_in"] (spSet K) := by
  refine F.ok scSet (fun vs H Q E h => ?_) (fun cdv A outer s H vs Q E hr h => ?_)
  · obtain ⟨a, b, h, d, ls0, ls, cs, rfl, _⟩ := h
    rfl
  · obtain ⟨a, b, h, d, ls0, ls, cs, rfl, ha, ⟨xs, hb, hp⟩, hc, V0, hll, k⟩ := h
    have nd := scSet.nd
    refine ⟨_, (pss_one (ps_ret (pe_tup (pa_cons (pv 0) (pa_cons (pe_callB cr_sortedP (by rfl) Ts (by decide +kernel) (pa_cons (pe_lc (own := [("_law_one", 2)]) (g := (gName 2)) (tt := tB (tCall (spMeets K) [] E0 (tCons (tVar 0) (tCons (tOp (rIxT K) (tVar 2) (tC (.int 0))) (tCons (tOp (rIxT K) (tVar 2) (tC (.int 1))) tNil))))) (by rfl) nd (pi_list (pv 1)) (blkOk_by (own := [("_law_one", 2)]) (N := nmSet) (sc := defScope s__law_settled) (by decide +kernel)) (fun _ _ _ _ _ => (pg_name (i := 2) nd rfl (Or.inl rfl))) (fun _ _ _ _ _ => (pts_one (pt_val (pe_ok gX hr (by rfl) (pa_cons (pv 0) (pa_cons (pe_ix (by exact ix_tup) (pv 2) pe_int (fun _ _ => rfl)) (pa_cons (pe_ix (by exact ix_tup) (pv 2) pe_int (fun _ _ => rfl)) pa_nil))))))) (fun _ _ _ _ _ => (pv 2))) pa_nil)) pa_nil))))), ?_⟩
    have n4 := V0.n4
    have hlx : xs.length = cs.length := Paired.length hp
    refine ⟨_, rfl, _, rfl, b, rfl, ⟨_, SqL.of hb⟩, fun D hD => ?_⟩
    refine lc_list (K := K) (a := b) (xs := xs) (fun i H3 => ∃ zs, H3 D = some (.lst zs) ∧ Prs K H3 zs ((cs.take i).filter (stayB h d ls)) ∧ Same H H3) ⟨[], upd_same, .nil, (Same.refl H).new' hD⟩ (fun i H3 _ ⟨_, _, _, s3⟩ => SqL.of (s3 _ _ hb)) ?_ ?_
    · rintro i y H3 hy ⟨zs, hD3, hz, s3⟩
      obtain ⟨c, hcc, q, rfl, hq⟩ := paired_at hp hy
      obtain ⟨e, at', rfl, he, hat, _⟩ := V0.o c (List.mem_of_getElem? hcc)
      have ef : (cs.take (i + 1)).filter (stayB h d ls) = (cs.take i).filter (stayB h d ls) ++ (if meetAt h d ls e at' = true then [(((e : Nat) : Int), ((at' : Nat) : Int))] else []) := by
        rw [List.take_succ, hcc, List.filter_append]
        show _ ++ [(((e : Nat) : Int), ((at' : Nat) : Int))].filter _ = _
        rw [List.filter_cons, List.filter_nil]
        rfl
      refine ⟨rfl, _, rfl, _, rfl, q, _, 0, _, rfl, rfl, SqT.of (s3 _ _ hq), rfl, _, rfl, q, _, 1, _, rfl, rfl, SqT.of (s3 _ _ hq), rfl, a, h, d, ls, e, at', rfl, SqL.of (s3 _ _ ha), hc, by omega, hat, fun H4 s4 => ⟨_, rfl, ?_⟩⟩
      cases hm : meetAt h d ls e at' with
      | true =>
        rw [hm, if_pos rfl] at ef
        refine iteT ⟨_, rfl, zs, s4 _ _ hD3, ?_, zs ++ [.ref q], upd_same, ?_, (s3.trans s4).turn hD⟩
        · have h1 := Paired.length hz
          have h2 := List.length_filter_le (stayB h d ls) (cs.take i)
          rw [List.length_take] at h2
          exact small1000 (by omega)
        · rw [ef]
          refine paired_append (Prs.put (s4 _ _ hD3) (Prs.keep s4 hz)) (Prs.put (s4 _ _ hD3) (.cons ⟨q, rfl, s4 _ _ (s3 _ _ hq)⟩ .nil))
      | false =>
        rw [hm, if_neg (by decide), List.append_nil] at ef
        exact iteF ⟨zs, s4 _ _ hD3, by rw [ef]; exact Prs.keep s4 hz, s3.trans s4⟩
    · rintro H3 ⟨zs, hD3, hz, s3⟩
      rw [List.take_of_length_le (by omega)] at hz
      refine ⟨D, zs, _, rfl, SqL.of hD3, hz, fun xs' cs' l hx pm ri hl => ?_⟩
      have e := rising_eq pm ri (rising_filter _ V0.ri)
      subst e
      have sl : Same H3 (upd H3 l (.lst xs')) := (Same.refl H3).new' hl
      refine ⟨(by show 2 ≤ sizeLine; decide), fun t ht => ?_⟩
      have st : Same H3 (upd (upd H3 l (.lst xs')) t (.tup [.ref a, .ref l])) := sl.new' ht
      exact k t _ (s3.trans st) ⟨a, l, upd_same, st _ _ (s3 _ _ ha), xs', by rw [upd_ne (ne_of_none upd_same ht)]; exact upd_same, Prs.keep st hx⟩ (s3.free (sl.free ht))
theorem cutT (xs : List V) {k : Nat} (h : k ≤ xs.length) : cutV xs none (some ((k : Nat) : Int)) = xs.take k := by
  unfold cutV
  rw [HT.sIx_none, HT.sIx_nat, Nat.min_eq_left h]
  simp
theorem cutD (xs : List V) {k : Nat} (h : k ≤ xs.length) : cutV xs (some ((k : Nat) : Int)) none = xs.drop k := by
  unfold cutV
  rw [HT.sIx_none, HT.sIx_nat, Nat.min_eq_left h]
  exact List.take_of_length_le (by rw [List.length_drop]; exact Nat.le_refl _)
theorem set_cat {ls : List (List Bool)} {n : Nat} {l' : List Bool} (h : n < ls.length) : ((ls.map vS).take n ++ [vS l']) ++ (ls.map vS).drop (n + 1) = (ls.set n l').map vS := by
  rw [List.map_set, List.set_eq_take_append_cons_drop, if_pos (by rw [List.length_map]; exact h)]
  simp
/-! ### another model -/
theorem cutD1 (xs : List V) : cutV xs (some 1) none = xs.drop 1 := by
  unfold cutV
  rw [HT.sIx_none, show (1 : Int) = ((1 : Nat) : Int) from rfl, HT.sIx_nat]
  cases xs with
  | nil => rfl
  | cons x xs =>
    rw [List.length_cons, Nat.min_eq_left (by omega)]
    exact List.take_of_length_le (by rw [List.length_drop, List.length_cons]; exact Nat.le_refl _)
theorem paired_drop1 {α β : Type} {R : α → β → Prop} : ∀ {xs : List α} {ys : List β}, Paired R xs ys → Paired R (xs.drop 1) (ys.drop 1)
  | _, _, .nil => .nil
  | _, _, .cons _ t => t
theorem CardV.filter {h d : Nat} {ls ls' : List (List Bool)} {cs : List C2} (V0 : CardV h d ls cs) (hc : Cols h d ls') (hl : ls'.length = ls.length) : CardV h d ls' (cs.filter (stayB h d ls')) :=
  ⟨hc, stay_ok V0.o hl, V0.nd.filter _, Nat.le_trans (List.length_filter_le _ _) V0.n4, rising_filter _ V0.ri⟩
theorem CardV.tail {h d : Nat} {ls : List (List Bool)} {cs : List C2} (V0 : CardV h d ls cs) : CardV h d ls (cs.drop 1) :=
  ⟨V0.c, fun c m => V0.o c (List.mem_of_mem_drop m), V0.nd.sublist (List.drop_sublist _ _), by have := V0.n4; rw [List.length_drop]; omega, V0.ri.sublist (List.drop_sublist _ _)⟩
theorem CardV.mir {h d : Nat} {ls : List (List Bool)} {cs cs' : List C2} (V0 : CardV h d ls cs) (pm : cs'.Perm (cs.map (mirC ls.length))) (ri : Rising cs') : CardV h d ls.reverse cs' :=
  ⟨V0.c.rev, (V0.o.mir).perm pm, pm.nodup_iff.mpr (nodup_inj (mirC_inj _) V0.nd), by rw [pm.length_eq, List.length_map]; exact V0.n4, ri⟩
theorem list_ne_draw {H : Hp} {a d : Addr} {ls : List (List Bool)} (D : Draw H d) (h : H a = some (.lst (ls.map vS))) (n : 1 ≤ ls.length) : a ≠ d := by
  rintro rfl
  obtain ⟨l, ns, p, c, g, e, _⟩ := D.ex
  rw [e] at h
  injection h with h
  injection h with h
  cases ls with
  | nil => simp at n
  | cons l ls => rw [List.map_cons] at h; injection h with h; cases h
theorem pl_ne_draw {H : Hp} {b d : Addr} {cs : List C2} (D : Draw H d) (h : PL K H b cs) : b ≠ d := by
  rintro rfl
  obtain ⟨l, ns, p, c, g, e, _⟩ := D.ex
  obtain ⟨zs, h1, h2⟩ := h
  rw [e] at h1
  injection h1 with h1
  injection h1 with h1
  rw [← h1] at h2
  cases h2 with
  | cons _ h3 =>
    cases h3 with
    | cons h4 _ =>
      obtain ⟨q, hq, _⟩ := h4
      cases hq
theorem tup_ne_drawM {H : Hp} {t d : Addr} {xs : List V} (D : Draw H d) (h : H t = some (.tup xs)) : t ≠ d := by
  rintro rfl
  obtain ⟨l, ns, p, c, g, e, _⟩ := D.ex
  rw [e] at h
  cases h
theorem pl_ext {H H' : Hp} {b d : Addr} {cs : List C2} (D : Draw H d) (x : Ext d H H') (h : PL K H b cs) : PL K H' b cs := by
  have nb := pl_ne_draw D h
  obtain ⟨zs, h1, h2⟩ := h
  refine ⟨zs, x _ _ nb h1, Paired.imp' (fun v c q => ?_) h2⟩
  obtain ⟨p, rfl, hp⟩ := q
  exact ⟨p, rfl, x p _ (tup_ne_drawM D hp) hp⟩
theorem ModelAt.ext {H H' : Hp} {t d : Addr} {ls : List (List Bool)} {cs : List C2} (m : ModelAt K H t ls cs) (D : Draw H d) (x : Ext d H H') (n : 1 ≤ ls.length) : ModelAt K H' t ls cs := by
  obtain ⟨a, b, g1, g2, g3⟩ := m
  exact ⟨a, b, x _ _ (tup_ne_drawM D g1) g1, x _ _ (list_ne_draw D g2 n) g2, pl_ext D x g3⟩
def spOth (K : PySem.W.Frag) : Sp := fun vs H Q _ => ∃ (dr t : Addr) (n : Int) (h d : Nat) (ls : List (List Bool)) (cs : List C2), vs = [.ref dr, .ref t, .int n] ∧ Draw H dr ∧ ModelAt K H t ls cs ∧ CardV h d ls cs ∧
  ∀ (t' : Addr) (H' : Hp) (ls' : List (List Bool)) (cs' : List C2), ModelAt K H' t' ls' cs' → CardV h d ls' cs' → Draw H' dr → Ext dr H H' → Q (.ref t') H'
abbrev nmOth : List Str := ["_law_draw", "_law_model_here", "_law_columns", "_law_stairs_in", "_law_slits_in", "_law_fork", "_law_at", "_law_more"]
theorem scOth : FnScope nmOth ["_law_draw", "_law_model_here", "_law_columns"] (defScope s__law_other) := ⟨rfl, rfl, rfl, by decide +kernel, rfl, by decide +kernel, by decide +kernel⟩
theorem ok_oth {f : Addr} {fd : FuncData} (F : Fun K "_law_other" "_law_other" s__law_other f fd) (gT : Ok P w K mg base 1 "_law_take" ["_law_draw", "_law_many"] spTake) (gMi : Ok P w K mg base 1 "_law_mirrored" ["_law_model_here"] (spMirL K))
    (gSo : Ok P w K mg base 5 "_law_some_slits" ["_law_draw", "_law_stairs_in", "_law_most"] (spSome K)) (gSt : Ok P w K mg base 2 "_law_stair" ["_law_draw", "_law_size_here"] (spStair K)) (gSd : Ok P w K mg base 1 "_law_sides" ["_law_stair_here"] spSidesL)
    (gSe : Ok P w K mg base 4 "_law_settled" ["_law_stairs_in", "_law_slits_in"] (spSet K)) (T : Blt mg) : FnOk P w K mg base CX0 6 f fd ["_law_draw", "_law_model_here", "_law_columns"] (spOth K) := by
  refine F.ok scOth (fun vs H Q E h => ?_) (fun cdv A outer s H vs Q E hr h => ?_)
  · obtain ⟨dr, t, n, h, d, ls, cs, rfl, _⟩ := h
    rfl
  · obtain ⟨dr, t, n, h, d, ls, cs, rfl, D0, hm, V0, k⟩ := h
    have nd := scOth.nd
    refine ⟨_, (pss_cons (ps_asg (pv 1) (pg_tup (by rfl) (pgs_cons (pg_name (i := 3) nd rfl (Or.inl rfl)) (pgs_cons (pg_name (i := 4) nd rfl (Or.inl rfl)) pgs_nil))))
      (pss_cons (ps_set (i := 5) nd rfl (Or.inl rfl) (pe_ok gT hr (by rfl) (pa_cons (pv 0) (pa_cons pe_int pa_nil))))
      (pss_cons (ps_if (pt_cmpR op_eq (pv 5) pe_int (nomark _)) (pss_one (ps_ret (pe_ok gMi hr (by rfl) (pa_cons (pv 1) pa_nil)))) pss_nil)
      (pss_cons (ps_if (pt_cmpR op_eq (pv 5) pe_int (nomark _)) (pss_one (ps_ret (pe_tup (pa_cons (pv 3) (pa_cons (pe_slice sl_list (pv 4) (po_some pe_int) po_none) pa_nil))))) pss_nil)
      (pss_cons (ps_if (pt_cmpR op_eq (pv 5) pe_int (nomark _)) (pss_one (ps_ret (pe_tup (pa_cons (pv 3) (pa_cons (pe_ok gSo hr (by rfl) (pa_cons (pv 0) (pa_cons (pv 3) (pa_cons pe_int pa_nil)))) pa_nil))))) pss_nil)
      (pss_cons (ps_if (pt_cmpR op_eq (pv 5) pe_int (nomark _)) (pss_cons (ps_set (i := 6) nd rfl (Or.inl rfl) (pe_ok gT hr (by rfl) (pa_cons (pv 0) (pa_cons (pe_callB call_len_seq (by rfl) T.len PySem.boot_len (pa_cons (pv 3) pa_nil)) pa_nil))))
      (pss_cons (ps_set (i := 7) nd rfl (Or.inl rfl) (pe_ok gSt hr (by rfl) (pa_cons (pv 0) (pa_cons (pe_ok gSd hr (by rfl) (pa_cons (pe_ix ix_list (pv 3) pe_int (fun _ _ => rfl)) pa_nil)) pa_nil))))
      (pss_one (ps_ret (pe_ok gSe hr (by rfl) (pa_cons (pe_op op_cat (pe_op op_cat (pe_slice sl_list (pv 3) po_none (po_some (pv 6))) (pe_lst (pa_cons (pv 7) pa_nil))) (pe_slice sl_list (pv 3) (po_some (pe_op op_add (pv 6) pe_int)) po_none)) (pa_cons (pv 4) pa_nil))))))) pss_nil)
      (pss_one (ps_ret (pe_tup (pa_cons (pe_callTy call_list_of (by rfl) T.list boot_list (pa_cons (pv 3) pa_nil)) (pa_cons (pe_callTy call_list_of (by rfl) T.list boot_list (pa_cons (pv 4) pa_nil)) pa_nil))))))))))), ?_⟩
    have hc := V0.c
    have n1 := hc.n1
    have n8 := hc.n8
    have n4 := V0.n4
    have hhd := hc.hd
    obtain ⟨a, b, g1, g2, g3⟩ := id hm
    refine ⟨_, rfl, t, _, rfl, SqT.of g1, rfl, _, _, rfl, _, _, rfl, rfl, ?_⟩
    refine ⟨_, rfl, dr, 5, rfl, D0, by decide, by decide, fun fk H1 f0 f5 D1 b1 => ?_⟩
    have x1 : Ext dr H H1 := Ext.but b1
    have m1 := hm.ext D0 x1 n1
    have g1' := x1 _ _ (tup_ne_drawM D0 g1) g1
    have g2' := x1 _ _ (list_ne_draw D0 g2 n1) g2
    obtain ⟨xs, g3', g4'⟩ := pl_ext D0 x1 g3
    have nad := list_ne_draw D1 g2' n1
    refine ⟨_, rfl, rfl, _, rfl, ite2 (fun _ => ?_) (fun _ => ?_)⟩
    · exact ⟨_, rfl, t, h, d, ls, cs, rfl, m1, V0, fun t' H2 cs' s2 m2 pm ri => k t' H2 _ _ m2 (V0.mir pm ri) (D1.keep s2) (x1.trans (Ext.same s2))⟩
    refine ⟨_, rfl, rfl, _, rfl, ite2 (fun _ => ?_) (fun _ => ?_)⟩
    · refine ⟨_, rfl, _, rfl, _, rfl, b, xs, rfl, SqL.of g3', fun p hp => ?_⟩
      rw [cutD1]
      have s2 : Same H1 (upd H1 p (.lst (xs.drop 1))) := (Same.refl H1).new' hp
      have hp2 : PL K (upd H1 p (.lst (xs.drop 1))) p (cs.drop 1) := ⟨_, upd_same, paired_drop1 (Prs.keep s2 g4')⟩
      generalize upd H1 p (.lst (xs.drop 1)) = H2 at s2 hp2
      refine ⟨(by show 2 ≤ sizeLine; decide), fun q hq => ?_⟩
      have s3 : Same H2 (upd H2 q (.tup [.ref a, .ref p])) := (Same.refl H2).new' hq
      exact k q _ ls _ ⟨a, p, upd_same, s3 _ _ (s2 _ _ g2'), hp2.keep s3⟩ V0.tail (D1.keep (s2.trans s3)) (x1.trans (Ext.same (s2.trans s3)))
    refine ⟨_, rfl, rfl, _, rfl, ite2 (fun _ => ?_) (fun _ => ?_)⟩
    · refine ⟨_, rfl, _, rfl, _, rfl, dr, a, h, d, 4, ls, rfl, D1, g2', nad, hc, by decide, fun p H2 cs2 hp2 V2 D2 x2 => ?_⟩
      refine ⟨(by show 2 ≤ sizeLine; decide), fun q hq => ?_⟩
      have s3 : Same H2 (upd H2 q (.tup [.ref a, .ref p])) := (Same.refl H2).new' hq
      exact k q _ ls _ ⟨a, p, upd_same, s3 _ _ (x2 _ _ nad g2'), hp2.keep s3⟩ V2 (D2.keep s3) ((x1.trans x2).trans (Ext.same s3))
    refine ⟨_, rfl, rfl, _, rfl, ite2 (fun _ => ?_) (fun _ => ?_)⟩
    · refine ⟨_, rfl, _, rfl, a, _, rfl, .inl (SqL.of g2'), dr, _, rfl, D1, by rw [List.length_map]; omega, by rw [List.length_map]; exact log_small (by omega), fun r H2 r0 r1 D2 b2 => ?_⟩
      rw [List.length_map] at r1
      obtain ⟨n, rfl⟩ := Int.eq_ofNat_of_zero_le r0
      have hn : n < ls.length := by omega
      have x2 : Ext dr H1 H2 := Ext.but b2
      have g22 := x2 _ _ nad g2'
      have m2 := m1.ext D1 x2 n1
      obtain ⟨l0, hl0, ml0⟩ := first_col hc
      have len0 := hc.len ml0
      refine ⟨_, rfl, _, rfl, a, _, 0, vS l0, rfl, rfl, SqL.of g22, atI_nat (by rw [List.getElem?_map, hl0]; rfl), stS l0, rfl, (by rw [stS_len, len0]; omega), fun p H3 s3 hp3 => ?_⟩
      rw [stS_len, count_w, hc.t l0 ml0, len0, show ((h + d : Nat) : Int) - ((h : Nat) : Int) = ((d : Nat) : Int) by omega] at hp3
      refine ⟨dr, p, h, d, rfl, D2.keep s3, SqT.of hp3, hhd.1, hhd.2.1, hhd.2.2.1, hhd.2.2.2, fun l H4 ct cf D4 b4 => ?_⟩
      have x4 : Ext dr H2 H4 := (Ext.same s3).trans (Ext.but b4)
      have g24 := x4 _ _ (list_ne_draw D2 g22 n1) g22
      obtain ⟨a', b', m4, g24', g34⟩ := m2.ext D2 x4 n1
      obtain ⟨ln, hln⟩ : ∃ q, ls[n]? = some q := ⟨_, List.getElem?_eq_getElem hn⟩
      refine ⟨_, rfl, _, rfl, _, rfl, a, _, rfl, SqL.of g24, fun p1 hp1 => ?_⟩
      rw [cutT _ (by rw [List.length_map]; omega)]
      have s5 : Same H4 (upd H4 p1 (.lst ((ls.map vS).take n))) := (Same.refl H4).new' hp1
      have gp1 : (upd H4 p1 (.lst ((ls.map vS).take n))) p1 = some (.lst ((ls.map vS).take n)) := upd_same
      generalize upd H4 p1 (.lst ((ls.map vS).take n)) = H5 at s5 gp1
      refine ⟨_, rfl, (by show 1 ≤ sizeLine; decide), fun p2 hp2 => ?_⟩
      have s6 : Same H5 (upd H5 p2 (.lst [vS l])) := (Same.refl H5).new' hp2
      have gp2 : (upd H5 p2 (.lst [vS l])) p2 = some (.lst [vS l]) := upd_same
      generalize upd H5 p2 (.lst [vS l]) = H6 at s6 gp2
      refine ⟨p1, p2, _, _, rfl, rfl, s6 _ _ gp1, gp2, ?_, fun p3 hp3' => ?_⟩
      · rw [List.length_take, List.length_map]
        exact small_line' (by show min n ls.length + 1 ≤ 1000; omega)
      have s7 : Same H6 (upd H6 p3 (.lst ((ls.map vS).take n ++ [vS l]))) := (Same.refl H6).new' hp3'
      have gp3 : (upd H6 p3 (.lst ((ls.map vS).take n ++ [vS l]))) p3 = some (.lst ((ls.map vS).take n ++ [vS l])) := upd_same
      generalize upd H6 p3 (.lst ((ls.map vS).take n ++ [vS l])) = H7 at s7 gp3
      have s47 := (s5.trans s6).trans s7
      refine ⟨_, rfl, _, rfl, _, _, rfl, rfl, _, rfl, a, _, rfl, SqL.of (s47 _ _ g24), fun p4 hp4 => ?_⟩
      rw [show ((n : Nat) : Int) + 1 = ((n + 1 : Nat) : Int) by omega, cutD _ (by rw [List.length_map]; omega)]
      have s8 : Same H7 (upd H7 p4 (.lst ((ls.map vS).drop (n + 1)))) := (Same.refl H7).new' hp4
      have gp4 : (upd H7 p4 (.lst ((ls.map vS).drop (n + 1)))) p4 = some (.lst ((ls.map vS).drop (n + 1))) := upd_same
      generalize upd H7 p4 (.lst ((ls.map vS).drop (n + 1))) = H8 at s8 gp4
      refine ⟨p3, p4, _, _, rfl, rfl, s8 _ _ gp3, gp4, ?_, fun p5 hp5 => ?_⟩
      · rw [List.length_append, List.length_take, List.length_drop, List.length_map]
        exact small_line' (by show min n ls.length + 1 + _ ≤ 1000; omega)
      rw [set_cat hn]
      have s9 : Same H8 (upd H8 p5 (.lst ((ls.set n l).map vS))) := (Same.refl H8).new' hp5
      have s49 := (s47.trans s8).trans s9
      have hc' : Cols h d (ls.set n l) := cols_set hc hln fun y => by
        cases y with
        | true => rw [ct, hc.t ln (List.mem_of_getElem? hln)]
        | false => rw [cf, hc.f ln (List.mem_of_getElem? hln)]
      have eb : b' = b := by
        have e1 := x4 _ _ (tup_ne_drawM D2 (x2 _ _ (tup_ne_drawM D1 g1') g1')) (x2 _ _ (tup_ne_drawM D1 g1') g1')
        rw [m4] at e1
        cases e1
        rfl
      subst eb
      refine ⟨_, rfl, p5, b', h, d, ls, _, cs, rfl, upd_same, g34.keep s49, hc', V0, List.length_set, fun t' H' s' m' _ => ?_⟩
      exact k t' H' _ _ m' (V0.filter hc' List.length_set) (D4.keep (s49.trans s')) (((x1.trans x2).trans x4).trans (Ext.same (s49.trans s')))
    · refine ⟨_, rfl, a, _, rfl, .inl (SqL.of g2'), fun p hp => ?_⟩
      have s2 : Same H1 (upd H1 p (.lst (ls.map vS))) := (Same.refl H1).new' hp
      have gp : (upd H1 p (.lst (ls.map vS))) p = some (.lst (ls.map vS)) := upd_same
      generalize upd H1 p (.lst (ls.map vS)) = H2 at s2 gp
      refine ⟨_, rfl, b, _, rfl, .inl (SqL.of (s2 _ _ g3')), fun q hq => ?_⟩
      have s3 : Same H2 (upd H2 q (.lst xs)) := (Same.refl H2).new' hq
      have gq : PL K (upd H2 q (.lst xs)) q cs := ⟨_, upd_same, Prs.keep (s2.trans s3) g4'⟩
      generalize upd H2 q (.lst xs) = H3 at s3 gq
      refine ⟨(by show 2 ≤ sizeLine; decide), fun r hr' => ?_⟩
      have s4 : Same H3 (upd H3 r (.tup [.ref p, .ref q])) := (Same.refl H3).new' hr'
      exact k r _ ls cs ⟨p, q, upd_same, s4 _ _ (s3 _ _ gp), gq.keep s4⟩ V0 (D1.keep ((s2.trans s3).trans s4)) (x1.trans (Ext.same ((s2.trans s3).trans s4)))
/-! ### asked -/
abbrev nmAsked : List Str := ["_law_card_here", "_law_column_here", "_law_e"]
theorem scAsked : FnScope nmAsked ["_law_card_here", "_law_column_here"] (defScope s__law_asked) := ⟨rfl, rfl, rfl, by decide +kernel, rfl, by decide +kernel, by decide +kernel⟩
def noL (x : Str) : List V := [.str "no", .str x]
def spAsked (K : PySem.W.Frag) (C : Addr) : Sp := fun vs H Q _ => ∃ (p : Addr) (h d : Nat) (ls : List (List Bool)) (cs : List C2) (c : Int), vs = [.ref p, .int c] ∧ CardAt K C H p ls cs ∧ CardV h d ls cs ∧
  ((∃ (n : Nat) (l : List Bool), c = (n : Int) ∧ ls[n]? = some l ∧ Q (vS l) H) ∨ ((c < 0 ∨ (ls.length : Int) ≤ c) ∧ ∀ (q : Addr) (H' : Hp), Same H H' → H' q = some (.lst (noL "NoColumn")) → Q (.ref q) H'))
theorem ok_asked {C f fK cE rE : Addr} {fd fdK : FuncData} {e : Nat → Addr} (F : Fun K "_law_asked" "_law_asked" s__law_asked f fd) (gJ : MOkC (CX1 P w) P w K mg base C 1 "stair" ["self", "column"] [] (spCstX K C (e 3)))
    (J3 : ErrAt K e cE rE 3) (c3 : clsIn K (e 3) (.ref cE :: bmV') = true) (FK : Fun K "_law_kind" "_law_kind" s__law_kind fK fdK) (bK : Binds K fdK ["_law_e"] []) (mK : mg "_law_kind" = some (.ref fK)) (R : Errs K mg e cE rE) (T : Blt mg) : FnOk P w K mg base CX0 3 f fd ["_law_card_here", "_law_column_here"] (spAsked K C) := by
  have GK : FnOkQ P w K mg base 1 fK fdK ["_law_e"] (spKind K e cE rE) := ok_kind FK R T
  refine F.ok scAsked (fun vs H Q E h => ?_) (fun cdv A outer s H vs Q E hr h => ?_)
  · obtain ⟨p, h, d, ls, cs, c, rfl, _⟩ := h
    rfl
  · obtain ⟨p, h, d, ls, cs, c, rfl, hcard, V0, hcase⟩ := h
    have nd := scAsked.nd
    refine ⟨_, pss_one (ps_try (i := 2) nd rfl rfl rfl rfl (by rfl) R.mC R.qC (by decide) (by rfl) R.mR R.qR (by decide)
      (fun xe pins E hx => pss_one (ps_ret (pe_mokC gJ hr (passes1 hx) (pv 0) (pa_cons (pv 1) pa_nil))))
      (fun ea oe => pss_one (ps_ret (pe_lst (pa_cons pe_str (pa_cons (pe_callQ (ea := ea) (oe := oe) GK ((hr.q.mono (by decide)).mark _) rfl List.mem_cons_self (by rfl) mK FK.kp bK (pa_cons (pv 2) pa_nil)) pa_nil)))))), ?_⟩
    obtain ⟨dx, t1, t2, e1⟩ := hcard.seen
    refine ⟨_, rfl, p, dx, _, rfl, e1, rfl, _, rfl, p, h, d, ls, cs, c, rfl, hcard, V0.c, ?_⟩
    rcases hcase with ⟨n, l, rfl, hl, k1⟩ | ⟨hno, k2⟩
    · exact .inl ⟨n, l, rfl, hl, k1⟩
    · refine .inr ⟨hno, ?_⟩
      refine ⟨e 3, _, rfl, c3, by simp, fun ea oe tp hea hexo htp hne => ?_⟩
      refine ⟨_, rfl, 3, rfl, J3, hexo.1, hexo.2.2, .inl hexo.2.1, fun H2 s2 => ?_⟩
      refine ⟨(by show 2 ≤ sizeLine; decide), fun q hq => ?_⟩
      exact k2 q _ ((((Same.refl H).new' htp).trans s2).new' hq) upd_same

end
end Toy

end
section
set_option maxHeartbeats 4000000
namespace Toy
open PySem L2
section
variable {P : Program} {w : World} {K : PySem.W.Frag} {mg : Str → Option Value} {base : Heap}
/-! ### the law -/
abbrev nmLaw : List Str := ["_law_script", "_law_draw", "_law_turn", "_law_model_here", "_law_other_here", "_law_one", "_law_two", "_law_alike", "_law_column_here", "_law_due", "_law_odd", "_law_bare"]
theorem scLaw : FnScope nmLaw ["_law_script"] (defScope s_law) := ⟨rfl, rfl, rfl, by decide +kernel, rfl, by decide +kernel, by decide +kernel⟩
def spLaw (K : PySem.W.Frag) : Sp := fun vs H Q _ => ∃ (a : Addr) (ns : List Int), vs = [.ref a] ∧ SqL K H a (ns.map V.int) ∧ ns.length ≤ 63 ∧ ∀ H', Q (.bl true) H'
theorem card_ext {C : Addr} {H H' : Hp} {d x : Addr} {ls : List (List Bool)} {cs : List C2} (c : CardAt K C H x ls cs) (b : Ext d H H') (D : Draw H d) : CardAt K C H' x ls cs := by
  obtain ⟨l, ns, p, c0, g, e0, _⟩ := id D.ex
  obtain ⟨dx, t1, t2, xs, h1, h2, h3, h4⟩ := c
  refine ⟨dx, t1, t2, xs, b _ _ (fun z => by rw [z, e0] at h1; cases h1) h1, b _ _ (fun z => by rw [z, e0] at h2; cases h2) h2, b _ _ (fun z => by rw [z, e0] at h3; cases h3) h3, Paired.imp' (fun v c q => ?_) h4⟩
  obtain ⟨p, rfl, hp⟩ := q
  exact ⟨p, rfl, b p _ (tup_ne_drawM D hp) hp⟩
structure Tw (K : PySem.W.Frag) (C : Addr) (H : Hp) (dr t u x y : Addr) (ls : List (List Bool)) (cs : List C2) (ms : List (List Bool)) (es : List C2) : Prop where
  D : Draw H dr
  m : ModelAt K H t ls cs
  o : ModelAt K H u ms es
  c : CardAt K C H x ls cs
  e : CardAt K C H y ms es
theorem Tw.keep {C : Addr} {H H' : Hp} {dr t u x y : Addr} {ls ms : List (List Bool)} {cs es : List C2} (h : Tw K C H dr t u x y ls cs ms es) (s : Same H H') : Tw K C H' dr t u x y ls cs ms es :=
  ⟨h.D.keep s, h.m.keep s, h.o.keep s, h.c.keep s, h.e.keep s⟩
theorem Tw.ext {C : Addr} {H H' : Hp} {dr t u x y : Addr} {ls ms : List (List Bool)} {cs es : List C2} (h : Tw K C H dr t u x y ls cs ms es) (D' : Draw H' dr) (b : Ext dr H H') (n1 : 1 ≤ ls.length) (n2 : 1 ≤ ms.length) : Tw K C H' dr t u x y ls cs ms es :=
  ⟨D', h.m.ext h.D b n1, h.o.ext h.D b n2, card_ext h.c b h.D, card_ext h.e b h.D⟩
theorem sh_lsL (ls : List (List Bool)) : SeqAt.shaped (.list (ls.map dS)) = true := by
  obtain ⟨h1, h2⟩ := lay_strs ls
  unfold SeqAt.shaped
  rw [PyData.canLay0, PyData.depth, h1, h2]
  rfl
theorem sh_csL (cs : List C2) : SeqAt.shaped (.list (cs.map dC)) = true := by
  obtain ⟨h1, h2⟩ := lay_prs cs
  unfold SeqAt.shaped
  rw [PyData.canLay0, PyData.depth, h1, Bool.true_and]
  exact decide_eq_true (by omega)
theorem alikeL3 {H : Hp} {a b : Addr} {x y z : V} (h1 : H a = some (.lst [x, y, z])) (h2 : H b = some (.lst [x, y, z])) (f1 : flatV x = true) (f2 : flatV y = true) (f3 : flatV z = true) : Alike 4 H (.ref a) (.ref b) := by
  refine Or.inr (Or.inl ⟨a, b, _, _, rfl, rfl, h1, h2, rfl, (by show 3 < sizeLine; decide), fun n u v hu hv => ?_⟩)
  rw [hu] at hv
  cases hv
  match n, hu with
  | 0, hu => cases hu; exact Alike.flat f1
  | 1, hu => cases hu; exact Alike.flat f2
  | 2, hu => cases hu; exact Alike.flat f3
  | n + 3, hu => simp at hu
theorem alikeNo2 {H : Hp} {a b : Addr} {x y : V} (h1 : H a = some (.lst [x, y])) (h2 : H b = some (.lst [x, y])) (f1 : flatV x = true) (f2 : flatV y = true) : Alike 4 H (.ref a) (.ref b) := by
  refine Or.inr (Or.inl ⟨a, b, _, _, rfl, rfl, h1, h2, rfl, (by show 2 < sizeLine; decide), fun n u v hu hv => ?_⟩)
  rw [hu] at hv
  cases hv
  match n, hu with
  | 0, hu => cases hu; exact Alike.flat f1
  | 1, hu => cases hu; exact Alike.flat f2
  | n + 2, hu => simp at hu
def kVC (vs : List V) (zs : List V) : List V := match vs, zs with | [s], [b, a] => [s, a, b] | _, _ => []
theorem bK_in {f : Addr} {fd : FuncData} (F : FunD K "__init__" "Card.__init__" s_Card_init f fd [.none]) : KBinds K fd ["self", "stairs", "slits"] ["slits", "stairs"] (fun us ws => match us, ws with | [s], [b, a] => [s, a, b] | _, _ => []) kVC :=
  F.bindsK (fun kV doc pm an cdv ct T us ws hl => match us, ws, hl with | [_], [_, _], _ => ⟨_, rfl, rfl⟩) (fun {vs us zs ws} q r => by
    cases q with
    | nil => exact .nil
    | cons q1 qq =>
      cases qq with
      | cons _ _ => exact .nil
      | nil =>
        cases r with
        | nil => exact .nil
        | cons r1 rr =>
          cases rr with
          | nil => exact .nil
          | cons r2 rr =>
            cases rr with
            | nil => exact .cons q1 (.cons r2 (.cons r1 .nil))
            | cons _ _ => exact .nil)
theorem ok_law {C f fN : Addr} {fd fdN : FuncData} (F : Fun K "law" "law" s_law f fd) (Z : CardC K C) (gBe : Ok P w K mg base 1 "_law_begin" ["_law_script"] (spBegin K)) (gMo : Ok P w K mg base 6 "_law_model" ["_law_draw", "_law_columns", "_law_most"] (spModel K)) (gOt : Ok P w K mg base 6 "_law_other" ["_law_draw", "_law_model_here", "_law_columns"] (spOth K))
    (gLc : Ok P w K mg base 9 "_law_card" ["_law_model_here"] (spLC K C)) (gSa : Ok P w K mg base 4 "_law_same" ["_law_told", "_law_due"] (spR (Alike 4))) (gTx : Ok P w K mg base 1 "_law_text_of" ["_law_model_here"] (spTx K)) (gFa : Ok P w K mg base 2 "_law_far" ["_law_draw"] spFar) (gAs : Ok P w K mg base 3 "_law_asked" ["_law_card_here", "_law_column_here"] (spAsked K C))
    (gSo : Ok P w K mg base 5 "_law_card_so" ["_law_card_here", "_law_model_here"] (spSo K C)) (gEq : MOk P w K mg base C 1 "__eq__" ["self", "other"] (spEqA K C)) (gLn : MOk P w K mg base C 1 "__len__" ["self"] (spLn K C)) (gStr : MOk P w K mg base C 1 "__str__" ["self"] (spStr K C)) (gRep : MOk P w K mg base C 1 "__repr__" ["self"] (spRep K C))
    (gStM : MOk P w K mg base C 1 "stairs" ["self"] (spSt K C)) (gSlM : MOk P w K mg base C 1 "slits" ["self"] (spSl K C)) (gN : NOkC CX0 P w K mg base C 7 "Card" ["self", "stairs", "slits"] [] (spCInit K C)) (gN1 : NOkC CX0 P w K mg base C 7 "Card" ["self", "stairs", "slits"] [.non] (spCInit K C))
    (M : Mk K C fN) (GN : FnOk P w K mg base CX0 7 fN fdN ["self", "stairs", "slits"] (spCInit K C)) (mC : mg "Card" = some (.ref C)) {gK : List Value → List Value → List Value} (bKN : KBinds K fdN ["self", "stairs", "slits"] ["slits", "stairs"] gK kVC)
    (hNE : PySem.W.findIn K (.ref C) "__ne__" = some (some (.builtin "object.__ne__"))) (nfS : ∀ T : String, T = "str" ∨ T = "list" ∨ T = "NoneType" ∨ T = "int" → PySem.W.notFirst K C (.type T) = true ∧ PySem.W.kitOne K (.type T) (.ref C) = some false)
    (T : Blt mg) (Tr : mg "repr" = none) : FnOk P w K mg base CX0 12 f fd ["_law_script"] (spLaw K) := by
  refine F.ok scLaw (fun vs H Q E h => ?_) (fun cdv A outer s H vs Q E hr h => ?_)
  · obtain ⟨a, ns, rfl, _⟩ := h
    rfl
  · obtain ⟨a0, ns, rfl, hS, hlen, kEnd⟩ := h
    have nd := scLaw.nd
    have hu64 := hr.units
    refine ⟨_, (pss_cons (ps_set (i := 1) nd rfl (Or.inl rfl) (pe_ok gBe hr (by rfl) (pa_cons (pv 0) pa_nil)))
      (pss_cons (ps_for PassesOwn.never rfl (pi_range1 (by rfl) T.range (pa_cons pe_int pa_nil)) (pg_name (i := 2) nd rfl (Or.inl rfl)) (pss_cons (ps_set (i := 3) nd rfl (Or.inl rfl) (pe_ok gMo hr (by rfl) (pa_cons (pv 1) (pa_cons pe_int (pa_cons pe_int pa_nil)))))
      (pss_cons (ps_set (i := 4) nd rfl (Or.inl rfl) (pe_ok gOt hr (by rfl) (pa_cons (pv 1) (pa_cons (pv 3) (pa_cons pe_int pa_nil)))))
      (pss_cons (ps_asg (pe_tup (pa_cons (pe_ok gLc hr (by rfl) (pa_cons (pv 3) pa_nil)) (pa_cons (pe_ok gLc hr (by rfl) (pa_cons (pv 4) pa_nil)) pa_nil))) (pg_tup (by rfl) (pgs_cons (pg_name (i := 5) nd rfl (Or.inr rfl)) (pgs_cons (pg_name (i := 6) nd rfl (Or.inl rfl)) pgs_nil))))
      (pss_cut (ps_set (i := 7) nd rfl (Or.inl rfl) (pe_and (pe_cmpR (by exact op_eqD hu64) (pe_ix ix_tup (pv 3) pe_int (fun _ _ => rfl)) (pe_ix ix_tup (pv 4) pe_int (fun _ _ => rfl)) (nomark _)) (pe_one (pe_cmpR (by exact op_eqD hu64) (pe_ix ix_tup (pv 3) pe_int (fun _ _ => rfl)) (pe_ix ix_tup (pv 4) pe_int (fun _ _ => rfl)) (nomark _)))))
      (pss_cons (ps_if (pt_not (pt_val (pe_ok gSa hr (by rfl) (pa_cons (pe_lst (pa_cons (pe_cmpR (op_eqM gEq hr) (pv 5) (pv 6) (nomark _)) (pa_cons (pe_cmpR (op_eqM gEq hr) (pv 6) (pv 5) (nomark _)) (pa_cons (pe_cmpR (op_neM hNE Z.hm gEq hr) (pv 5) (pv 6) (nomark _)) pa_nil)))) (pa_cons (pe_lst (pa_cons (pv 7) (pa_cons (pv 7) (pa_cons (pe_not (pv 7)) pa_nil)))) pa_nil))))) (pss_one (ps_ret pe_bl)) pss_nil)
      (pss_cons (ps_if (PW.pt (pw_or (pt_cmpR op_ne (pe_cmpR (op_inM gEq hr) (pv 5) (pe_lst (pa_cons (pv 6) pa_nil)) (by rfl)) (pv 7) (nomark _)) (pw_or (pt_not (pt_cmpR (op_eqM gEq hr) (pv 5) (pe_ok gLc hr (by rfl) (pa_cons (pv 3) pa_nil)) (nomark _))) (pw_or1 (pt_cmpR op_ne (pe_callB (call_lenM gLn hr) (by rfl) T.len PySem.boot_len (pa_cons (pv 5) pa_nil)) (pe_callB call_len_seq (by rfl) T.len PySem.boot_len (pa_cons (pe_ix ix_tup (pv 3) pe_int (fun _ _ => rfl)) pa_nil)) (nomark _)))))) (pss_one (ps_ret pe_bl)) pss_nil)
      (pss_cons (ps_if (pt_not (pt_val (pe_ok gSa hr (by rfl) (pa_cons (pe_callTy (call_strM gStr hr) (by rfl) T.str boot_str (pa_cons (pv 5) pa_nil)) (pa_cons (pe_ok gTx hr (by rfl) (pa_cons (pv 3) pa_nil)) pa_nil))))) (pss_one (ps_ret pe_bl)) pss_nil)
      (pss_cons (ps_if (pt_cmpR op_ne (pe_callB (call_reprM gRep hr) (by rfl) Tr (by decide +kernel) (pa_cons (pv 5) pa_nil)) (pe_op op_add_str (pe_op op_add_str (pe_op op_add_str (pe_op op_add_str pe_str (pe_callB (call_reprD hr.gd hu64) (by rfl) Tr (by decide +kernel) (pa_cons (pe_callTy call_list_of (by rfl) T.list boot_list (pa_cons (pe_ix ix_tup (pv 3) pe_int (fun _ _ => rfl)) pa_nil)) pa_nil))) pe_str) (pe_callB (call_reprD hr.gd hu64) (by rfl) Tr (by decide +kernel) (pa_cons (pe_callTy call_list_of (by rfl) T.list boot_list (pa_cons (pe_ix ix_tup (pv 3) pe_int (fun _ _ => rfl)) pa_nil)) pa_nil))) pe_str) (nomark _)) (pss_one (ps_ret pe_bl)) pss_nil)
      (pss_cut (ps_for PassesOwn.never rfl (pi_list (pe_op op_cat (pe_listRange hr.hd (by rfl) T.list (by rfl) T.range (pa_cons (pe_op op_sub pe_int pe_int) (pa_cons (pe_op op_add (pe_callB call_len_seq (by rfl) T.len PySem.boot_len (pa_cons (pe_ix ix_tup (pv 3) pe_int (fun _ _ => rfl)) pa_nil)) pe_int) pa_nil))) (pe_lst (pa_cons (pe_ok gFa hr (by rfl) (pa_cons (pv 1) pa_nil)) pa_nil)))) (pg_name (i := 8) nd rfl (Or.inl rfl)) (pss_cons (ps_set (i := 9) nd rfl (Or.inl rfl) (pe_ifExp (pt_chain op_le op_lt pe_int (pv 8) (pe_callB call_len_seq (by rfl) T.len PySem.boot_len (pa_cons (pe_ix ix_tup (pv 3) pe_int (fun _ _ => rfl)) pa_nil))) (pe_ix ix_list (pe_ix ix_tup (pv 3) pe_int (fun _ _ => rfl)) (pv 8) (fun _ _ => rfl)) (pe_lst (pa_cons pe_str (pa_cons pe_str pa_nil)))))
      (pss_one (ps_if (pt_not (pt_val (pe_ok gSa hr (by rfl) (pa_cons (pe_ok gAs hr (by rfl) (pa_cons (pv 5) (pa_cons (pv 8) pa_nil))) (pa_cons (pv 9) pa_nil))))) (pss_one (ps_ret pe_bl)) pss_nil))))
      (pss_cons (ps_if (pt_cmpR op_in_seq pe_bl (pe_lc (own := [("_law_odd", 10)]) (g := (gName 10)) (te := tOp (rEqX K C (spEqA K C) E0) (tVar 5) (tVar 10)) (by rfl) nd (pi_tup (pe_tup (pa_cons (pe_callTy (call_strM gStr hr) (by rfl) T.str boot_str (pa_cons (pv 5) pa_nil)) (pa_cons (pe_callB (call_reprM gRep hr) (by rfl) Tr (by decide +kernel) (pa_cons (pv 5) pa_nil)) (pa_cons (pe_ix ix_tup (pv 3) pe_int (fun _ _ => rfl)) (pa_cons (pe_ix ix_tup (pv 3) pe_int (fun _ _ => rfl)) (pa_cons pe_non (pa_cons pe_int pa_nil)))))))) (blkOk_by (own := [("_law_odd", 10)]) (N := nmLaw) (sc := defScope s_law) (by decide +kernel)) (fun _ _ _ _ _ => (pg_name (i := 10) nd rfl (Or.inl rfl))) (fun _ _ _ _ _ => pts_nil) (fun _ _ _ _ _ => (pe_cmpR (by exact op_eqXM gEq hr) (pv 5) (pv 10) (nomark _)))) (by rfl)) (pss_one (ps_ret pe_bl)) pss_nil)
      (pss_cons (ps_expr (pe_bm PySem.F.plainAttrs_list PySem.F.slot_list_append PySem.F.type_list_append mt_append (pe_mok0 gStM hr (pv 5)) (pa_cons pe_str pa_nil)))
      (pss_cons (ps_expr (pe_bm0 PySem.F.plainAttrs_list PySem.F.slot_list_clear PySem.F.type_list_clear mt_clear (pe_mok0 gSlM hr (pv 5))))
      (pss_cons (ps_if (pt_not (pt_val (pe_ok gSo hr (by rfl) (pa_cons (pv 5) (pa_cons (pv 3) pa_nil))))) (pss_one (ps_ret pe_bl)) pss_nil)
      (pss_cons (ps_set (i := 11) nd rfl (Or.inl rfl) (pe_nok gN1 hr (by rfl) (pa_cons (pe_callTy call_list_of (by rfl) T.list boot_list (pa_cons (pe_ix ix_tup (pv 3) pe_int (fun _ _ => rfl)) pa_nil)) pa_nil)))
      (pss_cons (ps_if (PW.pt (pw_or (pt_cmpR (by exact op_neD hu64) (pe_mok0 gSlM hr (pv 11)) (pe_lst pa_nil) (nomark _)) (pw_or1 (pt_not (pt_cmpR (op_eqM gEq hr) (pv 11) (pe_nok gN hr (by rfl) (pa_cons (pe_callTy call_list_of (by rfl) T.list boot_list (pa_cons (pe_ix ix_tup (pv 3) pe_int (fun _ _ => rfl)) pa_nil)) (pa_cons pe_non pa_nil))) (nomark _)))))) (pss_one (ps_ret pe_bl)) pss_nil)
      (pss_one (ps_if (pt_not (pt_cmpR (op_eqM gEq hr) (pv 11) (pe_makeK0 M GN (hr.mono (by decide)) (by rfl) mC bKN pass0 (pk_cons (pe_lst pa_nil) (pk_cons (pe_callTy call_list_of (by rfl) T.list boot_list (pa_cons (pe_ix ix_tup (pv 3) pe_int (fun _ _ => rfl)) pa_nil)) pk_nil))) (nomark _))) (pss_one (ps_ret pe_bl)) pss_nil))))))))))))))))))
      (pss_one (ps_ret pe_bl)))), ?_⟩
    refine ⟨_, rfl, a0, ns, rfl, hS, hlen, fun dr H1 D1 s1 => ?_⟩
    refine ⟨3, rfl, by decide, by decide, ?_⟩
    refine for_range (n := 3) (fun i σ H2 => ∃ v2 v3 v4 v5 v6 v7 v8 v9 v10 v11 : Option V, σ = [some (.ref a0), some (.ref dr), v2, v3, v4, v5, v6, v7, v8, v9, v10, v11] ∧ Draw H2 dr) ⟨none, none, none, none, none, none, none, none, none, none, rfl, D1⟩ ?_ ?_
    rotate_left
    · rintro σ H2 _
      exact kEnd _
    rintro i σ H2 hi ⟨v2, v3, v4, v5, v6, v7, v8, v9, v10, v11, rfl, D2⟩
    refine ⟨_, rfl, dr, 8, 8, rfl, D2, by decide, by decide, by decide, by decide, fun t a b H3 h d ls cs g1 g2 g3 V0 _ _ _ D3 _ => ?_⟩
    have hc := V0.c
    have n1 := hc.n1
    have n8 := hc.n8
    have n4 := V0.n4
    have hhd := hc.hd
    have m3 : ModelAt K H3 t ls cs := ⟨a, b, g1, g2, g3⟩
    refine ⟨_, rfl, _, rfl, dr, t, 8, h, d, ls, cs, rfl, D3, m3, V0, fun u H4 ms es o4 W0 D4 x4 => ?_⟩
    have m1 := W0.c.n1
    have m4 := m3.ext D3 x4 n1
    clear g1 g2 g3 m3
    refine ⟨_, rfl, t, h, d, ls, cs, rfl, m4, V0, fun x H5 s5 c5 n5 => ?_⟩
    refine ⟨_, rfl, u, h, d, ms, es, rfl, o4.keep s5, W0, fun y H6 s6 c6 n6 => ?_⟩
    have nxy : x ≠ y := fun z => by
      obtain ⟨dx, t1, t2, e⟩ := c5.seen
      rw [z, n6] at e
      cases e
    have w6 : Tw K C H6 dr t u x y ls cs ms es := ⟨D4.keep (s5.trans s6), m4.keep (s5.trans s6), o4.keep (s5.trans s6), c5.keep s6, c6⟩
    refine ⟨(by show 2 ≤ sizeLine; decide), fun p hp => ?_⟩
    have s7 : Same H6 (upd H6 p (.tup [.ref x, .ref y])) := (Same.refl H6).new' hp
    have gp : (upd H6 p (.tup [.ref x, .ref y])) p = some (.tup [.ref x, .ref y]) := upd_same
    have w7 := w6.keep s7
    generalize upd H6 p (.tup [.ref x, .ref y]) = H7 at s7 gp w7
    refine ⟨p, _, rfl, SqT.of gp, rfl, _, _, rfl, _, _, rfl, rfl, ?_⟩
    clear w6 m4 o4 c5 c6 s5 s6 s7 gp
    -- alike
    refine ⟨fun σ H => σ = [some (.ref a0), some (.ref dr), some (.int (0 + (i : Nat))), some (.ref t), some (.ref u), some (.ref x), some (.ref y), some (.bl (decide (ls = ms ∧ cs = es))), v8, v9, v10, v11] ∧ Tw K C H dr t u x y ls cs ms es, ?_, ?_⟩
    · obtain ⟨a, b, g1, g2, xs, g3, g4⟩ := w7.m
      obtain ⟨a', b', k1, k2, ys, k3, k4⟩ := w7.o
      refine ⟨_, rfl, t, _, 0, .ref a, rfl, rfl, SqT.of g1, rfl, _, rfl, u, _, 0, .ref a', rfl, rfl, SqT.of k1, rfl, .list (ls.map dS), .list (ms.map dS), .lst (SqL.of g2) (strs_dp ls), .lst (SqL.of k2) (strs_dp ms), sh_lsL ls, sh_lsL ms, _, rfl, ?_⟩
      rw [show PyData.eqv (.list (ls.map dS)) (.list (ms.map dS)) = decide (ls = ms) from eqv_map dS eqv_dS ls ms]
      by_cases h1 : ls = ms
      · rw [decide_eq_true h1]
        refine iteT ⟨_, rfl, t, _, 1, .ref b, rfl, rfl, SqT.of g1, rfl, _, rfl, u, _, 1, .ref b', rfl, rfl, SqT.of k1, rfl, .list (cs.map dC), .list (es.map dC), .lst (SqL.of g3) (Prs.dp g4), .lst (SqL.of k3) (Prs.dp k4), sh_csL cs, sh_csL es, ?_⟩
        rw [show PyData.eqv (.list (cs.map dC)) (.list (es.map dC)) = decide (cs = es) from eqv_map dC eqv_dC cs es]
        rw [show decide (cs = es) = decide (ls = ms ∧ cs = es) by rw [decide_eq_decide]; exact ⟨fun h => ⟨h1, h⟩, fun h => h.2⟩]
        exact ⟨rfl, w7⟩
      · rw [decide_eq_false h1]
        refine iteF ?_
        rw [decide_eq_false fun h => h1 h.1]
        exact ⟨rfl, w7⟩
    clear w7
    rintro σ H8 ⟨rfl, w8⟩
    generalize hAL : decide (ls = ms ∧ cs = es) = AL
    have hAL' : decide (ms = ls ∧ es = cs) = AL := by rw [← hAL, decide_eq_decide]; exact ⟨fun q => ⟨q.1.symm, q.2.symm⟩, fun q => ⟨q.1.symm, q.2.symm⟩⟩
    obtain ⟨dx, t1, t2, ex⟩ := w8.c.seen
    obtain ⟨dy, u1, u2, ey⟩ := w8.e.seen
    -- ==, ==, !=
    refine ⟨_, rfl, _, rfl, x, y, dx, _, dy, _, rfl, rfl, ex, ey, .inl ⟨x, y, ls, ms, cs, es, rfl, w8.c, w8.e, _, rfl, ?_⟩⟩
    refine ⟨_, rfl, _, rfl, y, x, dy, _, dx, _, rfl, rfl, ey, ex, .inl ⟨y, x, ms, ls, es, cs, rfl, w8.e, w8.c, _, rfl, ?_⟩⟩
    refine ⟨_, rfl, _, rfl, x, y, dx, _, dy, _, rfl, rfl, ex, ey, .inl ⟨x, y, ls, ms, cs, es, rfl, w8.c, w8.e, _, rfl, ?_⟩⟩
    rw [hAL, hAL']
    refine ⟨(by show 3 ≤ sizeLine; decide), fun q1 hq1 => ?_⟩
    have s9 : Same H8 (upd H8 q1 (.lst [.bl AL, .bl AL, .bl (!AL)])) := (Same.refl H8).new' hq1
    have g9 : (upd H8 q1 (.lst [.bl AL, .bl AL, .bl (!AL)])) q1 = some (.lst [.bl AL, .bl AL, .bl (!AL)]) := upd_same
    generalize upd H8 q1 (.lst [.bl AL, .bl AL, .bl (!AL)]) = H9 at s9 g9
    refine ⟨_, rfl, _, rfl, _, rfl, AL, rfl, (by show 3 ≤ sizeLine; decide), fun q2 hq2 => ?_⟩
    have s10 : Same H9 (upd H9 q2 (.lst [.bl AL, .bl AL, .bl (!AL)])) := (Same.refl H9).new' hq2
    refine ⟨_, _, rfl, alikeL3 (s10 _ _ g9) upd_same rfl rfl rfl, fun HD sD => ⟨_, rfl, iteF ?_⟩⟩
    have w9 := w8.keep ((s9.trans s10).trans sD)
    clear w8 s9 s10 sD g9 ex ey
    obtain ⟨dx, t1, t2, ex⟩ := w9.c.seen
    obtain ⟨dy, u1, u2, ey⟩ := w9.e.seen
    -- in
    refine ⟨_, rfl, _, rfl, (by show 1 ≤ sizeLine; decide), fun q3 hq3 => ?_⟩
    have s11 : Same HD (upd HD q3 (.lst [.ref y])) := (Same.refl HD).new' hq3
    have g11 : (upd HD q3 (.lst [.ref y])) q3 = some (.lst [.ref y]) := upd_same
    have w11 := w9.keep s11
    generalize upd HD q3 (.lst [.ref y]) = H11 at s11 g11 w11
    refine ⟨x, y, q3, dx, _, dy, _, rfl, rfl, g11, nxy, s11 _ _ ex, s11 _ _ ey, .inl ⟨y, x, ms, ls, es, cs, rfl, w11.e, w11.c, _, rfl, g11, ?_⟩⟩
    rw [hAL']
    refine ⟨_, rfl, rfl, _, rfl, ?_⟩
    rw [decide_eq_true rfl]
    refine iteF ?_
    -- == a card of the same model
    refine ⟨_, rfl, _, rfl, t, h, d, ls, cs, rfl, w11.m, V0, fun z H12 s12 cz _ => ?_⟩
    obtain ⟨dz, z1, z2, ez⟩ := cz.seen
    have w12 := w11.keep s12
    refine ⟨x, z, dx, _, dz, _, rfl, rfl, s12 _ _ (s11 _ _ ex), ez, .inl ⟨x, z, ls, ls, cs, cs, rfl, w12.c, cz, _, rfl, ?_⟩⟩
    rw [decide_eq_true ⟨rfl, rfl⟩]
    refine ⟨_, rfl, iteF ?_⟩
    -- len
    obtain ⟨a, b, g1, g2, xs, g3, g4⟩ := id w12.m
    refine ⟨_, rfl, x, dx, _, rfl, s12 _ _ (s11 _ _ ex), x, ls, cs, rfl, w12.c, ls.length, rfl, by omega, _, rfl, t, _, 0, .ref a, rfl, rfl, SqT.of g1, rfl, a, _, rfl, .inl (SqL.of g2), ?_⟩
    rw [List.length_map]
    refine ⟨rfl, _, rfl, ?_⟩
    rw [decide_eq_true rfl]
    refine iteF ?_
    clear w9 w11 ez cz ey s11 g11 s12 g1 g2 g3 g4 ex
    -- str
    obtain ⟨dx, t1, t2, ex⟩ := w12.c.seen
    refine ⟨_, rfl, x, dx, _, rfl, ex, x, h, d, ls, cs, rfl, w12.c, V0, fun H13 s13 => ⟨_, rfl, ?_⟩⟩
    refine ⟨_, rfl, t, h, d, ls, cs, rfl, w12.m.keep s13, V0, fun H14 s14 => ?_⟩
    refine ⟨_, _, rfl, Alike.flat rfl, fun HE sE => ⟨_, rfl, iteF ?_⟩⟩
    have w14 := w12.keep ((s13.trans s14).trans sE)
    clear w12 s13 s14 sE ex
    -- repr
    obtain ⟨dx, t1, t2, ex⟩ := w14.c.seen
    refine ⟨_, rfl, x, dx, _, rfl, ex, x, h, d, ls, cs, rfl, w14.c, V0, fun H15 s15 => ⟨_, rfl, ?_⟩⟩
    have w15 := w14.keep s15
    have sh1 := shows_l hc
    have sh2 := shows_c V0
    have q1 := sh1.l
    have q2 := sh2.l
    have c1 : ("Card(" : Str).length = 5 := by decide +kernel
    have c2 : (", " : Str).length = 2 := by decide +kernel
    have c3 : (")" : Str).length = 1 := by decide +kernel
    have hb : (25000 : Nat) ≤ sizeLine := by decide
    obtain ⟨a, b, g1, g2, xs, g3, g4⟩ := id w15.m
    refine ⟨_, rfl, t, _, 0, .ref a, rfl, rfl, SqT.of g1, rfl, a, _, rfl, .inl (SqL.of g2), fun l1 hl1 => ?_⟩
    have s16 : Same H15 (upd H15 l1 (.lst (ls.map vS))) := (Same.refl H15).new' hl1
    refine ⟨l1, dLs ls, rfl, .lst (SqL.of upd_same) (strs_dp ls), sh1.s, sh1.n, sh1.d60, Nat.le_trans q1 (by omega), _, _, rfl, rfl, by omega, ?_⟩
    refine ⟨_, _, rfl, rfl, by rw [len_app]; omega, ?_⟩
    generalize upd H15 l1 (.lst (ls.map vS)) = H16 at s16
    refine ⟨_, rfl, t, _, 1, .ref b, rfl, rfl, SqT.of (s16 _ _ g1), rfl, b, _, rfl, .inl (SqL.of (s16 _ _ g3)), fun l2 hl2 => ?_⟩
    have s17 : Same H16 (upd H16 l2 (.lst xs)) := (Same.refl H16).new' hl2
    refine ⟨l2, dCs cs, rfl, .lst (SqL.of upd_same) (Prs.dp (Prs.keep (s16.trans s17) g4)), sh2.s, sh2.n, sh2.d60, Nat.le_trans q2 (by omega), _, _, rfl, rfl, by rw [len_app, len_app]; omega, ?_⟩
    generalize upd H16 l2 (.lst xs) = H17 at s17
    refine ⟨_, _, rfl, rfl, by rw [len_app, len_app, len_app]; omega, rfl, _, rfl, ?_⟩
    unfold reprC
    rw [decide_eq_true rfl]
    refine iteF ?_
    have w17 := w15.keep (s16.trans s17)
    clear w14 w15 s15 s16 s17 g1 g2 g3 g4 ex
    -- the columns
    refine ⟨fun σ H => ∃ v8 v9 : Option V, σ = [some (.ref a0), some (.ref dr), some (.int (0 + (i : Nat))), some (.ref t), some (.ref u), some (.ref x), some (.ref y), some (.bl AL), v8, v9, v10, v11] ∧ Tw K C H dr t u x y ls cs ms es, ?_, ?_⟩
    · obtain ⟨a, b, g1, g2, g3⟩ := id w17.m
      refine ⟨_, _, rfl, rfl, _, rfl, t, _, 0, .ref a, rfl, rfl, SqT.of g1, rfl, a, _, rfl, .inl (SqL.of g2), _, _, rfl, rfl, ?_⟩
      rw [List.length_map]
      refine ⟨_, _, rfl, ⟨by decide, by decide, by omega, by omega⟩, by omega, fun l1 hl1 => ?_⟩
      generalize hR : ((List.range (((ls.length : Nat) : Int) + 1 - (0 - 1)).toNat).map fun k => V.int (0 - 1 + (k : Nat))) = R
      have hRi : ∀ v ∈ R, ∃ c : Int, v = .int c := by
        intro v hv
        rw [← hR] at hv
        obtain ⟨k, _, rfl⟩ := List.mem_map.mp hv
        exact ⟨_, rfl⟩
      have hRl : R.length ≤ 20 := by rw [← hR, List.length_map, List.length_range]; omega
      clear hR
      have s18 : Same H17 (upd H17 l1 (.lst R)) := (Same.refl H17).new' hl1
      have gl1 : (upd H17 l1 (.lst R)) l1 = some (.lst R) := upd_same
      have w18 := w17.keep s18
      have nl1 : l1 ≠ dr := fun z => by
        obtain ⟨ys, e⟩ := w17.D.lst
        rw [z, e] at hl1
        cases hl1
      generalize upd H17 l1 (.lst R) = H18 at s18 gl1 w18
      refine ⟨_, rfl, dr, rfl, w18.D, fun r H19 D19 b19 => ⟨(by show 1 ≤ sizeLine; decide), fun q hq => ?_⟩⟩
      have w19 := w18.ext D19 (Ext.but b19) n1 m1
      have gl2 := (b19 _ nl1).trans gl1
      have s20 : Same H19 (upd H19 q (.lst [.int r])) := (Same.refl H19).new' hq
      refine ⟨l1, q, _, _, rfl, rfl, s20 _ _ gl2, upd_same, small_line' (by show R.length + 1 ≤ 1000; omega), fun L hL => ?_⟩
      have w20 := w19.keep s20
      generalize upd H19 q (.lst [.int r]) = H20 at s20 hL w20
      have s21 : Same H20 (upd H20 L (.lst (R ++ [.int r]))) := (Same.refl H20).new' hL
      have gL : (upd H20 L (.lst (R ++ [.int r]))) L = some (.lst (R ++ [.int r])) := upd_same
      have w21 := w20.keep s21
      generalize upd H20 L (.lst (R ++ [.int r])) = H21 at s21 gL w21
      refine ⟨L, rfl, ⟨_, SqL.of gL⟩, for_list (K := K) (a := L) (xs := R ++ [.int r]) (fun j σ H => ∃ v8 v9 : Option V, σ = [some (.ref a0), some (.ref dr), some (.int (0 + (i : Nat))), some (.ref t), some (.ref u), some (.ref x), some (.ref y), some (.bl AL), v8, v9, v10, v11] ∧ Same H21 H) ⟨_, _, rfl, Same.refl _⟩ (fun j σ H _ ⟨_, _, _, s⟩ => SqL.of (s _ _ gL)) ?_ (fun σ H ⟨v8, v9, e, s⟩ => ⟨v8, v9, e, w21.keep s⟩)⟩
      rintro j v σ H22 hv ⟨v8', v9', rfl, s22⟩
      obtain ⟨c, rfl⟩ : ∃ c : Int, v = .int c := by
        rcases List.mem_append.mp (List.mem_of_getElem? hv) with m | m
        · exact hRi _ m
        · exact ⟨r, List.mem_singleton.mp m⟩
      have w22 := w21.keep s22
      obtain ⟨a, b, g1, g2, g3⟩ := id w22.m
      by_cases hcol : 0 ≤ c ∧ c < (ls.length : Int)
      · obtain ⟨n, rfl⟩ := Int.eq_ofNat_of_zero_le hcol.1
        have hnl : n < ls.length := by omega
        obtain ⟨l, hl⟩ : ∃ l, ls[n]? = some l := ⟨_, List.getElem?_eq_getElem hnl⟩
        refine ⟨_, rfl, _, _, rfl, rfl, _, rfl, ?_⟩
        rw [decide_eq_true (by omega)]
        refine iteT ⟨_, rfl, t, _, 0, _, rfl, rfl, SqT.of g1, rfl, a, _, rfl, .inl (SqL.of g2), _, _, rfl, rfl, _, rfl, ?_⟩
        rw [List.length_map, decide_eq_true (by omega)]
        refine iteT ?_
        refine ⟨_, rfl, t, _, 0, _, rfl, rfl, SqT.of g1, rfl, _, rfl, a, _, _, vS l, rfl, rfl, SqL.of g2, atI_nat (by rw [List.getElem?_map, hl]; rfl), ?_⟩
        refine ⟨_, rfl, _, rfl, x, h, d, ls, cs, _, rfl, w22.c, V0, .inl ⟨n, l, rfl, hl, ?_⟩⟩
        exact ⟨_, rfl, _, _, rfl, Alike.flat rfl, fun HF sF => ⟨_, rfl, iteF ⟨_, _, rfl, s22.trans sF⟩⟩⟩
      · have hbad : c < 0 ∨ (ls.length : Int) ≤ c := by omega
        have fin : ∀ (q : Addr), H22 q = none → ∀ (D : Ends), True := fun _ _ _ => trivial
        clear fin
        refine ⟨_, rfl, _, _, rfl, rfl, _, rfl, ite2 (fun h1 => ?_) (fun h1 => ?_)⟩
        · have h1 := of_decide_eq_true h1
          refine ⟨_, rfl, t, _, 0, _, rfl, rfl, SqT.of g1, rfl, a, _, rfl, .inl (SqL.of g2), _, _, rfl, rfl, _, rfl, ?_⟩
          rw [List.length_map, decide_eq_false (by omega)]
          refine iteF ⟨(by show 2 ≤ sizeLine; decide), fun q hq => ?_⟩
          have sq : Same H22 (upd H22 q (.lst (noL "NoColumn"))) := (Same.refl H22).new' hq
          have gq : (upd H22 q (.lst (noL "NoColumn"))) q = some (.lst (noL "NoColumn")) := upd_same
          refine ⟨_, rfl, _, rfl, x, h, d, ls, cs, _, rfl, w22.c.keep sq, V0, .inr ⟨hbad, fun z HF sF hz => ?_⟩⟩
          exact ⟨_, rfl, _, _, rfl, alikeNo2 hz (sF _ _ gq) rfl rfl, fun HG sG => ⟨_, rfl, iteF ⟨_, _, rfl, ((s22.trans sq).trans sF).trans sG⟩⟩⟩
        · refine ⟨_, rfl, iteF ⟨(by show 2 ≤ sizeLine; decide), fun q hq => ?_⟩⟩
          have sq : Same H22 (upd H22 q (.lst (noL "NoColumn"))) := (Same.refl H22).new' hq
          have gq : (upd H22 q (.lst (noL "NoColumn"))) q = some (.lst (noL "NoColumn")) := upd_same
          refine ⟨_, rfl, _, rfl, x, h, d, ls, cs, _, rfl, w22.c.keep sq, V0, .inr ⟨hbad, fun z HF sF hz => ?_⟩⟩
          exact ⟨_, rfl, _, _, rfl, alikeNo2 hz (sF _ _ gq) rfl rfl, fun HG sG => ⟨_, rfl, iteF ⟨_, _, rfl, ((s22.trans sq).trans sF).trans sG⟩⟩⟩
    clear w17
    rintro σ H23 ⟨v8', v9', rfl, w23⟩
    -- unlike other things
    obtain ⟨dx, t1, t2, ex⟩ := w23.c.seen
    refine ⟨_, rfl, x, dx, _, rfl, ex, x, h, d, ls, cs, rfl, w23.c, V0, fun H24 s24 => ⟨_, rfl, ?_⟩⟩
    refine ⟨_, rfl, x, dx, _, rfl, s24 _ _ ex, x, h, d, ls, cs, rfl, w23.c.keep s24, V0, fun H25 s25 => ⟨_, rfl, ?_⟩⟩
    have w25 := w23.keep (s24.trans s25)
    have ex5 := s25 _ _ (s24 _ _ ex)
    obtain ⟨a, b, g1, g2, xs, g3, g4⟩ := id w25.m
    refine ⟨_, rfl, t, _, 0, .ref a, rfl, rfl, SqT.of g1, rfl, _, rfl, t, _, 1, .ref b, rfl, rfl, SqT.of g1, rfl, (by show 6 ≤ sizeLine; decide), fun tp htp => ?_⟩
    have s26 : Same H25 (upd H25 tp (.tup [.str (txtC ls cs), .str (reprC ls cs), .ref a, .ref b, .non, .int 0])) := (Same.refl H25).new' htp
    have gtp : (upd H25 tp (.tup [.str (txtC ls cs), .str (reprC ls cs), .ref a, .ref b, .non, .int 0])) tp = some (.tup [.str (txtC ls cs), .str (reprC ls cs), .ref a, .ref b, .non, .int 0]) := upd_same
    have w26 := w25.keep s26
    generalize upd H25 tp (.tup [.str (txtC ls cs), .str (reprC ls cs), .ref a, .ref b, .non, .int 0]) = H26 at s26 gtp w26
    refine ⟨tp, rfl, ⟨_, SqT.of gtp⟩, fun DD hDD => ?_⟩
    refine lc_tup (K := K) (a := tp) (xs := [.str (txtC ls cs), .str (reprC ls cs), .ref a, .ref b, .non, .int 0]) (fun k H3 => H3 DD = some (.lst (List.replicate k (.bl false))) ∧ Same H26 H3) ⟨upd_same, (Same.refl H26).new' hDD⟩ (fun k H3 _ ⟨_, s3⟩ => SqT.of (s3 _ _ gtp)) ?_ ?_
    · rintro k v H27 hv ⟨hD7, s27⟩
      have hk : k < 6 := (List.getElem?_eq_some_iff.mp hv).1
      have tyv : ∃ ty : String, (ty = "str" ∨ ty = "list" ∨ ty = "NoneType" ∨ ty = "int") ∧ TyOf K H27 v (.type ty) := by
        match k, hv with
        | 0, hv => cases hv; exact ⟨"str", .inl rfl, .str _⟩
        | 1, hv => cases hv; exact ⟨"str", .inl rfl, .str _⟩
        | 2, hv => cases hv; exact ⟨"list", .inr (.inl rfl), .lst (s27 _ _ (s26 _ _ g2))⟩
        | 3, hv => cases hv; exact ⟨"list", .inr (.inl rfl), .lst (s27 _ _ (s26 _ _ g3))⟩
        | 4, hv => cases hv; exact ⟨"NoneType", .inr (.inr (.inl rfl)), .non⟩
        | 5, hv => cases hv; exact ⟨"int", .inr (.inr (.inr rfl)), .int _⟩
        | k + 6, hv => omega
      obtain ⟨ty, hty, tyo⟩ := tyv
      obtain ⟨nf, kf⟩ := nfS ty hty
      refine ⟨rfl, ?_⟩
      unfold tYes
      dsimp only
      rw [if_pos rfl]
      refine ⟨_, rfl, _, rfl, x, dx, _, rfl, s27 _ _ (s26 _ _ ex5), ⟨_, tyo, (fun a z => nomatch z), nf⟩, .inr ⟨x, v, _, ls, cs, rfl, w26.c.keep s27, tyo, kf, _, rfl, ?_⟩⟩
      refine ⟨_, hD7, by rw [List.length_replicate]; exact small1000 (by omega), ?_, s27.turn hDD⟩
      rw [upd_same, List.replicate_succ']
    rintro H28 ⟨hD8, s28⟩
    refine ⟨DD, _, rfl, .inl (SqL.of hD8), rfl, rfl, _, rfl, iteF ?_⟩
    have w28 := w26.keep s28
    clear w23 w25 w26 s24 s25 s26 s28 ex ex5 g1 g2 g3 g4 gtp hD8
    -- the told lists
    obtain ⟨dx, t1, t2, ex⟩ := w28.c.seen
    refine ⟨_, rfl, x, dx, _, rfl, ex, rfl, x, ls, cs, rfl, w28.c, fun l1 H29 s29 hl1 hn1 => ?_⟩
    refine ⟨.inl ⟨rfl, _, SqL.of hl1⟩, l1, _, _, rfl, rfl, hl1, by rw [List.length_map]; exact small1000 (by omega), ?_⟩
    have s30 := s29.turn (o := .lst (ls.map vS ++ [.str "w"])) hn1
    generalize upd H29 l1 (.lst (ls.map vS ++ [.str "w"])) = H30 at s30
    have w30 := w28.keep s30
    refine ⟨_, rfl, x, dx, _, rfl, s30 _ _ ex, rfl, x, ls, cs, rfl, w30.c, fun l2 H31 s31 hl2 hn2 => ?_⟩
    obtain ⟨ys, hy1, hy2⟩ := hl2
    refine ⟨.inl ⟨rfl, _, SqL.of hy1⟩, l2, _, rfl, rfl, hy1, ?_⟩
    have s32 := s31.turn (o := .lst []) hn2
    generalize upd H31 l2 (.lst []) = H32 at s32
    have w32 := w30.keep s32
    refine ⟨_, rfl, _, rfl, x, t, h, d, ls, cs, rfl, w32.c, w32.m, V0, fun H33 s33 => ⟨_, rfl, iteF ?_⟩⟩
    have w33 := w32.keep s33
    clear w28 w30 w32 s29 s30 s31 s32 s33 ex hl1 hy1 hy2
    -- bare ones
    have bare : ∀ {H : Hp} {z dz l : Addr} {v : V} {W : VK}, H z = none → H dz = none → dz ≠ z → H l = some (.lst (ls.map vS)) → SlitArg K H v [] → (∀ H' : Hp, Same H H' → CardAt K C H' z ls [] → W .non H') →
        spCInit K C [.ref z, .ref l, v] (upd (upd H dz (.own z)) z (.ins C dz [])) W E0 := fun {H z dz l v W} hz hdz ne hl hs k => by
      refine card_new hz hdz ne (SqL.of hl) hc hs List.nodup_nil (Nat.zero_le _) (fun c m => nomatch m) fun H' cs' s' card pm V1 => ?_
      have e := pm.eq_nil
      subst e
      exact k H' s' card
    have V00 : CardV h d ls [] := ⟨hc, (fun c m => nomatch m), List.nodup_nil, Nat.zero_le _, List.Pairwise.nil⟩
    obtain ⟨a, b, g1, g2, g3⟩ := id w33.m
    refine ⟨_, rfl, t, _, 0, .ref a, rfl, rfl, SqT.of g1, rfl, a, _, rfl, .inl (SqL.of g2), fun l3 hl3 => ?_⟩
    have s34 : Same H33 (upd H33 l3 (.lst (ls.map vS))) := (Same.refl H33).new' hl3
    have g34 : (upd H33 l3 (.lst (ls.map vS))) l3 = some (.lst (ls.map vS)) := upd_same
    have w34 := w33.keep s34
    generalize upd H33 l3 (.lst (ls.map vS)) = H34 at s34 g34 w34
    refine fun z dz hz hdz ne => bare hz hdz ne g34 (.inl ⟨rfl, rfl⟩) fun H35 s35 cz => ⟨rfl, ?_⟩
    have w35 := w34.keep s35
    clear w33 w34 s34 s35 g34 g1 g2 g3
    obtain ⟨dz', z1, z2, ez⟩ := cz.seen
    refine ⟨_, rfl, z, dz', _, rfl, ez, rfl, z, ls, [], rfl, cz, fun l4 H36 s36 hl4 _ => ?_⟩
    obtain ⟨ys, hy1, hy2⟩ := hl4
    cases hy2
    refine ⟨(Nat.zero_le _), fun q4 hq4 => ?_⟩
    have s37 : Same H36 (upd H36 q4 (.lst [])) := (Same.refl H36).new' hq4
    have g37 : (upd H36 q4 (.lst [])) q4 = some (.lst []) := upd_same
    generalize upd H36 q4 (.lst []) = H37 at s37 g37
    have w37 := w35.keep (s36.trans s37)
    have cz7 := cz.keep (s36.trans s37)
    refine ⟨.list [], .list [], .lst (SqL.of (s37 _ _ hy1)) .nil, .lst (SqL.of g37) .nil, rfl, rfl, _, rfl, iteF ?_⟩
    clear w35 cz ez s36 s37 hy1 g37
    obtain ⟨dz', z1, z2, ez⟩ := cz7.seen
    obtain ⟨a, b, g1, g2, g3⟩ := id w37.m
    refine ⟨_, rfl, _, rfl, t, _, 0, .ref a, rfl, rfl, SqT.of g1, rfl, a, _, rfl, .inl (SqL.of g2), fun l5 hl5 => ?_⟩
    have s38 : Same H37 (upd H37 l5 (.lst (ls.map vS))) := (Same.refl H37).new' hl5
    have g38 : (upd H37 l5 (.lst (ls.map vS))) l5 = some (.lst (ls.map vS)) := upd_same
    generalize upd H37 l5 (.lst (ls.map vS)) = H38 at s38 g38
    refine fun z3 dz3 hz3 hdz3 ne3 => bare hz3 hdz3 ne3 g38 (.inl ⟨rfl, rfl⟩) fun H39 s39 cz3 => ⟨rfl, ?_⟩
    have sA := s38.trans s39
    obtain ⟨dw, w1, w2, ew⟩ := cz3.seen
    refine ⟨z, z3, dz', _, dw, _, rfl, rfl, sA _ _ ez, ew, .inl ⟨z, z3, ls, ls, [], [], rfl, cz7.keep sA, cz3, _, rfl, ?_⟩⟩
    rw [decide_eq_true ⟨rfl, rfl⟩]
    refine ⟨_, rfl, iteF ?_⟩
    have w39 := w37.keep sA
    have cz9 := cz7.keep sA
    clear w37 cz7 ez cz3 ew sA s38 s39 g38 g1 g2 g3
    obtain ⟨dz', z1, z2, ez⟩ := cz9.seen
    obtain ⟨a, b, g1, g2, g3⟩ := id w39.m
    refine ⟨_, rfl, (Nat.zero_le _), fun q6 hq6 => ?_⟩
    have s40 : Same H39 (upd H39 q6 (.lst [])) := (Same.refl H39).new' hq6
    have g40 : (upd H39 q6 (.lst [])) q6 = some (.lst []) := upd_same
    generalize upd H39 q6 (.lst []) = H40 at s40 g40
    refine ⟨_, rfl, t, _, 0, .ref a, rfl, rfl, SqT.of (s40 _ _ g1), rfl, a, _, rfl, .inl (SqL.of (s40 _ _ g2)), fun l7 hl7 => ?_⟩
    have s41 : Same H40 (upd H40 l7 (.lst (ls.map vS))) := (Same.refl H40).new' hl7
    have g41 : (upd H40 l7 (.lst (ls.map vS))) l7 = some (.lst (ls.map vS)) := upd_same
    generalize upd H40 l7 (.lst (ls.map vS)) = H41 at s41 g41
    refine fun z3 dz3 hz3 hdz3 ne3 => bare hz3 hdz3 ne3 g41 (SlitArg.lst (SqL.of (s41 _ _ g40)) .nil) fun H42 s42 cz3 => ⟨rfl, ?_⟩
    have sA := (s40.trans s41).trans s42
    obtain ⟨dw, w1, w2, ew⟩ := cz3.seen
    refine ⟨z, z3, dz', _, dw, _, rfl, rfl, sA _ _ ez, ew, .inl ⟨z, z3, ls, ls, [], [], rfl, cz9.keep sA, cz3, _, rfl, ?_⟩⟩
    rw [decide_eq_true ⟨rfl, rfl⟩]
    refine ⟨_, rfl, iteF ?_⟩
    exact ⟨_, _, _, _, _, _, _, _, _, _, rfl, (w39.keep sA).D⟩

end
end Toy

end
section
set_option maxHeartbeats 4000000
namespace Toy
open PySem L2
theorem kit_at {cs : List Addr} {f : Addr → Option Bool} {g : Nat → Option Bool} {n : Nat} (h : cs.map f = (List.range n).map g) (i : Nat) (hi : i < n) : f (cs.getD i 0) = g i := by
  have hl : cs.length = n := by
    have := congrArg List.length h
    simpa using this
  have e := congrArg (fun l => l[i]?) h
  simp only [List.getElem?_map, List.getElem?_range hi, List.getElem?_eq_getElem (show i < cs.length by omega), Option.map_some] at e
  rw [List.getD_eq_getElem?_getD, List.getElem?_eq_getElem (show i < cs.length by omega)]
  exact Option.some.inj e
theorem all_mk {l : PySem.W.OpenLaw} {w : World} {K : PySem.W.Frag} {h : Heap} {mg : Str → Option Value} {fa fbegin ftake fof fsize fstair fsidesL fcol fmeets fmeeting fsts fsome fmodel flcard fsame ffar fso fset fmirl foth ftx fkind fasked fL fisst fissz fchk fsides fcsz fmeet fwid fckw fcc fhas ffall fcs fpl Tpl xK fin Tin fmst fmsl fmcs fmeq fmln fmstr fmrep x0 x1 x2 x3 x4 x5 x6 x7 x8 x9 x10 x11 x12 x13 x14 x15 x16 x17 x18 x19 x20 x21 x22 xC xR : Addr} (X : K.In h) (G : h.Ns mainGlobals mg) (hfa : mg "law" = some (.ref fa)) {odbegin anbegin odtake antake odof anof odsize ansize odstair anstair odsidesL ansidesL odcol ancol odmeets anmeets odmeeting anmeeting odsts ansts odsome ansome odmodel anmodel odlcard anlcard odsame ansame odfar anfar odso anso odset anset odmirl anmirl odoth anoth odtx antx odkind ankind odasked anasked odL anL odisst anisst odissz anissz odchk anchk odsides ansides odcsz ancsz odmeet anmeet odwid anwid odckw anckw odcc ancc odhas anhas odfall anfall odcs ancs odpl anpl d2pl odin anin d2in odmst anmst odmsl anmsl odmcs anmcs odmeq anmeq odmln anmln odmstr anmstr odmrep anmrep : Option Addr} {slbegin sltake slof slsize slstair slsidesL slcol slmeets slmeeting slsts slsome slmodel sllcard slsame slfar slso slset slmirl sloth sltx slkind slasked slL slisst slissz slchk slsides slcsz slmeet slwid slckw slcc slhas slfall slcs slpl s2pl slin s2in slmst slmsl slmcs slmeq slmln slmstr slmrep : Array (Option Value)} {ocbegin kVbegin dcbegin pmbegin cdbegin ctbegin octake kVtake dctake pmtake cdtake cttake ocof kVof dcof pmof cdof ctof ocsize kVsize dcsize pmsize cdsize ctsize ocstair kVstair dcstair pmstair cdstair ctstair ocsidesL kVsidesL dcsidesL pmsidesL cdsidesL ctsidesL occol kVcol dccol pmcol cdcol ctcol ocmeets kVmeets dcmeets pmmeets cdmeets ctmeets ocmeeting kVmeeting dcmeeting pmmeeting cdmeeting ctmeeting ocsts kVsts dcsts pmsts cdsts ctsts ocsome kVsome dcsome pmsome cdsome ctsome ocmodel kVmodel dcmodel pmmodel cdmodel ctmodel oclcard kVlcard dclcard pmlcard cdlcard ctlcard ocsame kVsame dcsame pmsame cdsame ctsame ocfar kVfar dcfar pmfar cdfar ctfar ocso kVso dcso pmso cdso ctso ocset kVset dcset pmset cdset ctset ocmirl kVmirl dcmirl pmmirl cdmirl ctmirl ocoth kVoth dcoth pmoth cdoth ctoth octx kVtx dctx pmtx cdtx cttx ockind kVkind dckind pmkind cdkind ctkind ocasked kVasked dcasked pmasked cdasked ctasked ocL kVL dcL pmL cdL ctL ocisst kVisst dcisst pmisst cdisst ctisst ocissz kVissz dcissz pmissz cdissz ctissz occhk kVchk dcchk pmchk cdchk ctchk ocsides kVsides dcsides pmsides cdsides ctsides occsz kVcsz dccsz pmcsz cdcsz ctcsz ocmeet kVmeet dcmeet pmmeet cdmeet ctmeet ocwid kVwid dcwid pmwid cdwid ctwid occkw kVckw dcckw pmckw cdckw ctckw occc kVcc dccc pmcc cdcc ctcc ochas kVhas dchas pmhas cdhas cthas ocfall kVfall dcfall pmfall cdfall ctfall occs kVcs dccs pmcs cdcs ctcs ocpl kVpl dcpl pmpl cdpl ctpl c2pl ocin kVin dcin pmin cdin ctin c2in ocmst kVmst dcmst pmmst cdmst ctmst ocmsl kVmsl dcmsl pmmsl cdmsl ctmsl ocmcs kVmcs dcmcs pmmcs cdmcs ctmcs ocmeq kVmeq dcmeq pmmeq cdmeq ctmeq ocmln kVmln dcmln pmmln cdmln ctmln ocmstr kVmstr dcmstr pmmstr cdmstr ctmstr ocmrep kVmrep dcmrep pmmrep cdmrep ctmrep : Value} {npl nin : Nat} {thL thM : Tok}
    (abegin : PySem.W.nsIn K mainGlobals "_law_begin" = some (some (.ref fbegin)))
    (lbegin : K.lookup fbegin = some ⟨ocbegin, odbegin, .func (PySem.W.fnOf "_law_begin" "_law_begin" (defArgs s__law_begin) (defBody s__law_begin) (defScope s__law_begin) .none kVbegin dcbegin pmbegin anbegin cdbegin ctbegin), slbegin⟩)
    (cbegin : PySem.W.codeIn K cdbegin "_law_begin" = true)
    (kbegin : PySem.W.keepIn K (.ref fbegin) = true)
    (atake : PySem.W.nsIn K mainGlobals "_law_take" = some (some (.ref ftake)))
    (ltake : K.lookup ftake = some ⟨octake, odtake, .func (PySem.W.fnOf "_law_take" "_law_take" (defArgs s__law_take) (defBody s__law_take) (defScope s__law_take) .none kVtake dctake pmtake antake cdtake cttake), sltake⟩)
    (ctake : PySem.W.codeIn K cdtake "_law_take" = true)
    (ktake : PySem.W.keepIn K (.ref ftake) = true)
    (aof : PySem.W.nsIn K mainGlobals "_law_of" = some (some (.ref fof)))
    (lof : K.lookup fof = some ⟨ocof, odof, .func (PySem.W.fnOf "_law_of" "_law_of" (defArgs s__law_of) (defBody s__law_of) (defScope s__law_of) .none kVof dcof pmof anof cdof ctof), slof⟩)
    (cof : PySem.W.codeIn K cdof "_law_of" = true)
    (kof : PySem.W.keepIn K (.ref fof) = true)
    (asize : PySem.W.nsIn K mainGlobals "_law_size" = some (some (.ref fsize)))
    (lsize : K.lookup fsize = some ⟨ocsize, odsize, .func (PySem.W.fnOf "_law_size" "_law_size" (defArgs s__law_size) (defBody s__law_size) (defScope s__law_size) .none kVsize dcsize pmsize ansize cdsize ctsize), slsize⟩)
    (csize : PySem.W.codeIn K cdsize "_law_size" = true)
    (ksize : PySem.W.keepIn K (.ref fsize) = true)
    (astair : PySem.W.nsIn K mainGlobals "_law_stair" = some (some (.ref fstair)))
    (lstair : K.lookup fstair = some ⟨ocstair, odstair, .func (PySem.W.fnOf "_law_stair" "_law_stair" (defArgs s__law_stair) (defBody s__law_stair) (defScope s__law_stair) .none kVstair dcstair pmstair anstair cdstair ctstair), slstair⟩)
    (cstair : PySem.W.codeIn K cdstair "_law_stair" = true)
    (kstair : PySem.W.keepIn K (.ref fstair) = true)
    (asidesL : PySem.W.nsIn K mainGlobals "_law_sides" = some (some (.ref fsidesL)))
    (lsidesL : K.lookup fsidesL = some ⟨ocsidesL, odsidesL, .func (PySem.W.fnOf "_law_sides" "_law_sides" (defArgs s__law_sides) (defBody s__law_sides) (defScope s__law_sides) .none kVsidesL dcsidesL pmsidesL ansidesL cdsidesL ctsidesL), slsidesL⟩)
    (csidesL : PySem.W.codeIn K cdsidesL "_law_sides" = true)
    (ksidesL : PySem.W.keepIn K (.ref fsidesL) = true)
    (acol : PySem.W.nsIn K mainGlobals "_law_column" = some (some (.ref fcol)))
    (lcol : K.lookup fcol = some ⟨occol, odcol, .func (PySem.W.fnOf "_law_column" "_law_column" (defArgs s__law_column) (defBody s__law_column) (defScope s__law_column) .none kVcol dccol pmcol ancol cdcol ctcol), slcol⟩)
    (ccol : PySem.W.codeIn K cdcol "_law_column" = true)
    (kcol : PySem.W.keepIn K (.ref fcol) = true)
    (ameets : PySem.W.nsIn K mainGlobals "_law_meets" = some (some (.ref fmeets)))
    (lmeets : K.lookup fmeets = some ⟨ocmeets, odmeets, .func (PySem.W.fnOf "_law_meets" "_law_meets" (defArgs s__law_meets) (defBody s__law_meets) (defScope s__law_meets) .none kVmeets dcmeets pmmeets anmeets cdmeets ctmeets), slmeets⟩)
    (cmeets : PySem.W.codeIn K cdmeets "_law_meets" = true)
    (kmeets : PySem.W.keepIn K (.ref fmeets) = true)
    (ameeting : PySem.W.nsIn K mainGlobals "_law_meeting" = some (some (.ref fmeeting)))
    (lmeeting : K.lookup fmeeting = some ⟨ocmeeting, odmeeting, .func (PySem.W.fnOf "_law_meeting" "_law_meeting" (defArgs s__law_meeting) (defBody s__law_meeting) (defScope s__law_meeting) .none kVmeeting dcmeeting pmmeeting anmeeting cdmeeting ctmeeting), slmeeting⟩)
    (cmeeting : PySem.W.codeIn K cdmeeting "_law_meeting" = true)
    (kmeeting : PySem.W.keepIn K (.ref fmeeting) = true)
    (asts : PySem.W.nsIn K mainGlobals "_law_stairs" = some (some (.ref fsts)))
    (lsts : K.lookup fsts = some ⟨ocsts, odsts, .func (PySem.W.fnOf "_law_stairs" "_law_stairs" (defArgs s__law_stairs) (defBody s__law_stairs) (defScope s__law_stairs) .none kVsts dcsts pmsts ansts cdsts ctsts), slsts⟩)
    (csts : PySem.W.codeIn K cdsts "_law_stairs" = true)
    (ksts : PySem.W.keepIn K (.ref fsts) = true)
    (asome : PySem.W.nsIn K mainGlobals "_law_some_slits" = some (some (.ref fsome)))
    (lsome : K.lookup fsome = some ⟨ocsome, odsome, .func (PySem.W.fnOf "_law_some_slits" "_law_some_slits" (defArgs s__law_some_slits) (defBody s__law_some_slits) (defScope s__law_some_slits) .none kVsome dcsome pmsome ansome cdsome ctsome), slsome⟩)
    (csome : PySem.W.codeIn K cdsome "_law_some_slits" = true)
    (ksome : PySem.W.keepIn K (.ref fsome) = true)
    (amodel : PySem.W.nsIn K mainGlobals "_law_model" = some (some (.ref fmodel)))
    (lmodel : K.lookup fmodel = some ⟨ocmodel, odmodel, .func (PySem.W.fnOf "_law_model" "_law_model" (defArgs s__law_model) (defBody s__law_model) (defScope s__law_model) .none kVmodel dcmodel pmmodel anmodel cdmodel ctmodel), slmodel⟩)
    (cmodel : PySem.W.codeIn K cdmodel "_law_model" = true)
    (kmodel : PySem.W.keepIn K (.ref fmodel) = true)
    (alcard : PySem.W.nsIn K mainGlobals "_law_card" = some (some (.ref flcard)))
    (llcard : K.lookup flcard = some ⟨oclcard, odlcard, .func (PySem.W.fnOf "_law_card" "_law_card" (defArgs s__law_card) (defBody s__law_card) (defScope s__law_card) .none kVlcard dclcard pmlcard anlcard cdlcard ctlcard), sllcard⟩)
    (clcard : PySem.W.codeIn K cdlcard "_law_card" = true)
    (klcard : PySem.W.keepIn K (.ref flcard) = true)
    (asame : PySem.W.nsIn K mainGlobals "_law_same" = some (some (.ref fsame)))
    (lsame : K.lookup fsame = some ⟨ocsame, odsame, .func (PySem.W.fnOf "_law_same" "_law_same" (defArgs s__law_same) (defBody s__law_same) (defScope s__law_same) .none kVsame dcsame pmsame ansame cdsame ctsame), slsame⟩)
    (csame : PySem.W.codeIn K cdsame "_law_same" = true)
    (ksame : PySem.W.keepIn K (.ref fsame) = true)
    (afar : PySem.W.nsIn K mainGlobals "_law_far" = some (some (.ref ffar)))
    (lfar : K.lookup ffar = some ⟨ocfar, odfar, .func (PySem.W.fnOf "_law_far" "_law_far" (defArgs s__law_far) (defBody s__law_far) (defScope s__law_far) .none kVfar dcfar pmfar anfar cdfar ctfar), slfar⟩)
    (cfar : PySem.W.codeIn K cdfar "_law_far" = true)
    (kfar : PySem.W.keepIn K (.ref ffar) = true)
    (aso : PySem.W.nsIn K mainGlobals "_law_card_so" = some (some (.ref fso)))
    (lso : K.lookup fso = some ⟨ocso, odso, .func (PySem.W.fnOf "_law_card_so" "_law_card_so" (defArgs s__law_card_so) (defBody s__law_card_so) (defScope s__law_card_so) .none kVso dcso pmso anso cdso ctso), slso⟩)
    (cso : PySem.W.codeIn K cdso "_law_card_so" = true)
    (kso : PySem.W.keepIn K (.ref fso) = true)
    (aset : PySem.W.nsIn K mainGlobals "_law_settled" = some (some (.ref fset)))
    (lset : K.lookup fset = some ⟨ocset, odset, .func (PySem.W.fnOf "_law_settled" "_law_settled" (defArgs s__law_settled) (defBody s__law_settled) (defScope s__law_settled) .none kVset dcset pmset anset cdset ctset), slset⟩)
    (cset : PySem.W.codeIn K cdset "_law_settled" = true)
    (kset : PySem.W.keepIn K (.ref fset) = true)
    (amirl : PySem.W.nsIn K mainGlobals "_law_mirrored" = some (some (.ref fmirl)))
    (lmirl : K.lookup fmirl = some ⟨ocmirl, odmirl, .func (PySem.W.fnOf "_law_mirrored" "_law_mirrored" (defArgs s__law_mirrored) (defBody s__law_mirrored) (defScope s__law_mirrored) .none kVmirl dcmirl pmmirl anmirl cdmirl ctmirl), slmirl⟩)
    (cmirl : PySem.W.codeIn K cdmirl "_law_mirrored" = true)
    (kmirl : PySem.W.keepIn K (.ref fmirl) = true)
    (aoth : PySem.W.nsIn K mainGlobals "_law_other" = some (some (.ref foth)))
    (loth : K.lookup foth = some ⟨ocoth, odoth, .func (PySem.W.fnOf "_law_other" "_law_other" (defArgs s__law_other) (defBody s__law_other) (defScope s__law_other) .none kVoth dcoth pmoth anoth cdoth ctoth), sloth⟩)
    (coth : PySem.W.codeIn K cdoth "_law_other" = true)
    (koth : PySem.W.keepIn K (.ref foth) = true)
    (atx : PySem.W.nsIn K mainGlobals "_law_text_of" = some (some (.ref ftx)))
    (ltx : K.lookup ftx = some ⟨octx, odtx, .func (PySem.W.fnOf "_law_text_of" "_law_text_of" (defArgs s__law_text_of) (defBody s__law_text_of) (defScope s__law_text_of) .none kVtx dctx pmtx antx cdtx cttx), sltx⟩)
    (ctx : PySem.W.codeIn K cdtx "_law_text_of" = true)
    (ktx : PySem.W.keepIn K (.ref ftx) = true)
    (akind : PySem.W.nsIn K mainGlobals "_law_kind" = some (some (.ref fkind)))
    (lkind : K.lookup fkind = some ⟨ockind, odkind, .func (PySem.W.fnOf "_law_kind" "_law_kind" (defArgs s__law_kind) (defBody s__law_kind) (defScope s__law_kind) .none kVkind dckind pmkind ankind cdkind ctkind), slkind⟩)
    (ckind : PySem.W.codeIn K cdkind "_law_kind" = true)
    (kkind : PySem.W.keepIn K (.ref fkind) = true)
    (aasked : PySem.W.nsIn K mainGlobals "_law_asked" = some (some (.ref fasked)))
    (lasked : K.lookup fasked = some ⟨ocasked, odasked, .func (PySem.W.fnOf "_law_asked" "_law_asked" (defArgs s__law_asked) (defBody s__law_asked) (defScope s__law_asked) .none kVasked dcasked pmasked anasked cdasked ctasked), slasked⟩)
    (casked : PySem.W.codeIn K cdasked "_law_asked" = true)
    (kasked : PySem.W.keepIn K (.ref fasked) = true)
    (aL : PySem.W.nsIn K mainGlobals "law" = some (some (.ref fL)))
    (lL : K.lookup fL = some ⟨ocL, odL, .func (PySem.W.fnOf "law" "law" (defArgs s_law) (defBody s_law) (defScope s_law) .none kVL dcL pmL anL cdL ctL), slL⟩)
    (cL : PySem.W.codeIn K cdL "law" = true)
    (kL : PySem.W.keepIn K (.ref fL) = true)
    (aisst : PySem.W.nsIn K mainGlobals "is_stair" = some (some (.ref fisst)))
    (lisst : K.lookup fisst = some ⟨ocisst, odisst, .func (PySem.W.fnOf "is_stair" "is_stair" (defArgs s_is_stair) (defBody s_is_stair) (defScope s_is_stair) .none kVisst dcisst pmisst anisst cdisst ctisst), slisst⟩)
    (cisst : PySem.W.codeIn K cdisst "is_stair" = true)
    (kisst : PySem.W.keepIn K (.ref fisst) = true)
    (aissz : PySem.W.nsIn K mainGlobals "is_size" = some (some (.ref fissz)))
    (lissz : K.lookup fissz = some ⟨ocissz, odissz, .func (PySem.W.fnOf "is_size" "is_size" (defArgs s_is_size) (defBody s_is_size) (defScope s_is_size) .none kVissz dcissz pmissz anissz cdissz ctissz), slissz⟩)
    (cissz : PySem.W.codeIn K cdissz "is_size" = true)
    (kissz : PySem.W.keepIn K (.ref fissz) = true)
    (achk : PySem.W.nsIn K mainGlobals "check_stair" = some (some (.ref fchk)))
    (lchk : K.lookup fchk = some ⟨occhk, odchk, .func (PySem.W.fnOf "check_stair" "check_stair" (defArgs s_check_stair) (defBody s_check_stair) (defScope s_check_stair) .none kVchk dcchk pmchk anchk cdchk ctchk), slchk⟩)
    (cchk : PySem.W.codeIn K cdchk "check_stair" = true)
    (kchk : PySem.W.keepIn K (.ref fchk) = true)
    (asides : PySem.W.nsIn K mainGlobals "sides" = some (some (.ref fsides)))
    (lsides : K.lookup fsides = some ⟨ocsides, odsides, .func (PySem.W.fnOf "sides" "sides" (defArgs s_sides) (defBody s_sides) (defScope s_sides) .none kVsides dcsides pmsides ansides cdsides ctsides), slsides⟩)
    (csides : PySem.W.codeIn K cdsides "sides" = true)
    (ksides : PySem.W.keepIn K (.ref fsides) = true)
    (acsz : PySem.W.nsIn K mainGlobals "checked_size" = some (some (.ref fcsz)))
    (lcsz : K.lookup fcsz = some ⟨occsz, odcsz, .func (PySem.W.fnOf "checked_size" "checked_size" (defArgs s_checked_size) (defBody s_checked_size) (defScope s_checked_size) .none kVcsz dccsz pmcsz ancsz cdcsz ctcsz), slcsz⟩)
    (ccsz : PySem.W.codeIn K cdcsz "checked_size" = true)
    (kcsz : PySem.W.keepIn K (.ref fcsz) = true)
    (ameet : PySem.W.nsIn K mainGlobals "cells_meet" = some (some (.ref fmeet)))
    (lmeet : K.lookup fmeet = some ⟨ocmeet, odmeet, .func (PySem.W.fnOf "cells_meet" "cells_meet" (defArgs s_cells_meet) (defBody s_cells_meet) (defScope s_cells_meet) .none kVmeet dcmeet pmmeet anmeet cdmeet ctmeet), slmeet⟩)
    (cmeet : PySem.W.codeIn K cdmeet "cells_meet" = true)
    (kmeet : PySem.W.keepIn K (.ref fmeet) = true)
    (awid : PySem.W.nsIn K mainGlobals "is_width" = some (some (.ref fwid)))
    (lwid : K.lookup fwid = some ⟨ocwid, odwid, .func (PySem.W.fnOf "is_width" "is_width" (defArgs s_is_width) (defBody s_is_width) (defScope s_is_width) .none kVwid dcwid pmwid anwid cdwid ctwid), slwid⟩)
    (cwid : PySem.W.codeIn K cdwid "is_width" = true)
    (kwid : PySem.W.keepIn K (.ref fwid) = true)
    (ackw : PySem.W.nsIn K mainGlobals "check_width" = some (some (.ref fckw)))
    (lckw : K.lookup fckw = some ⟨occkw, odckw, .func (PySem.W.fnOf "check_width" "check_width" (defArgs s_check_width) (defBody s_check_width) (defScope s_check_width) .none kVckw dcckw pmckw anckw cdckw ctckw), slckw⟩)
    (cckw : PySem.W.codeIn K cdckw "check_width" = true)
    (kckw : PySem.W.keepIn K (.ref fckw) = true)
    (acc : PySem.W.nsIn K mainGlobals "check_columns" = some (some (.ref fcc)))
    (lcc : K.lookup fcc = some ⟨occc, odcc, .func (PySem.W.fnOf "check_columns" "check_columns" (defArgs s_check_columns) (defBody s_check_columns) (defScope s_check_columns) .none kVcc dccc pmcc ancc cdcc ctcc), slcc⟩)
    (ccc : PySem.W.codeIn K cdcc "check_columns" = true)
    (kcc : PySem.W.keepIn K (.ref fcc) = true)
    (ahas : PySem.W.nsIn K mainGlobals "has_cell" = some (some (.ref fhas)))
    (lhas : K.lookup fhas = some ⟨ochas, odhas, .func (PySem.W.fnOf "has_cell" "has_cell" (defArgs s_has_cell) (defBody s_has_cell) (defScope s_has_cell) .none kVhas dchas pmhas anhas cdhas cthas), slhas⟩)
    (chas : PySem.W.codeIn K cdhas "has_cell" = true)
    (khas : PySem.W.keepIn K (.ref fhas) = true)
    (afall : PySem.W.nsIn K mainGlobals "fall_together" = some (some (.ref ffall)))
    (lfall : K.lookup ffall = some ⟨ocfall, odfall, .func (PySem.W.fnOf "fall_together" "fall_together" (defArgs s_fall_together) (defBody s_fall_together) (defScope s_fall_together) .none kVfall dcfall pmfall anfall cdfall ctfall), slfall⟩)
    (cfall : PySem.W.codeIn K cdfall "fall_together" = true)
    (kfall : PySem.W.keepIn K (.ref ffall) = true)
    (acs : PySem.W.nsIn K mainGlobals "check_slits" = some (some (.ref fcs)))
    (lcs : K.lookup fcs = some ⟨occs, odcs, .func (PySem.W.fnOf "check_slits" "check_slits" (defArgs s_check_slits) (defBody s_check_slits) (defScope s_check_slits) .none kVcs dccs pmcs ancs cdcs ctcs), slcs⟩)
    (ccs : PySem.W.codeIn K cdcs "check_slits" = true)
    (kcs : PySem.W.keepIn K (.ref fcs) = true)
    (apl : PySem.W.nsIn K mainGlobals "plain" = some (some (.ref fpl)))
    (lpl : K.lookup fpl = some ⟨ocpl, odpl, .func (PySem.W.fnOf "plain" "plain" (defArgs s_plain) (defBody s_plain) (defScope s_plain) (.ref Tpl) kVpl dcpl pmpl anpl cdpl ctpl), slpl⟩)
    (cpl : PySem.W.codeIn K cdpl "plain" = true)
    (kpl : PySem.W.keepIn K (.ref fpl) = true)
    (dpl : K.lookup Tpl = some ⟨c2pl, d2pl, .seq ([Value.none] : List Value).toArray npl, s2pl⟩)
    (aK : PySem.W.nsIn K mainGlobals "Card" = some (some (.ref xK)))
    (iin : PySem.W.findIn K (.ref xK) "__init__" = some (some (.ref fin)))
    (lin : K.lookup fin = some ⟨ocin, odin, .func (PySem.W.fnOf "__init__" "Card.__init__" (defArgs s_Card_init) (defBody s_Card_init) (defScope s_Card_init) (.ref Tin) kVin dcin pmin anin cdin ctin), slin⟩)
    (cin : PySem.W.codeIn K cdin "Card.__init__" = true)
    (kin : PySem.W.keepIn K (.ref fin) = true)
    (din : K.lookup Tin = some ⟨c2in, d2in, .seq ([Value.none] : List Value).toArray nin, s2in⟩)
    (fnin : PySem.W.isFn K (.ref fin) = true)
    (mkK : PySem.W.makesIn K xK = true)
    (kpK : PySem.W.keepIn K (.ref xK) = true)
    (imst : PySem.W.findIn K (.ref xK) "stairs" = some (some (.ref fmst)))
    (lmst : K.lookup fmst = some ⟨ocmst, odmst, .func (PySem.W.fnOf "stairs" "Card.stairs" (defArgs s_Card_stairs) (defBody s_Card_stairs) (defScope s_Card_stairs) .none kVmst dcmst pmmst anmst cdmst ctmst), slmst⟩)
    (cmst : PySem.W.codeIn K cdmst "Card.stairs" = true)
    (kmst : PySem.W.keepIn K (.ref fmst) = true)
    (nmst : PySem.W.isFn K (.ref fmst) = true)
    (imsl : PySem.W.findIn K (.ref xK) "slits" = some (some (.ref fmsl)))
    (lmsl : K.lookup fmsl = some ⟨ocmsl, odmsl, .func (PySem.W.fnOf "slits" "Card.slits" (defArgs s_Card_slits) (defBody s_Card_slits) (defScope s_Card_slits) .none kVmsl dcmsl pmmsl anmsl cdmsl ctmsl), slmsl⟩)
    (cmsl : PySem.W.codeIn K cdmsl "Card.slits" = true)
    (kmsl : PySem.W.keepIn K (.ref fmsl) = true)
    (nmsl : PySem.W.isFn K (.ref fmsl) = true)
    (imcs : PySem.W.findIn K (.ref xK) "stair" = some (some (.ref fmcs)))
    (lmcs : K.lookup fmcs = some ⟨ocmcs, odmcs, .func (PySem.W.fnOf "stair" "Card.stair" (defArgs s_Card_stair) (defBody s_Card_stair) (defScope s_Card_stair) .none kVmcs dcmcs pmmcs anmcs cdmcs ctmcs), slmcs⟩)
    (cmcs : PySem.W.codeIn K cdmcs "Card.stair" = true)
    (kmcs : PySem.W.keepIn K (.ref fmcs) = true)
    (nmcs : PySem.W.isFn K (.ref fmcs) = true)
    (imeq : PySem.W.findIn K (.ref xK) "__eq__" = some (some (.ref fmeq)))
    (lmeq : K.lookup fmeq = some ⟨ocmeq, odmeq, .func (PySem.W.fnOf "__eq__" "Card.__eq__" (defArgs s_Card_eq) (defBody s_Card_eq) (defScope s_Card_eq) .none kVmeq dcmeq pmmeq anmeq cdmeq ctmeq), slmeq⟩)
    (cmeq : PySem.W.codeIn K cdmeq "Card.__eq__" = true)
    (kmeq : PySem.W.keepIn K (.ref fmeq) = true)
    (nmeq : PySem.W.isFn K (.ref fmeq) = true)
    (imln : PySem.W.findIn K (.ref xK) "__len__" = some (some (.ref fmln)))
    (lmln : K.lookup fmln = some ⟨ocmln, odmln, .func (PySem.W.fnOf "__len__" "Card.__len__" (defArgs s_Card_len) (defBody s_Card_len) (defScope s_Card_len) .none kVmln dcmln pmmln anmln cdmln ctmln), slmln⟩)
    (cmln : PySem.W.codeIn K cdmln "Card.__len__" = true)
    (kmln : PySem.W.keepIn K (.ref fmln) = true)
    (nmln : PySem.W.isFn K (.ref fmln) = true)
    (imstr : PySem.W.findIn K (.ref xK) "__str__" = some (some (.ref fmstr)))
    (lmstr : K.lookup fmstr = some ⟨ocmstr, odmstr, .func (PySem.W.fnOf "__str__" "Card.__str__" (defArgs s_Card_str) (defBody s_Card_str) (defScope s_Card_str) .none kVmstr dcmstr pmmstr anmstr cdmstr ctmstr), slmstr⟩)
    (cmstr : PySem.W.codeIn K cdmstr "Card.__str__" = true)
    (kmstr : PySem.W.keepIn K (.ref fmstr) = true)
    (nmstr : PySem.W.isFn K (.ref fmstr) = true)
    (imrep : PySem.W.findIn K (.ref xK) "__repr__" = some (some (.ref fmrep)))
    (lmrep : K.lookup fmrep = some ⟨ocmrep, odmrep, .func (PySem.W.fnOf "__repr__" "Card.__repr__" (defArgs s_Card_repr) (defBody s_Card_repr) (defScope s_Card_repr) .none kVmrep dcmrep pmmrep anmrep cdmrep ctmrep), slmrep⟩)
    (cmrep : PySem.W.codeIn K cdmrep "Card.__repr__" = true)
    (kmrep : PySem.W.keepIn K (.ref fmrep) = true)
    (nmrep : PySem.W.isFn K (.ref fmrep) = true)
    (pgK : PySem.W.plainGet K xK Str.empty = true)
    (hdK : PySem.W.hasDictIn K xK = true)
    (poK : PySem.W.plainOver K xK = true)
    (saK : PySem.W.findIn K (.ref xK) "__setattr__" = some (some (.builtin "object.__setattr__")))
    (ncK : PySem.W.findIn K (.ref xK) "columns" = some none)
    (ngK : PySem.W.findIn K (.ref xK) "gaps" = some none)
    (haK : PySem.W.findIn K (.ref xK) "__class__" = some (some (.builtin "object.__class__")))
    (hnK : PySem.W.specialIn K (.builtin "object.__class__") "__get__" = some (some (.builtin "getset_descriptor.__get__")))
    (htK : PySem.W.takesIn K (.builtin "object.__class__") = some true)
    (hmK : PySem.W.mroIn K xK (.type "object") = some true)
    (kitK : PySem.W.kitOne K (.ref xK) (.ref xK) = some true)
    (ahL : PySem.W.nsIn K mainGlobals "LONGEST_SIDE" = some (some (.int 8 thL)))
    (ahM : PySem.W.nsIn K mainGlobals "MOST_COLUMNS" = some (some (.int 8 thM)))
    (z_len : PySem.W.nsIn K mainGlobals "len" = some none)
    (z_list : PySem.W.nsIn K mainGlobals "list" = some none)
    (z_range : PySem.W.nsIn K mainGlobals "range" = some none)
    (z_isinstance : PySem.W.nsIn K mainGlobals "isinstance" = some none)
    (z_int : PySem.W.nsIn K mainGlobals "int" = some none)
    (z_str : PySem.W.nsIn K mainGlobals "str" = some none)
    (z_bool : PySem.W.nsIn K mainGlobals "bool" = some none)
    (z_tuple : PySem.W.nsIn K mainGlobals "tuple" = some none)
    (z_all : PySem.W.nsIn K mainGlobals "all" = some none)
    (z_zip : PySem.W.nsIn K mainGlobals "zip" = some none)
    (z_min : PySem.W.nsIn K mainGlobals "min" = some none)
    (z_enumerate : PySem.W.nsIn K mainGlobals "enumerate" = some none)
    (z_sorted : PySem.W.nsIn K mainGlobals "sorted" = some none)
    (z_set : PySem.W.nsIn K mainGlobals "set" = some none)
    (z_repr : PySem.W.nsIn K mainGlobals "repr" = some none)
    (z_v : PySem.W.nsIn K mainGlobals "ValueError" = some none)
    (z_l : PySem.W.nsIn K mainGlobals "LookupError" = some none)
    (e0 : PySem.W.nsIn K mainGlobals "BadSize" = some (some (.ref x0)))
    (e1 : PySem.W.nsIn K mainGlobals "BadStair" = some (some (.ref x1)))
    (e2 : PySem.W.nsIn K mainGlobals "BadNumber" = some (some (.ref x2)))
    (e3 : PySem.W.nsIn K mainGlobals "NoColumn" = some (some (.ref x3)))
    (e4 : PySem.W.nsIn K mainGlobals "NoCell" = some (some (.ref x4)))
    (e5 : PySem.W.nsIn K mainGlobals "NoCorner" = some (some (.ref x5)))
    (e6 : PySem.W.nsIn K mainGlobals "NoEdge" = some (some (.ref x6)))
    (e7 : PySem.W.nsIn K mainGlobals "NotJoined" = some (some (.ref x7)))
    (e8 : PySem.W.nsIn K mainGlobals "NotSlit" = some (some (.ref x8)))
    (e9 : PySem.W.nsIn K mainGlobals "Unlike" = some (some (.ref x9)))
    (e10 : PySem.W.nsIn K mainGlobals "Wide" = some (some (.ref x10)))
    (e11 : PySem.W.nsIn K mainGlobals "BadView" = some (some (.ref x11)))
    (e12 : PySem.W.nsIn K mainGlobals "BadDrawing" = some (some (.ref x12)))
    (e13 : PySem.W.nsIn K mainGlobals "NoPatch" = some (some (.ref x13)))
    (e14 : PySem.W.nsIn K mainGlobals "TooMany" = some (some (.ref x14)))
    (e15 : PySem.W.nsIn K mainGlobals "BadName" = some (some (.ref x15)))
    (e16 : PySem.W.nsIn K mainGlobals "BadText" = some (some (.ref x16)))
    (e17 : PySem.W.nsIn K mainGlobals "NoCard" = some (some (.ref x17)))
    (e18 : PySem.W.nsIn K mainGlobals "NoPlan" = some (some (.ref x18)))
    (e19 : PySem.W.nsIn K mainGlobals "Taken" = some (some (.ref x19)))
    (e20 : PySem.W.nsIn K mainGlobals "SameCard" = some (some (.ref x20)))
    (e21 : PySem.W.nsIn K mainGlobals "Full" = some (some (.ref x21)))
    (e22 : PySem.W.nsIn K mainGlobals "NothingLeft" = some (some (.ref x22)))
    (eC : PySem.W.nsIn K mainGlobals "CardError" = some (some (.ref xC)))
    (eR : PySem.W.nsIn K mainGlobals "RoomError" = some (some (.ref xR)))
    (qC : clsIn K xC [.type "ValueError", .type "Exception", .type "BaseException", .type "object"] = true)
    (qR : clsIn K xR [.type "LookupError", .type "Exception", .type "BaseException", .type "object"] = true)
    (kt_3 : ([x0, x1, x2, x3, x4, x5, x6, x7, x8, x9, x10, x11, x12, x13, x14, x15, x16, x17, x18, x19, x20, x21, x22] : List Addr).map (fun c => PySem.W.kitOne K (.ref x3) (.ref c)) = (List.range 23).map (fun i => some (decide (i = 3))))
    (ktC_3 : PySem.W.kitOne K (.ref x3) (.ref xC) = some true)
    (ktV_3 : PySem.W.kitOne K (.ref x3) (.type "ValueError") = some true)
    (ktR_3 : PySem.W.kitOne K (.ref x3) (.ref xR) = some false)
    (ktL_3 : PySem.W.kitOne K (.ref x3) (.type "LookupError") = some false)
    (h1_3 : PySem.W.findIn K (.ref x3) "__getattribute__" = some (some (.builtin "BaseException.__getattribute__")))
    (h2_3 : PySem.W.findIn K (.ref x3) "__getattr__" = some none)
    (h3_3 : PySem.W.findIn K (.ref x3) "__class__" = some (some (.builtin "object.__class__")))
    (h4_3 : PySem.W.specialIn K (.builtin "object.__class__") "__get__" = some (some (.builtin "getset_descriptor.__get__")))
    (h5_3 : PySem.W.takesIn K (.builtin "object.__class__") = some true)
    (h6_3 : PySem.W.mroIn K x3 (.type "BaseException") = some true)
    (h7_3 : PySem.W.mroIn K x3 (.type "object") = some true)
    (h8_3 : (PySem.W.clsIn K x3).isSome = true)
    (in_3 : PySem.W.excIn K x3 [.type "ValueError", .type "Exception", .type "BaseException", .type "object"] "ValueError.__new__" = true)
    (cN_3 : clsIn K x3 (.ref xC :: [.type "ValueError", .type "Exception", .type "BaseException", .type "object"]) = true)
    (neK : PySem.W.findIn K (.ref xK) "__ne__" = some (some (.builtin "object.__ne__")))
    (nf0 : PySem.W.notFirst K xK (.type "str") = true)
    (kf0 : PySem.W.kitOne K (.type "str") (.ref xK) = some false)
    (nf1 : PySem.W.notFirst K xK (.type "list") = true)
    (kf1 : PySem.W.kitOne K (.type "list") (.ref xK) = some false)
    (nf2 : PySem.W.notFirst K xK (.type "NoneType") = true)
    (kf2 : PySem.W.kitOne K (.type "NoneType") (.ref xK) = some false)
    (nf3 : PySem.W.notFirst K xK (.type "int") = true)
    (kf3 : PySem.W.kitOne K (.type "int") (.ref xK) = some false) :
    ∃ fd : FuncData, (∀ (s : Shared) (v : Value), BindsTo s fd ⟨[v], []⟩ [("_law_script", v)]) ∧ ∀ base : Heap, K.In base → base.Ns mainGlobals mg → FnOk l.prog w K mg base CX0 12 fa fd ["_law_script"] (spLaw K) := by
  have e := hfa.symm.trans (PySem.W.mg_of X G aL)
  cases e
  have Fbegin := fun_mk (st := s__law_begin) lbegin cbegin kbegin
  have bbegin := Fbegin.binds (ps := ["_law_script"]) fun _ _ _ _ _ _ us hl => match us, hl with | [_], _ => rfl
  have mbegin := PySem.W.mg_of X G abegin
  have Ftake := fun_mk (st := s__law_take) ltake ctake ktake
  have btake := Ftake.binds (ps := ["_law_draw", "_law_many"]) fun _ _ _ _ _ _ us hl => match us, hl with | [_, _], _ => rfl
  have mtake := PySem.W.mg_of X G atake
  have Fof := fun_mk (st := s__law_of) lof cof kof
  have bof := Fof.binds (ps := ["_law_draw", "_law_some"]) fun _ _ _ _ _ _ us hl => match us, hl with | [_, _], _ => rfl
  have mof := PySem.W.mg_of X G aof
  have Fsize := fun_mk (st := s__law_size) lsize csize ksize
  have bsize := Fsize.binds (ps := ["_law_draw", "_law_most"]) fun _ _ _ _ _ _ us hl => match us, hl with | [_, _], _ => rfl
  have msize := PySem.W.mg_of X G asize
  have Fstair := fun_mk (st := s__law_stair) lstair cstair kstair
  have bstair := Fstair.binds (ps := ["_law_draw", "_law_size_here"]) fun _ _ _ _ _ _ us hl => match us, hl with | [_, _], _ => rfl
  have mstair := PySem.W.mg_of X G astair
  have FsidesL := fun_mk (st := s__law_sides) lsidesL csidesL ksidesL
  have bsidesL := FsidesL.binds (ps := ["_law_stair_here"]) fun _ _ _ _ _ _ us hl => match us, hl with | [_], _ => rfl
  have msidesL := PySem.W.mg_of X G asidesL
  have Fcol := fun_mk (st := s__law_column) lcol ccol kcol
  have bcol := Fcol.binds (ps := ["_law_stairs_in", "_law_column_here"]) fun _ _ _ _ _ _ us hl => match us, hl with | [_, _], _ => rfl
  have mcol := PySem.W.mg_of X G acol
  have Fmeets := fun_mk (st := s__law_meets) lmeets cmeets kmeets
  have bmeets := Fmeets.binds (ps := ["_law_stairs_in", "_law_edge", "_law_at"]) fun _ _ _ _ _ _ us hl => match us, hl with | [_, _, _], _ => rfl
  have mmeets := PySem.W.mg_of X G ameets
  have Fmeeting := fun_mk (st := s__law_meeting) lmeeting cmeeting kmeeting
  have bmeeting := Fmeeting.binds (ps := ["_law_stairs_in"]) fun _ _ _ _ _ _ us hl => match us, hl with | [_], _ => rfl
  have mmeeting := PySem.W.mg_of X G ameeting
  have Fsts := fun_mk (st := s__law_stairs) lsts csts ksts
  have bsts := Fsts.binds (ps := ["_law_draw", "_law_size_here", "_law_most"]) fun _ _ _ _ _ _ us hl => match us, hl with | [_, _, _], _ => rfl
  have msts := PySem.W.mg_of X G asts
  have Fsome := fun_mk (st := s__law_some_slits) lsome csome ksome
  have bsome := Fsome.binds (ps := ["_law_draw", "_law_stairs_in", "_law_most"]) fun _ _ _ _ _ _ us hl => match us, hl with | [_, _, _], _ => rfl
  have msome := PySem.W.mg_of X G asome
  have Fmodel := fun_mk (st := s__law_model) lmodel cmodel kmodel
  have bmodel := Fmodel.binds (ps := ["_law_draw", "_law_columns", "_law_most"]) fun _ _ _ _ _ _ us hl => match us, hl with | [_, _, _], _ => rfl
  have mmodel := PySem.W.mg_of X G amodel
  have Flcard := fun_mk (st := s__law_card) llcard clcard klcard
  have blcard := Flcard.binds (ps := ["_law_model_here"]) fun _ _ _ _ _ _ us hl => match us, hl with | [_], _ => rfl
  have mlcard := PySem.W.mg_of X G alcard
  have Fsame := fun_mk (st := s__law_same) lsame csame ksame
  have bsame := Fsame.binds (ps := ["_law_told", "_law_due"]) fun _ _ _ _ _ _ us hl => match us, hl with | [_, _], _ => rfl
  have msame := PySem.W.mg_of X G asame
  have Ffar := fun_mk (st := s__law_far) lfar cfar kfar
  have bfar := Ffar.binds (ps := ["_law_draw"]) fun _ _ _ _ _ _ us hl => match us, hl with | [_], _ => rfl
  have mfar := PySem.W.mg_of X G afar
  have Fso := fun_mk (st := s__law_card_so) lso cso kso
  have bso := Fso.binds (ps := ["_law_card_here", "_law_model_here"]) fun _ _ _ _ _ _ us hl => match us, hl with | [_, _], _ => rfl
  have mso := PySem.W.mg_of X G aso
  have Fset := fun_mk (st := s__law_settled) lset cset kset
  have bset := Fset.binds (ps := ["_law_stairs_in", "_law_slits_in"]) fun _ _ _ _ _ _ us hl => match us, hl with | [_, _], _ => rfl
  have mset := PySem.W.mg_of X G aset
  have Fmirl := fun_mk (st := s__law_mirrored) lmirl cmirl kmirl
  have bmirl := Fmirl.binds (ps := ["_law_model_here"]) fun _ _ _ _ _ _ us hl => match us, hl with | [_], _ => rfl
  have mmirl := PySem.W.mg_of X G amirl
  have Foth := fun_mk (st := s__law_other) loth coth koth
  have both := Foth.binds (ps := ["_law_draw", "_law_model_here", "_law_columns"]) fun _ _ _ _ _ _ us hl => match us, hl with | [_, _, _], _ => rfl
  have moth := PySem.W.mg_of X G aoth
  have Ftx := fun_mk (st := s__law_text_of) ltx ctx ktx
  have btx := Ftx.binds (ps := ["_law_model_here"]) fun _ _ _ _ _ _ us hl => match us, hl with | [_], _ => rfl
  have mtx := PySem.W.mg_of X G atx
  have Fkind := fun_mk (st := s__law_kind) lkind ckind kkind
  have bkind := Fkind.binds (ps := ["_law_e"]) fun _ _ _ _ _ _ us hl => match us, hl with | [_], _ => rfl
  have mkind := PySem.W.mg_of X G akind
  have Fasked := fun_mk (st := s__law_asked) lasked casked kasked
  have basked := Fasked.binds (ps := ["_law_card_here", "_law_column_here"]) fun _ _ _ _ _ _ us hl => match us, hl with | [_, _], _ => rfl
  have masked := PySem.W.mg_of X G aasked
  have FL := fun_mk (st := s_law) lL cL kL
  have Fisst := fun_mk (st := s_is_stair) lisst cisst kisst
  have bisst := Fisst.binds (ps := ["stair"]) fun _ _ _ _ _ _ us hl => match us, hl with | [_], _ => rfl
  have misst := PySem.W.mg_of X G aisst
  have Fissz := fun_mk (st := s_is_size) lissz cissz kissz
  have bissz := Fissz.binds (ps := ["height", "depth"]) fun _ _ _ _ _ _ us hl => match us, hl with | [_, _], _ => rfl
  have missz := PySem.W.mg_of X G aissz
  have Fchk := fun_mk (st := s_check_stair) lchk cchk kchk
  have bchk := Fchk.binds (ps := ["stair"]) fun _ _ _ _ _ _ us hl => match us, hl with | [_], _ => rfl
  have mchk := PySem.W.mg_of X G achk
  have Fsides := fun_mk (st := s_sides) lsides csides ksides
  have bsides := Fsides.binds (ps := ["stair"]) fun _ _ _ _ _ _ us hl => match us, hl with | [_], _ => rfl
  have msides := PySem.W.mg_of X G asides
  have Fcsz := fun_mk (st := s_checked_size) lcsz ccsz kcsz
  have bcsz := Fcsz.binds (ps := ["height", "depth"]) fun _ _ _ _ _ _ us hl => match us, hl with | [_, _], _ => rfl
  have mcsz := PySem.W.mg_of X G acsz
  have Fmeet := fun_mk (st := s_cells_meet) lmeet cmeet kmeet
  have bmeet := Fmeet.binds (ps := ["left", "right", "at"]) fun _ _ _ _ _ _ us hl => match us, hl with | [_, _, _], _ => rfl
  have mmeet := PySem.W.mg_of X G ameet
  have Fwid := fun_mk (st := s_is_width) lwid cwid kwid
  have bwid := Fwid.binds (ps := ["columns"]) fun _ _ _ _ _ _ us hl => match us, hl with | [_], _ => rfl
  have mwid := PySem.W.mg_of X G awid
  have Fckw := fun_mk (st := s_check_width) lckw cckw kckw
  have bckw := Fckw.binds (ps := ["columns"]) fun _ _ _ _ _ _ us hl => match us, hl with | [_], _ => rfl
  have mckw := PySem.W.mg_of X G ackw
  have Fcc := fun_mk (st := s_check_columns) lcc ccc kcc
  have bcc := Fcc.binds (ps := ["columns"]) fun _ _ _ _ _ _ us hl => match us, hl with | [_], _ => rfl
  have mcc := PySem.W.mg_of X G acc
  have Fhas := fun_mk (st := s_has_cell) lhas chas khas
  have bhas := Fhas.binds (ps := ["columns", "edge", "at"]) fun _ _ _ _ _ _ us hl => match us, hl with | [_, _, _], _ => rfl
  have mhas := PySem.W.mg_of X G ahas
  have Ffall := fun_mk (st := s_fall_together) lfall cfall kfall
  have bfall := Ffall.binds (ps := ["columns", "edge", "at"]) fun _ _ _ _ _ _ us hl => match us, hl with | [_, _, _], _ => rfl
  have mfall := PySem.W.mg_of X G afall
  have Fcs := fun_mk (st := s_check_slits) lcs ccs kcs
  have bcs := Fcs.binds (ps := ["columns", "slits"]) fun _ _ _ _ _ _ us hl => match us, hl with | [_, _], _ => rfl
  have mcs := PySem.W.mg_of X G acs
  have Fpl := funD_mk (st := s_plain) lpl cpl kpl dpl
  have bpl := Fpl.binds (ps := ["height", "depth"]) (ds' := []) fun _ _ _ _ _ _ _ us hl => match us, hl with | [_, _], _ => ⟨_, rfl, rfl⟩
  have bpl_1 := Fpl.binds (ps := ["height", "depth"]) (ds' := [Value.none]) fun _ _ _ _ _ _ _ us hl => match us, hl with | [_], _ => ⟨_, rfl, rfl⟩ | [], hl => absurd hl (by simp) | _ :: _ :: _, hl => absurd hl (by simp)
  have mpl := PySem.W.mg_of X G apl
  have Fin := funD_mk (st := s_Card_init) lin cin kin din
  have bin := Fin.binds (ps := ["self", "stairs", "slits"]) (ds' := []) fun _ _ _ _ _ _ _ us hl => match us, hl with | [_, _, _], _ => ⟨_, rfl, rfl⟩
  have bin_1 := Fin.binds (ps := ["self", "stairs", "slits"]) (ds' := [Value.none]) fun _ _ _ _ _ _ _ us hl => match us, hl with | [_, _], _ => ⟨_, rfl, rfl⟩ | [], hl => absurd hl (by simp) | _ :: [], hl => absurd hl (by simp) | _ :: _ :: _ :: _, hl => absurd hl (by simp)
  have Fmst := fun_mk (st := s_Card_stairs) lmst cmst kmst
  have bmst := Fmst.binds (ps := ["self"]) fun _ _ _ _ _ _ us hl => match us, hl with | [_], _ => rfl
  have Mmst : Meth K xK "stairs" fmst := ⟨imst, nmst, kmst⟩
  have Fmsl := fun_mk (st := s_Card_slits) lmsl cmsl kmsl
  have bmsl := Fmsl.binds (ps := ["self"]) fun _ _ _ _ _ _ us hl => match us, hl with | [_], _ => rfl
  have Mmsl : Meth K xK "slits" fmsl := ⟨imsl, nmsl, kmsl⟩
  have Fmcs := fun_mk (st := s_Card_stair) lmcs cmcs kmcs
  have bmcs := Fmcs.binds (ps := ["self", "column"]) fun _ _ _ _ _ _ us hl => match us, hl with | [_, _], _ => rfl
  have Mmcs : Meth K xK "stair" fmcs := ⟨imcs, nmcs, kmcs⟩
  have Fmeq := fun_mk (st := s_Card_eq) lmeq cmeq kmeq
  have bmeq := Fmeq.binds (ps := ["self", "other"]) fun _ _ _ _ _ _ us hl => match us, hl with | [_, _], _ => rfl
  have Mmeq : Meth K xK "__eq__" fmeq := ⟨imeq, nmeq, kmeq⟩
  have Fmln := fun_mk (st := s_Card_len) lmln cmln kmln
  have bmln := Fmln.binds (ps := ["self"]) fun _ _ _ _ _ _ us hl => match us, hl with | [_], _ => rfl
  have Mmln : Meth K xK "__len__" fmln := ⟨imln, nmln, kmln⟩
  have Fmstr := fun_mk (st := s_Card_str) lmstr cmstr kmstr
  have bmstr := Fmstr.binds (ps := ["self"]) fun _ _ _ _ _ _ us hl => match us, hl with | [_], _ => rfl
  have Mmstr : Meth K xK "__str__" fmstr := ⟨imstr, nmstr, kmstr⟩
  have Fmrep := fun_mk (st := s_Card_repr) lmrep cmrep kmrep
  have bmrep := Fmrep.binds (ps := ["self"]) fun _ _ _ _ _ _ us hl => match us, hl with | [_], _ => rfl
  have Mmrep : Meth K xK "__repr__" fmrep := ⟨imrep, nmrep, kmrep⟩
  have Z : CardC K xK := ⟨⟨pgK, hdK, poK, saK⟩, ncK, ngK, haK, hnK, htK, hmK, kitK⟩
  have M : Mk K xK fin := ⟨mkK, iin, fnin, kpK⟩
  have mC := PySem.W.mg_of X G aK
  have hL : ∃ t, mg "LONGEST_SIDE" = some (.int 8 t) := ⟨thL, PySem.W.mg_of X G ahL⟩
  have hM : ∃ t, mg "MOST_COLUMNS" = some (.int 8 t) := ⟨thM, PySem.W.mg_of X G ahM⟩
  have T : Blt mg := ⟨PySem.W.mg_none_of X G z_len, PySem.W.mg_none_of X G z_list, PySem.W.mg_none_of X G z_range, PySem.W.mg_none_of X G z_isinstance, PySem.W.mg_none_of X G z_int, PySem.W.mg_none_of X G z_str, PySem.W.mg_none_of X G z_bool, PySem.W.mg_none_of X G z_tuple, PySem.W.mg_none_of X G z_all, PySem.W.mg_none_of X G z_zip, PySem.W.mg_none_of X G z_min⟩
  have Tenumerate := PySem.W.mg_none_of X G z_enumerate
  have Tsorted := PySem.W.mg_none_of X G z_sorted
  have Tset := PySem.W.mg_none_of X G z_set
  have Trepr := PySem.W.mg_none_of X G z_repr
  have R : Errs K mg (fun i => ([x0, x1, x2, x3, x4, x5, x6, x7, x8, x9, x10, x11, x12, x13, x14, x15, x16, x17, x18, x19, x20, x21, x22] : List Addr).getD i 0) xC xR := ⟨PySem.W.mg_of X G e0, PySem.W.mg_of X G e1, PySem.W.mg_of X G e2, PySem.W.mg_of X G e3, PySem.W.mg_of X G e4, PySem.W.mg_of X G e5, PySem.W.mg_of X G e6, PySem.W.mg_of X G e7, PySem.W.mg_of X G e8, PySem.W.mg_of X G e9, PySem.W.mg_of X G e10, PySem.W.mg_of X G e11, PySem.W.mg_of X G e12, PySem.W.mg_of X G e13, PySem.W.mg_of X G e14, PySem.W.mg_of X G e15, PySem.W.mg_of X G e16, PySem.W.mg_of X G e17, PySem.W.mg_of X G e18, PySem.W.mg_of X G e19, PySem.W.mg_of X G e20, PySem.W.mg_of X G e21, PySem.W.mg_of X G e22, PySem.W.mg_of X G eC, PySem.W.mg_of X G eR, PySem.W.mg_none_of X G z_v, PySem.W.mg_none_of X G z_l, qC, qR⟩
  have J3 : ErrAt K (fun i => ([x0, x1, x2, x3, x4, x5, x6, x7, x8, x9, x10, x11, x12, x13, x14, x15, x16, x17, x18, x19, x20, x21, x22] : List Addr).getD i 0) xC xR 3 := ⟨by decide, ⟨h1_3, h2_3, h3_3, h4_3, h5_3, h6_3, h7_3, Option.isSome_iff_exists.mp h8_3⟩, fun i hi => kit_at kt_3 i hi, ktC_3, ktV_3, ktR_3, ktL_3⟩
  refine ⟨PySem.W.fnOf "law" "law" (defArgs s_law) (defBody s_law) (defScope s_law) .none kVL dcL pmL anL cdL ctL, fun s v => .of_eq rfl, fun base _ _ => ?_⟩
  have gIs : Ok l.prog w K mg base 2 "is_stair" ["stair"] spIsStair := ok_mk (ok_isstair Fisst Fissz bissz missz hL T) kisst bisst misst
  have gSz : Ok l.prog w K mg base 1 "is_size" ["height", "depth"] spIsSize := ok_mk (ok_issize Fissz hL) kissz bissz missz
  have gCk : Ok l.prog w K mg base 3 "check_stair" ["stair"] spCheck := ok_mk (ok_check Fchk gIs) kchk bchk mchk
  have gSd : Ok l.prog w K mg base 4 "sides" ["stair"] spSides0 := ok_mk (ok_sides0 Fsides gCk) ksides bsides msides
  have gCz : Ok l.prog w K mg base 2 "checked_size" ["height", "depth"] spCSz := ok_mk (ok_csz Fcsz gSz) kcsz bcsz mcsz
  have gPl : Ok l.prog w K mg base 3 "plain" ["height", "depth"] spPlain0 := ok_mk (ok_plain0 Fpl gCz) kpl bpl mpl
  have gMe : Ok l.prog w K mg base 1 "cells_meet" ["left", "right", "at"] spMeetB := ok_mk (ok_meetB Fmeet) kmeet bmeet mmeet
  have gWi : Ok l.prog w K mg base 1 "is_width" ["columns"] spWid := ok_mk (ok_wid Fwid hM) kwid bwid mwid
  have gCw : Ok l.prog w K mg base 2 "check_width" ["columns"] spCkw := ok_mk (ok_ckw Fckw gWi) kckw bckw mckw
  have gCc : Ok l.prog w K mg base 5 "check_columns" ["columns"] (spCc K) := ok_mk (ok_cc Fcc gCw gIs gSd T Tenumerate) kcc bcc mcc
  have gHa : Ok l.prog w K mg base 1 "has_cell" ["columns", "edge", "at"] (spHas K) := ok_mk (ok_has Fhas T) khas bhas mhas
  have gFa : Ok l.prog w K mg base 5 "fall_together" ["columns", "edge", "at"] (spFall K) := ok_mk (ok_fall Ffall gSd gPl gMe) kfall bfall mfall
  have gCs : Ok l.prog w K mg base 6 "check_slits" ["columns", "slits"] (spCs K) := ok_mk (ok_cs Fcs gHa gFa) kcs bcs mcs
  have GIn : FnOk l.prog w K mg base CX0 7 fin _ ["self", "stairs", "slits"] (spCInit K xK) := ok_cinit Fin Z gCc gCs T Tsorted Tset
  have gN : NOkC CX0 l.prog w K mg base xK 7 "Card" ["self", "stairs", "slits"] [] (spCInit K xK) := ⟨fin, _, [], GIn, bin, .nil, M, mC⟩
  have gN1 : NOkC CX0 l.prog w K mg base xK 7 "Card" ["self", "stairs", "slits"] [.non] (spCInit K xK) := ⟨fin, _, [.none], GIn, bin_1, .cons rfl .nil, M, mC⟩
  have gBe : Ok l.prog w K mg base 1 "_law_begin" ["_law_script"] (spBegin K) := ok_mk (ok_begin Fbegin T) kbegin bbegin mbegin
  have gTk : Ok l.prog w K mg base 1 "_law_take" ["_law_draw", "_law_many"] spTake := ok_mk (ok_take Ftake T) ktake btake mtake
  have gSz0 : Ok l.prog w K mg base 3 "_law_size" ["_law_draw", "_law_most"] spSize := ok_mk (ok_size Fsize Ftake btake mtake Fof bof mof T) ksize bsize msize
  have gSts : Ok l.prog w K mg base 3 "_law_stairs" ["_law_draw", "_law_size_here", "_law_most"] (spStairs K) := ok_mk (ok_stairs Fsts Ftake btake mtake Fstair bstair mstair T) ksts bsts msts
  have gSa : Ok l.prog w K mg base 4 "_law_same" ["_law_told", "_law_due"] (spR (Alike 4)) := ok_mk (ok_same Fsame bsame msame T 4) ksame bsame msame
  have GMt : FnOk l.prog w K mg base CX0 4 fmeeting _ ["_law_stairs_in"] (spMeeting K) := ok_meeting Fmeeting Fmeets bmeets mmeets Fcol bcol mcol FsidesL bsidesL msidesL T
  have GSo : FnOk l.prog w K mg base CX0 5 fsome _ ["_law_draw", "_law_stairs_in", "_law_most"] (spSome K) := ok_some Fsome Ftake btake mtake GMt kmeeting bmeeting mmeeting T Tsorted
  have gMo : Ok l.prog w K mg base 6 "_law_model" ["_law_draw", "_law_columns", "_law_most"] (spModel K) := ok_mk (ok_model Fmodel (ok_size Fsize Ftake btake mtake Fof bof mof T) ksize bsize msize (ok_stairs Fsts Ftake btake mtake Fstair bstair mstair T) ksts bsts msts GSo ksome bsome msome) kmodel bmodel mmodel
  have gLc : Ok l.prog w K mg base 9 "_law_card" ["_law_model_here"] (spLC K xK) := ok_mk (ok_lc Flcard gN T) klcard blcard mlcard
  have gSt : MOk l.prog w K mg base xK 1 "stairs" ["self"] (spSt K xK) := mok_mk (ok_st Fmst Z T) bmst Mmst Z.cls
  have gSl : MOk l.prog w K mg base xK 1 "slits" ["self"] (spSl K xK) := mok_mk (ok_sl Fmsl Z T) bmsl Mmsl Z.cls
  have gCx : MOkC (CX1 l.prog w) l.prog w K mg base xK 1 "stair" ["self", "column"] [] (spCstX K xK x3) := mok_mk (ok_cstX Fmcs Z (PySem.W.mg_of X G e3) in_3 T) bmcs Mmcs Z.cls
  have gEq : MOk l.prog w K mg base xK 1 "__eq__" ["self", "other"] (spEqA K xK) := mok_mk (FnOk.or (ok_eq Fmeq Z mC T) (ok_eqN Fmeq Z mC T)) bmeq Mmeq Z.cls
  have gLn : MOk l.prog w K mg base xK 1 "__len__" ["self"] (spLn K xK) := mok_mk (ok_ln Fmln Z T) bmln Mmln Z.cls
  have gStr : MOk l.prog w K mg base xK 1 "__str__" ["self"] (spStr K xK) := mok_mk (ok_str Fmstr Z T) bmstr Mmstr Z.cls
  have gRep : MOk l.prog w K mg base xK 1 "__repr__" ["self"] (spRep K xK) := mok_mk (ok_rep Fmrep Z T) bmrep Mmrep Z.cls
  have gTx : Ok l.prog w K mg base 1 "_law_text_of" ["_law_model_here"] (spTx K) := ok_mk (ok_tx Ftx T) ktx btx mtx
  have gFar : Ok l.prog w K mg base 2 "_law_far" ["_law_draw"] spFar := ok_mk (ok_far Ffar Ftake btake mtake T) kfar bfar mfar
  have gMe' : Ok l.prog w K mg base 3 "_law_meets" ["_law_stairs_in", "_law_edge", "_law_at"] (spMeets K) := ok_mk (ok_meets Fmeets Fcol bcol mcol FsidesL bsidesL msidesL T) kmeets bmeets mmeets
  have gSe : Ok l.prog w K mg base 4 "_law_settled" ["_law_stairs_in", "_law_slits_in"] (spSet K) := ok_mk (ok_set Fset gMe' Tsorted) kset bset mset
  have gMi : Ok l.prog w K mg base 1 "_law_mirrored" ["_law_model_here"] (spMirL K) := ok_mk (ok_mirL Fmirl T Tsorted) kmirl bmirl mmirl
  have gSm : Ok l.prog w K mg base 5 "_law_some_slits" ["_law_draw", "_law_stairs_in", "_law_most"] (spSome K) := ok_mk GSo ksome bsome msome
  have gSr : Ok l.prog w K mg base 2 "_law_stair" ["_law_draw", "_law_size_here"] (spStair K) := ok_mk (ok_stair Fstair Ftake btake mtake T) kstair bstair mstair
  have gSd : Ok l.prog w K mg base 1 "_law_sides" ["_law_stair_here"] spSidesL := ok_mk (ok_sidesL FsidesL T) ksidesL bsidesL msidesL
  have gOt : Ok l.prog w K mg base 6 "_law_other" ["_law_draw", "_law_model_here", "_law_columns"] (spOth K) := ok_mk (ok_oth Foth gTk gMi gSm gSr gSd gSe T) koth both moth
  have gAs : Ok l.prog w K mg base 3 "_law_asked" ["_law_card_here", "_law_column_here"] (spAsked K xK) := ok_mk (ok_asked Fasked gCx J3 cN_3 Fkind bkind mkind R T) kasked basked masked
  have GSt : FnOk l.prog w K mg base CX0 1 fmst _ ["self"] (spSt K xK) := ok_st Fmst Z T
  have GSl : FnOk l.prog w K mg base CX0 1 fmsl _ ["self"] (spSl K xK) := ok_sl Fmsl Z T
  have GSm : FnOk l.prog w K mg base CX0 4 fsame _ ["_law_told", "_law_due"] (spR (Alike 4)) := ok_same Fsame bsame msame T 4
  have gSo : Ok l.prog w K mg base 5 "_law_card_so" ["_law_card_here", "_law_model_here"] (spSo K xK) := ok_mk (ok_so Fso Z mC GSt bmst Mmst GSl bmsl Mmsl GSm ksame bsame msame T) kso bso mso
  have nfS : ∀ T : String, T = "str" ∨ T = "list" ∨ T = "NoneType" ∨ T = "int" → PySem.W.notFirst K xK (.type T) = true ∧ PySem.W.kitOne K (.type T) (.ref xK) = some false := fun T h => by
    rcases h with rfl | rfl | rfl | rfl
    · exact ⟨nf0, kf0⟩
    · exact ⟨nf1, kf1⟩
    · exact ⟨nf2, kf2⟩
    · exact ⟨nf3, kf3⟩
  exact ok_law FL Z gBe gMo gOt gLc gSa gTx gFar gAs gSo gEq gLn gStr gRep gSt gSl gN gN1 M GIn mC (bK_in Fin) neK nfS T Trepr
theorem walk {l : PySem.W.OpenLaw} {q : Program} {loose : List Str} {XP : (Str → Option Value) → Heap → Prop} {YP : World → Heap → Prop} {d : DefRec} {K : Params → PySem.W.Frag} (hn : l.most = some 63) (hdf : d.params.defaults = [])
    (hY : ∀ (w : World) (h : Heap), YP w h → (K w.params).In h)
    (F : ∀ (w : World) (mg : Str → Option Value) (fa : Addr) (h : Heap), (K w.params).In h → h.Ns mainGlobals mg → mg d.name = some (.ref fa) →
      ∃ fd : FuncData, (∀ (s : Shared) (u : Value), BindsTo s fd ⟨[u], []⟩ [("_law_script", u)]) ∧ ∀ base : Heap, (K w.params).In base → base.Ns mainGlobals mg → FnOk l.prog w (K w.params) mg base CX0 12 fa fd ["_law_script"] (spLaw (K w.params))) :
    PySem.W.WalkO q loose XP YP l.row.toRowW d [] (fun f vs => PySem.call f vs) :=
  L2.walk_of (n := 63) (k := 12) (x := "_law_script") (CX := fun _ => CX0) (sp := fun w => spLaw (K w.params)) hn (by decide) hdf ⟨rfl, by decide, by decide, rfl⟩ hY F (fun _ _ a ns hl _ hS => ⟨a, ns, rfl, hS, hl, fun _ => rfl⟩) fun _ _ _ _ _ z => z
end Toy
namespace HdT
open PySem PySem.W
noncomputable def cxE (w : World) (os : OsState) : Cx := ⟨PySem.Challenge.pw_upleaf_k10_cards_as_they_are_shown, w, bootLife w.params, os, 11, some (.ref 6)⟩
noncomputable def runE (w : World) (os : OsState) : Option SharedT := runF (cxE w os) 15058 (bootTree w.params) 11 boot_drawn boot_toks (topStub PySem.Challenge.pw_upleaf_k10_cards_as_they_are_shown).cur (topStub PySem.Challenge.pw_upleaf_k10_cards_as_they_are_shown).code (topStub PySem.Challenge.pw_upleaf_k10_cards_as_they_are_shown).pos (topStub PySem.Challenge.pw_upleaf_k10_cards_as_they_are_shown).stack
theorem runE_of (w : World) (os : OsState) (s : SharedT) (h : runE w os = some s) : topRunT treeTable PySem.Challenge.pw_upleaf_k10_cards_as_they_are_shown w 11 (some (.ref 6)) 15058 ⟨bootTree w.params, 11, bootLife w.params, Array.mk [], boot_drawn, boot_toks, os⟩ (topStub PySem.Challenge.pw_upleaf_k10_cards_as_they_are_shown) = some s := run_of (C := cxE w os) 15058 _ _ _ _ _ _ _ _ _ h
def viewE : Program := view PySem.Challenge.pw_upleaf_k10_cards_as_they_are_shown [0, 2, 3, 4, 5, 6, 7, 8, 9, 10, 11, 12, 13, 14, 15, 16, 17, 18, 19, 20, 21, 22, 23, 24, 25, 26, 28, 29, 30, 31, 32, 33, 35, 37, 38, 39, 40, 41, 42, 43, 44, 46, 47, 48, 49, 50, 51, 52, 53, 54, 55, 56, 57, 58, 59, 60, 61, 62, 63, 64, 65, 66, 67, 68]
def looseE : List Str := ["BadStair", "BadText", "plain"]
def xtE (s : Shared) : Bool := xlAt viewE [] s && recOk (RowW.records (OpenRow.toRowW (PySem.Challenge.rw_upleaf_k10_cards_as_they_are_shown).row)) s
noncomputable def look1 (P : Params) (s : Shared) := (chkE PySem.Challenge.pw_upleaf_k10_cards_as_they_are_shown (boot_heap P) s, (openSeen viewE looseE (importedModules PySem.Challenge.pw_upleaf_k10_cards_as_they_are_shown.main.body) xtE true s).1)
noncomputable def look2 (_ : Params) (s : Shared) := ((openSeen viewE looseE (importedModules PySem.Challenge.pw_upleaf_k10_cards_as_they_are_shown.main.body) xtE true s).2.1, (openSeen viewE looseE (importedModules PySem.Challenge.pw_upleaf_k10_cards_as_they_are_shown.main.body) xtE true s).2.2.1, (openSeen viewE looseE (importedModules PySem.Challenge.pw_upleaf_k10_cards_as_they_are_shown.main.body) xtE true s).2.2.2.1)
noncomputable def look3 (_ : Params) (s : Shared) := (openSeen viewE looseE (importedModules PySem.Challenge.pw_upleaf_k10_cards_as_they_are_shown.main.body) xtE true s).2.2.2.2
def good1 := (true, (openGood viewE looseE).1)
def good2 := ((openGood viewE looseE).2.1, (openGood viewE looseE).2.2.1, (openGood viewE looseE).2.2.2.1)
def good3 := (openGood viewE looseE).2.2.2.2
theorem look_all {P : Params} {s : Shared} (a : look1 P s = good1) (b : look2 P s = good2) (c : look3 P s = good3) : chkE PySem.Challenge.pw_upleaf_k10_cards_as_they_are_shown (boot_heap P) s = true ∧ openSeen viewE looseE (importedModules PySem.Challenge.pw_upleaf_k10_cards_as_they_are_shown.main.body) xtE true s = openGood viewE looseE := by
  obtain ⟨a1, a2⟩ := Prod.mk.inj a
  obtain ⟨b1, b⟩ := Prod.mk.inj b
  obtain ⟨b2, b3⟩ := Prod.mk.inj b
  exact ⟨a1, Prod.ext a2 (Prod.ext b1 (Prod.ext b2 (Prod.ext b3 c)))⟩
end HdT
lay_quick HdT.runE
lay_quick HdT.look1
lay_quick HdT.good1
lay_quick HdT.look2
lay_quick HdT.good2
lay_quick HdT.look3
lay_quick HdT.good3
open PySem PySem.W PyProof.Rows
set_option maxHeartbeats 0 in
theorem HdT.lookT1 (w : World) (os : OsState) : (HdT.runE w os).map (fun s => HdT.look1 w.params s.abs) = some HdT.good1 := by
  rw [PySem.W.Fast.te5421823670675017845, PySem.W.Fast.te18071537574420894354, PySem.W.Fast.te17032452633530061716]
  kernel_rfl
set_option maxHeartbeats 0 in
theorem HdT.lookT2 (w : World) (os : OsState) : (HdT.runE w os).map (fun s => HdT.look2 w.params s.abs) = some HdT.good2 := by
  rw [PySem.W.Fast.te5421823670675017845, PySem.W.Fast.te5281015012739412625, PySem.W.Fast.te3834711048819025098]
  kernel_rfl
set_option maxHeartbeats 0 in
theorem HdT.lookT3 (w : World) (os : OsState) : (HdT.runE w os).map (fun s => HdT.look3 w.params s.abs) = some HdT.good3 := by
  rw [PySem.W.Fast.te5421823670675017845, PySem.W.Fast.te4623834026910897634, PySem.W.Fast.te11472083991430461561]
  kernel_rfl
local macro_rules | `(tactic| o_head $H) => `(tactic| (
  refine holds_open (q := HdT.viewE) (loose := HdT.looseE) (Xt := HdT.xtE) (XP := XL HdT.viewE []) (Yf := Hook.obs $H) (Ya := Hook.val $H) (YP := Hook.says $H) (N := 15058) ?_ (Hook.of $H) (Hook.keeps $H) (fun s e => xl_of s (Bool.and_eq_true_iff.mp e).1) XL.keeps (by rfl) (by rfl) (by rfl) (fun s e => recFacts_of (Bool.and_eq_true_iff.mp e).2) (by rfl) (by first | assumption | decide +kernel) (by decide +kernel) ⟨rfl, rfl, rfl, rfl, rfl, by decide +kernel⟩ ?hw ?_
  · refine HdT.left_one (E := HdT.runE) (L1 := HdT.look1) (L2 := HdT.look2) (L3 := HdT.look3) (G1 := HdT.good1) (G2 := HdT.good2) (G3 := HdT.good3) (by kernel_rfl) (by decide +kernel) (fun s => by kernel_rfl) HdT.boot_size HdT.runE_of (fun _ _ a b c => HdT.look_all a b c) HdT.lookT1 HdT.lookT2 HdT.lookT3 ?_
    rw [PySem.W.Fast.te5421823670675017845]
    intro w os
    kernel_rfl))
set_option maxHeartbeats 0 in
open_top HdT.head for PySem.Challenge.rw_upleaf_k10_cards_as_they_are_shown
set_option maxRecDepth 100000 in
set_option maxHeartbeats 0 in
theorem PySem.Challenge.cw_upleaf_k10_cards_as_they_are_shown_holds : PySem.Challenge.rw_upleaf_k10_cards_as_they_are_shown.Holds := by
  refine HdT.head ?_
  k_fill
  refine Toy.walk (l := PySem.Challenge.rw_upleaf_k10_cards_as_they_are_shown) rfl rfl (fun w h Y => PySem.W.kIn_of Y) ?F
  case F =>
    intro w mg fa h KX G hmg
    refine' Toy.all_mk KX G hmg ?abegin ?lbegin ?cbegin ?kbegin ?atake ?ltake ?ctake ?ktake ?aof ?lof ?cof ?kof ?asize ?lsize ?csize ?ksize ?astair ?lstair ?cstair ?kstair ?asidesL ?lsidesL ?csidesL ?ksidesL ?acol ?lcol ?ccol ?kcol ?ameets ?lmeets ?cmeets ?kmeets ?ameeting ?lmeeting ?cmeeting ?kmeeting ?asts ?lsts ?csts ?ksts ?asome ?lsome ?csome ?ksome ?amodel ?lmodel ?cmodel ?kmodel ?alcard ?llcard ?clcard ?klcard ?asame ?lsame ?csame ?ksame ?afar ?lfar ?cfar ?kfar ?aso ?lso ?cso ?kso ?aset ?lset ?cset ?kset ?amirl ?lmirl ?cmirl ?kmirl ?aoth ?loth ?coth ?koth ?atx ?ltx ?ctx ?ktx ?akind ?lkind ?ckind ?kkind ?aasked ?lasked ?casked ?kasked ?aL ?lL ?cL ?kL ?aisst ?lisst ?cisst ?kisst ?aissz ?lissz ?cissz ?kissz ?achk ?lchk ?cchk ?kchk ?asides ?lsides ?csides ?ksides ?acsz ?lcsz ?ccsz ?kcsz ?ameet ?lmeet ?cmeet ?kmeet ?awid ?lwid ?cwid ?kwid ?ackw ?lckw ?cckw ?kckw ?acc ?lcc ?ccc ?kcc ?ahas ?lhas ?chas ?khas ?afall ?lfall ?cfall ?kfall ?acs ?lcs ?ccs ?kcs ?apl ?lpl ?cpl ?kpl ?dpl ?aK ?iin ?lin ?cin ?kin ?din ?fnin ?mkK ?kpK ?imst ?lmst ?cmst ?kmst ?nmst ?imsl ?lmsl ?cmsl ?kmsl ?nmsl ?imcs ?lmcs ?cmcs ?kmcs ?nmcs ?imeq ?lmeq ?cmeq ?kmeq ?nmeq ?imln ?lmln ?cmln ?kmln ?nmln ?imstr ?lmstr ?cmstr ?kmstr ?nmstr ?imrep ?lmrep ?cmrep ?kmrep ?nmrep ?pgK ?hdK ?poK ?saK ?ncK ?ngK ?haK ?hnK ?htK ?hmK ?kitK ?ahL ?ahM ?z_len ?z_list ?z_range ?z_isinstance ?z_int ?z_str ?z_bool ?z_tuple ?z_all ?z_zip ?z_min ?z_enumerate ?z_sorted ?z_set ?z_repr ?z_v ?z_l ?e0 ?e1 ?e2 ?e3 ?e4 ?e5 ?e6 ?e7 ?e8 ?e9 ?e10 ?e11 ?e12 ?e13 ?e14 ?e15 ?e16 ?e17 ?e18 ?e19 ?e20 ?e21 ?e22 ?eC ?eR ?qC ?qR ?kt_3 ?ktC_3 ?ktV_3 ?ktR_3 ?ktL_3 ?h1_3 ?h2_3 ?h3_3 ?h4_3 ?h5_3 ?h6_3 ?h7_3 ?h8_3 ?in_3 ?cN_3 ?neK ?nf0 ?kf0 ?nf1 ?kf1 ?nf2 ?kf2 ?nf3 ?kf3
    (case abegin => k_is)
    (case lbegin => k_is)
    (case cbegin => k_is)
    (case kbegin => k_is)
    (case atake => k_is)
    (case ltake => k_is)
    (case ctake => k_is)
    (case ktake => k_is)
    (case aof => k_is)
    (case lof => k_is)
    (case cof => k_is)
    (case kof => k_is)
    (case asize => k_is)
    (case lsize => k_is)
    (case csize => k_is)
    (case ksize => k_is)
    (case astair => k_is)
    (case lstair => k_is)
    (case cstair => k_is)
    (case kstair => k_is)
    (case asidesL => k_is)
    (case lsidesL => k_is)
    (case csidesL => k_is)
    (case ksidesL => k_is)
    (case acol => k_is)
    (case lcol => k_is)
    (case ccol => k_is)
    (case kcol => k_is)
    (case ameets => k_is)
    (case lmeets => k_is)
    (case cmeets => k_is)
    (case kmeets => k_is)
    (case ameeting => k_is)
    (case lmeeting => k_is)
    (case cmeeting => k_is)
    (case kmeeting => k_is)
    (case asts => k_is)
    (case lsts => k_is)
    (case csts => k_is)
    (case ksts => k_is)
    (case asome => k_is)
    (case lsome => k_is)
    (case csome => k_is)
    (case ksome => k_is)
    (case amodel => k_is)
    (case lmodel => k_is)
    (case cmodel => k_is)
    (case kmodel => k_is)
    (case alcard => k_is)
    (case llcard => k_is)
    (case clcard => k_is)
    (case klcard => k_is)
    (case asame => k_is)
    (case lsame => k_is)
    (case csame => k_is)
    (case ksame => k_is)
    (case afar => k_is)
    (case lfar => k_is)
    (case cfar => k_is)
    (case kfar => k_is)
    (case aso => k_is)
    (case lso => k_is)
    (case cso => k_is)
    (case kso => k_is)
    (case aset => k_is)
    (case lset => k_is)
    (case cset => k_is)
    (case kset => k_is)
    (case amirl => k_is)
    (case lmirl => k_is)
    (case cmirl => k_is)
    (case kmirl => k_is)
    (case aoth => k_is)
    (case loth => k_is)
    (case coth => k_is)
    (case koth => k_is)
    (case atx => k_is)
    (case ltx => k_is)
    (case ctx => k_is)
    (case ktx => k_is)
    (case akind => k_is)
    (case lkind => k_is)
    (case ckind => k_is)
    (case kkind => k_is)
    (case aasked => k_is)
    (case lasked => k_is)
    (case casked => k_is)
    (case kasked => k_is)
    (case aL => k_is)
    (case lL => k_is)
    (case cL => k_is)
    (case kL => k_is)
    (case aisst => k_is)
    (case lisst => k_is)
    (case cisst => k_is)
    (case kisst => k_is)
    (case aissz => k_is)
    (case lissz => k_is)
    (case cissz => k_is)
    (case kissz => k_is)
    (case achk => k_is)
    (case lchk => k_is)
    (case cchk => k_is)
    (case kchk => k_is)
    (case asides => k_is)
    (case lsides => k_is)
    (case csides => k_is)
    (case ksides => k_is)
    (case acsz => k_is)
    (case lcsz => k_is)
    (case ccsz => k_is)
    (case kcsz => k_is)
    (case ameet => k_is)
    (case lmeet => k_is)
    (case cmeet => k_is)
    (case kmeet => k_is)
    (case awid => k_is)
    (case lwid => k_is)
    (case cwid => k_is)
    (case kwid => k_is)
    (case ackw => k_is)
    (case lckw => k_is)
    (case cckw => k_is)
    (case kckw => k_is)
    (case acc => k_is)
    (case lcc => k_is)
    (case ccc => k_is)
    (case kcc => k_is)
    (case ahas => k_is)
    (case lhas => k_is)
    (case chas => k_is)
    (case khas => k_is)
    (case afall => k_is)
    (case lfall => k_is)
    (case cfall => k_is)
    (case kfall => k_is)
    (case acs => k_is)
    (case lcs => k_is)
    (case ccs => k_is)
    (case kcs => k_is)
    (case apl => k_is)
    (case lpl => k_is)
    (case cpl => k_is)
    (case kpl => k_is)
    (case dpl => k_is)
    (case aK => k_is)
    (case iin => k_is)
    (case lin => k_is)
    (case cin => k_is)
    (case kin => k_is)
    (case din => k_is)
    (case fnin => kernel_rfl)
    (case mkK => kernel_rfl)
    (case kpK => k_is)
    (case imst => k_is)
    (case lmst => k_is)
    (case cmst => k_is)
    (case kmst => k_is)
    (case nmst => kernel_rfl)
    (case imsl => k_is)
    (case lmsl => k_is)
    (case cmsl => k_is)
    (case kmsl => k_is)
    (case nmsl => kernel_rfl)
    (case imcs => k_is)
    (case lmcs => k_is)
    (case cmcs => k_is)
    (case kmcs => k_is)
    (case nmcs => kernel_rfl)
    (case imeq => k_is)
    (case lmeq => k_is)
    (case cmeq => k_is)
    (case kmeq => k_is)
    (case nmeq => kernel_rfl)
    (case imln => k_is)
    (case lmln => k_is)
    (case cmln => k_is)
    (case kmln => k_is)
    (case nmln => kernel_rfl)
    (case imstr => k_is)
    (case lmstr => k_is)
    (case cmstr => k_is)
    (case kmstr => k_is)
    (case nmstr => kernel_rfl)
    (case imrep => k_is)
    (case lmrep => k_is)
    (case cmrep => k_is)
    (case kmrep => k_is)
    (case nmrep => kernel_rfl)
    (case pgK => kernel_rfl)
    (case hdK => kernel_rfl)
    (case poK => kernel_rfl)
    (case saK => k_is)
    (case ncK => k_is)
    (case ngK => k_is)
    (case haK => k_is)
    (case hnK => k_is)
    (case htK => k_is)
    (case hmK => k_is)
    (case kitK => kernel_rfl)
    (case ahL => k_is)
    (case ahM => k_is)
    (case z_len => k_is)
    (case z_list => k_is)
    (case z_range => k_is)
    (case z_isinstance => k_is)
    (case z_int => k_is)
    (case z_str => k_is)
    (case z_bool => k_is)
    (case z_tuple => k_is)
    (case z_all => k_is)
    (case z_zip => k_is)
    (case z_min => k_is)
    (case z_enumerate => k_is)
    (case z_sorted => k_is)
    (case z_set => k_is)
    (case z_repr => k_is)
    (case z_v => k_is)
    (case z_l => k_is)
    (case e0 => k_is)
    (case e1 => k_is)
    (case e2 => k_is)
    (case e3 => k_is)
    (case e4 => k_is)
    (case e5 => k_is)
    (case e6 => k_is)
    (case e7 => k_is)
    (case e8 => k_is)
    (case e9 => k_is)
    (case e10 => k_is)
    (case e11 => k_is)
    (case e12 => k_is)
    (case e13 => k_is)
    (case e14 => k_is)
    (case e15 => k_is)
    (case e16 => k_is)
    (case e17 => k_is)
    (case e18 => k_is)
    (case e19 => k_is)
    (case e20 => k_is)
    (case e21 => k_is)
    (case e22 => k_is)
    (case eC => k_is)
    (case eR => k_is)
    (case qC => kernel_rfl)
    (case qR => kernel_rfl)
    (case kt_3 => kernel_rfl)
    (case ktC_3 => kernel_rfl)
    (case ktV_3 => kernel_rfl)
    (case ktR_3 => kernel_rfl)
    (case ktL_3 => kernel_rfl)
    (case h1_3 => k_is)
    (case h2_3 => k_is)
    (case h3_3 => k_is)
    (case h4_3 => k_is)
    (case h5_3 => k_is)
    (case h6_3 => k_is)
    (case h7_3 => k_is)
    (case h8_3 => kernel_rfl)
    (case in_3 => kernel_rfl)
    (case cN_3 => kernel_rfl)
    (case neK => k_is)
    (case nf0 => kernel_rfl)
    (case kf0 => kernel_rfl)
    (case nf1 => kernel_rfl)
    (case kf1 => kernel_rfl)
    (case nf2 => kernel_rfl)
    (case kf2 => kernel_rfl)
    (case nf3 => kernel_rfl)
    (case kf3 => kernel_rfl)

end
end
