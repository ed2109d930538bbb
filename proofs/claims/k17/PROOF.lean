import PyProof.Rows.All
import Wide.All
import OpenK.AllK
import Wide.FinOn
import PyProof.EqAt
import PyProof.EqKinds
import PyProof.TupleCall
import KE.BitLaws
import PySem.Challenge.RW_stickbodies_k17_refused_bodies
set_option Elab.async false
set_option linter.all false
set_option maxRecDepth 100000
/-! THE HAND LAYER, for ints, bools, texts, own classes, lists, tuples, dicts, comprehensions, walks over dicts, enumerate, zip, reversed, texts, calls, loops. Paste it whole ahead of your own text; what your proof does not reach may be deleted. -/
namespace L2
open PySem PySem.Spec PyProof.Rows

/-- a key: an int or a str -/
abbrev Key := Sum Int Str
def keyIs : Key → Value → Bool
  | .inl k, v => Value.isInt k v
  | .inr x, v => Value.isStrOf x v
def keyH (w : World) : Key → Int
  | .inl k => hashInt k
  | .inr x => hashStr w x
theorem keyIs_shape : ∀ {k : Key} {v : Value}, keyIs k v = true → (∃ i t, k = Sum.inl i ∧ v = Value.int i t) ∨ (∃ x t, k = Sum.inr x ∧ v = Value.str x t)
  | .inl i, v, h => by
    obtain ⟨t, e⟩ := Value.isInt_shape (k := i) (v := v) h
    exact .inl ⟨i, t, rfl, e⟩
  | .inr x, v, h => by
    obtain ⟨t, e⟩ := Value.isStrOf_shape (x := x) (v := v) h
    exact .inr ⟨x, t, rfl, e⟩
theorem key_ll (a b : Int) : decide ((Sum.inl a : Key) = Sum.inl b) = (a == b) := by
  by_cases e : a = b
  · subst e; simp
  · have h : ¬ (Sum.inl a : Key) = Sum.inl b := fun q => e (Sum.inl.inj q)
    rw [decide_eq_false h]
    exact (beq_eq_false_iff_ne.mpr e).symm
theorem key_rr (a b : Str) : decide ((Sum.inr a : Key) = Sum.inr b) = decide (a = b) := by
  by_cases e : a = b
  · subst e; simp
  · have h : ¬ (Sum.inr a : Key) = Sum.inr b := fun q => e (Sum.inr.inj q)
    rw [decide_eq_false h, decide_eq_false e]
theorem key_lr (a : Int) (b : Str) : decide ((Sum.inl a : Key) = Sum.inr b) = false := decide_eq_false (fun q => nomatch q)
theorem key_rl (a : Str) (b : Int) : decide ((Sum.inr a : Key) = Sum.inl b) = false := decide_eq_false (fun q => nomatch q)

def mixKind (prog : Program) (w : World) : PySem.KeyKind prog w Key where
  is := keyIs
  hash := keyH w
  inj := fun v a b ha hb => by
    rcases keyIs_shape ha with ⟨i, t, rfl, rfl⟩ | ⟨x, t, rfl, rfl⟩
    · rcases keyIs_shape hb with ⟨j, u, rfl, e⟩ | ⟨y, u, rfl, e⟩
      · injection e with e1 _; rw [e1]
      · exact nomatch e
    · rcases keyIs_shape hb with ⟨j, u, rfl, e⟩ | ⟨y, u, rfl, e⟩
      · exact nomatch e
      · injection e with e1 _; rw [e1]
  byValue := fun k v h => by
    rcases keyIs_shape h with ⟨i, t, rfl, rfl⟩ | ⟨x, t, rfl, rfl⟩ <;> rfl
  pyHash := fun hv h => by
    rcases keyIs_shape hv with ⟨i, t, rfl, rfl⟩ | ⟨x, t, rfl, rfl⟩
    · exact wpAny_pyHash_int h
    · exact wpAny_pyHash_str h
  eqBool := fun hu hv h => by
    rcases keyIs_shape hu with ⟨i, t, rfl, rfl⟩ | ⟨x, t, rfl, rfl⟩
    · rcases keyIs_shape hv with ⟨j, u, rfl, rfl⟩ | ⟨y, u, rfl, rfl⟩
      · rw [key_ll] at h; exact wpAny_eqBool_int h
      · rw [key_lr] at h; exact SeqAt.EqAt.int_str i t y u _ _ _ _ h
    · rcases keyIs_shape hv with ⟨j, u, rfl, rfl⟩ | ⟨y, u, rfl, rfl⟩
      · rw [key_rl] at h; exact SeqAt.EqAt.str_int x t j u _ _ _ _ h
      · rw [key_rr] at h; exact wpAny_eqBool_str h
  «strs» := fun k x t v h => by
    rcases keyIs_shape h with ⟨i, u, rfl, e⟩ | ⟨y, u, rfl, e⟩
    · exact nomatch e
    · injection e with e1 _
      subst e1
      cases v <;> rfl

theorem mixKind_is (prog : Program) (w : World) (k : Key) (v : Value) : (mixKind prog w).is k v = keyIs k v := rfl
end L2

namespace L2
open PySem PySem.Spec PyProof.Rows

/-- a value, without the heap -/
inductive V where
  | non | bl (b : Bool) | int (i : Int) | str (x : Str) | byt (b : Array UInt8) | flt (b : UInt64) | ref (a : Addr) | ty (n : String)
  deriving DecidableEq

def RelV : V → Value → Prop
  | .non, u => u = Value.none
  | .bl b, u => u = Value.bool b
  | .int i, u => ∃ t, u = Value.int i t
  | .str x, u => ∃ t, u = Value.str x t
  | .byt b, u => ∃ t, u = Value.bytes b t
  | .flt b, u => ∃ t, u = Value.float b t
  | .ref a, u => u = Value.ref a
  | .ty n, u => u = Value.type n

abbrev Vals : List V → List Value → Prop := Paired RelV
theorem Vals.length {xs : List V} {us : List Value} (r : Vals xs us) : xs.length = us.length := Paired.length r
theorem Vals.get : ∀ {xs : List V} {us : List Value} {i : Nat} {x : V}, Vals xs us → xs[i]? = some x → ∃ u, us[i]? = some u ∧ RelV x u
  | _, _, _, _, .nil, e => by simp at e
  | _, _, 0, _, .cons r _, e => by simp at e; subst e; exact ⟨_, rfl, r⟩
  | _, _, i + 1, x, .cons _ t, e => by
    obtain ⟨u, h1, h2⟩ := Vals.get (i := i) (x := x) t (by simpa using e)
    exact ⟨u, by simpa using h1, h2⟩
theorem Vals.set {x : V} {u : Value} (r : RelV x u) : ∀ {xs : List V} {us : List Value} (i : Nat), Vals xs us → Vals (xs.set i x) (us.set i u)
  | _, _, _, .nil => .nil
  | _, _, 0, .cons _ t => .cons r t
  | _, _, i + 1, .cons q t => .cons q (Vals.set r i t)
theorem Vals.append : ∀ {xs ys : List V} {us ws : List Value}, Vals xs us → Vals ys ws → Vals (xs ++ ys) (us ++ ws)
  | _, _, _, _, .nil, s => s
  | _, _, _, _, .cons r t, s => .cons r (Vals.append t s)
theorem Vals.take : ∀ {xs : List V} {us : List Value} (n : Nat), Vals xs us → Vals (xs.take n) (us.take n)
  | _, _, 0, _ => .nil
  | _, _, _ + 1, .nil => .nil
  | _, _, n + 1, .cons r t => .cons r (Vals.take n t)
theorem Vals.drop : ∀ {xs : List V} {us : List Value} (n : Nat), Vals xs us → Vals (xs.drop n) (us.drop n)
  | _, _, 0, r => r
  | _, _, _ + 1, .nil => .nil
  | _, _, n + 1, .cons _ t => Vals.drop n t
def RelO : Option V → Option Value → Prop
  | some v, some u => RelV v u
  | none, none => True
  | _, _ => False
def KV {κ : Type} : List (κ × V) → List (κ × Value) → Prop := Paired fun (p : κ × V) (q : κ × Value) => p.1 = q.1 ∧ RelV p.2 q.2

/-- a key of a dict (00_mix): an int or a text -/
def kV : Key → V
  | .inl i => .int i
  | .inr x => .str x

/-- what stands at a tracked address -/
inductive HO where
  /-- a list -/
  | lst (xs : List V)
  /-- a tuple (never changes) -/
  | tup (xs : List V)
  /-- a dict whose keys are ints and texts; one whose keys are tuples of ints and texts (the empty one is both) -/
  | dK (kvs : List (Key × V)) | dT (kvs : List (List Key × V))
  /-- a set of ints: its members, its size -/
  | set (S : Int → Bool) (n : Nat)
  /-- an instance of the class at C, its dict at dx, its attributes -/
  | ins (C dx : Addr) (fs : List (Str × V))
  /-- the dict of the instance at x -/
  | own (x : Addr)
  /-- the dict of an exception -/
  | xd (fs : List (Str × V))
  /-- a bound method, f of x -/
  | met (f x : Addr)
  /-- a range object lo, lo + 1, .. below hi -/
  | rng (lo hi : Int)
  /-- a thing that is known to the object (the script; a dict while a loop walks it): read, never written while it is so -/
  | frz (o : Obj) (u : HO)
  /-- a code object's table -/
  | tbl (ps : Array Value)
  /-- any other thing, by what is true of its one object (a def of one's own: SetO a S n := HO.ext fun h => ..) -/
  | ext (φ : Heap → Prop)

abbrev Hp := Addr → Option HO
def upd (H : Hp) (a : Addr) (o : HO) : Hp := fun b => if b = a then some o else H b
theorem upd_same {H : Hp} {a : Addr} {o : HO} : upd H a o a = some o := by unfold upd; rw [if_pos rfl]
theorem upd_ne {H : Hp} {a b : Addr} {o : HO} (h : b ≠ a) : upd H a o b = H b := by unfold upd; rw [if_neg h]
theorem ne_of_none {H : Hp} {a b : Addr} {o : HO} (h : H a = some o) (h' : H b = none) : a ≠ b := by
  intro e; subst e; rw [h] at h'; cases h'

section
variable (P : Program) (w : World)
def ObjOk (H : Hp) (h : Heap) (a : Addr) : HO → Prop
  | .lst xs => xs.length ≤ sizeLine ∧ ∃ (its : List Value) (n : Nat), Vals xs its ∧ h.get? a = some { cls := .type "list", data := .seq its.toArray n }
  | .tup xs => xs.length ≤ sizeLine ∧ ∃ its : List Value, Vals xs its ∧ IsTup h a its.toArray
  | .dK kvs => kvs.length ≤ sizeLine ∧ (a == sysModules) = false ∧ ∃ vs, KV kvs vs ∧ h.DictOf (mixKind P w) a vs
  | .dT kvs => kvs.length ≤ sizeLine ∧ (a == sysModules) = false ∧ ∃ xs : List (List Key × Addr × Value),
      Paired (fun (p : List Key × V) (q : List Key × Addr × Value) => p.1 = q.1 ∧ H q.2.1 = some (.tup (p.1.map kV)) ∧ RelV p.2 q.2.2) kvs xs ∧
      ∃ o es ep, h.get? a = some o ∧ o.ExactDict ∧ o.data = .dict es ep ∧ es.toList = xs.map (entryOfKey (tupleKind (mixKind P w))) ∧ (xs.map (·.1)).Nodup
  | .set S n => h.SetOf (intKind P w) a S n
  | .ins C dx fs => H dx = some (.own a) ∧ fs.length ≤ 1000 ∧ dx ≠ a ∧ h.get? a = some (PySem.W.instObj C dx) ∧
      ∃ mA, h.Ns1 dx mA ∧ (∀ f, RelO (fs.lookup f) (mA f)) ∧ PySem.Within mA (fs.map (·.1))
  | .own _ => ∃ o, h.get? a = some o
  | .xd fs => ∃ mA, h.Ns1 a mA ∧ ∀ f, RelO (fs.lookup f) (mA f)
  | .rng lo hi => ∃ t u v, h.get? a = some { cls := .type "range", data := .fields #[.int lo t, .int hi u, .int 1 v] }
  | .frz o u => h.get? a = some o ∧ ObjOk H h a u
  | .tbl ps => h.get? a = some { cls := .none, data := .fields ps }
  | .met f x => h.get? a = some (PySem.W.methodObj (.ref f) (.ref x))
  | .ext φ => φ h ∧ (∃ o, h.get? a = some o) ∧ ∀ h1 h2 : Heap, φ h1 → (∀ o, h1.get? a = some o → h2.get? a = some o) → φ h2
/-- the abstract heap is held -/
def HOk (H : Hp) (h : Heap) : Prop := ∀ a o, H a = some o → ObjOk P w H h a o
end

section
variable {P : Program} {w : World} {H H' : Hp} {h h' : Heap} {a : Addr} {o : HO}
theorem ObjOk.lt (x : ObjOk P w H h a o) : a < h.objs.size := by
  cases o with
  | lst xs => obtain ⟨_, _, _, _, e⟩ := x; exact Heap.lt_size e
  | tup xs => obtain ⟨_, _, _, p⟩ := x; exact p.lt
  | dK kvs => obtain ⟨_, _, _, _, o, _, _, e, _⟩ := x; exact Heap.lt_size e
  | dT kvs => obtain ⟨_, _, _, _, o, _, _, e, _⟩ := x; exact Heap.lt_size e
  | set S n => obtain ⟨o, _, _, _, e, _⟩ := x; exact Heap.lt_size e
  | ins C dx fs => obtain ⟨_, _, _, e, _⟩ := x; exact Heap.lt_size e
  | own y => obtain ⟨_, e⟩ := x; exact Heap.lt_size e
  | xd fs => obtain ⟨_, ⟨_, _, _, e, _⟩, _⟩ := x; exact Heap.lt_size e
  | rng lo hi => obtain ⟨_, _, _, e⟩ := x; exact Heap.lt_size e
  | frz ob u => obtain ⟨e, _⟩ := x; exact Heap.lt_size e
  | tbl ps => exact Heap.lt_size (show h.get? a = some _ from x)
  | met f y => exact Heap.lt_size (show h.get? a = some _ from x)
  | ext φ => obtain ⟨_, ⟨_, e⟩, _⟩ := x; exact Heap.lt_size e
theorem Paired.mapP {α β : Type} {F G : α → β → Prop} : ∀ {l₁ : List α} {l₂ : List β}, Paired F l₁ l₂ → (∀ a b, F a b → G a b) → Paired G l₁ l₂
  | _, _, .nil, _ => .nil
  | _, _, .cons r t, f => .cons (f _ _ r) (Paired.mapP t f)
/-- what an object's description leans on: its own object, its own dict, the tuples -/
theorem ObjOk.stay (x : ObjOk P w H h a o) (k : ∀ b u, (b = a ∨ H b = some (.own a)) → h.get? b = some u → h'.get? b = some u)
    (ho : ∀ b, H b = some (.own a) → H' b = some (.own a)) (ht : ∀ b xs, H b = some (.tup xs) → H' b = some (.tup xs)) : ObjOk P w H' h' a o := by
  induction o with
  | lst xs => obtain ⟨z, its, n, r, e⟩ := x; exact ⟨z, its, n, r, k _ _ (.inl rfl) e⟩
  | tup xs => obtain ⟨z, its, r, ob, e, c⟩ := x; exact ⟨z, its, r, ob, k _ _ (.inl rfl) e, c⟩
  | dK kvs => obtain ⟨z, y, vs, r, ob, es, ep, e, c⟩ := x; exact ⟨z, y, vs, r, ob, es, ep, k _ _ (.inl rfl) e, c⟩
  | dT kvs =>
    obtain ⟨z, y, xs, r, ob, es, ep, e, c⟩ := x
    exact ⟨z, y, xs, Paired.mapP r fun p q z => ⟨z.1, ht _ _ z.2.1, z.2.2⟩, ob, es, ep, k _ _ (.inl rfl) e, c⟩
  | set S n => obtain ⟨ob, es, ep, t, e, c⟩ := x; exact ⟨ob, es, ep, t, k _ _ (.inl rfl) e, c⟩
  | ins C dx fs =>
    obtain ⟨d, z, ne, e, mA, ⟨od, es, ep, e2, c⟩, r⟩ := x
    exact ⟨ho _ d, z, ne, k _ _ (.inl rfl) e, mA, ⟨od, es, ep, k _ _ (.inr d) e2, c⟩, r⟩
  | own y => obtain ⟨ob, e⟩ := x; exact ⟨ob, k _ _ (.inl rfl) e⟩
  | xd fs => obtain ⟨mA, ⟨od, es, ep, e, c⟩, r⟩ := x; exact ⟨mA, ⟨od, es, ep, k _ _ (.inl rfl) e, c⟩, r⟩
  | rng lo hi => obtain ⟨t, u, v, e⟩ := x; exact ⟨t, u, v, k _ _ (.inl rfl) e⟩
  | frz ob u ih => obtain ⟨e, q⟩ := x; exact ⟨k _ _ (.inl rfl) e, ih q⟩
  | tbl ps =>
    have e : h.get? a = some { cls := .none, data := .fields ps } := x
    show h'.get? a = some { cls := .none, data := .fields ps }
    exact k a _ (.inl rfl) e
  | met f y =>
    have e : h.get? a = some (PySem.W.methodObj (.ref f) (.ref y)) := x
    show h'.get? a = some (PySem.W.methodObj (.ref f) (.ref y))
    exact k a _ (.inl rfl) e
  | ext φ => obtain ⟨p, ⟨o, e⟩, st⟩ := x; exact ⟨st _ _ p fun o q => k _ _ (.inl rfl) q, ⟨o, k _ _ (.inl rfl) e⟩, st⟩
theorem HOk.lt (x : HOk P w H h) (e : H a = some o) : a < h.objs.size := (x a o e).lt
theorem HOk.fresh (x : HOk P w H h) (e : h.objs.size ≤ a) : H a = none := by
  cases q : H a with
  | none => rfl
  | some u => exact absurd (Nat.lt_of_lt_of_le (x.lt q) e) (Nat.lt_irrefl _)
/-- every object of the heap is kept -/
theorem HOk.kept (x : HOk P w H h) (k : ∀ b u, h.get? b = some u → h'.get? b = some u) : HOk P w H h' := fun a o e =>
  (x a o e).stay (fun b u _ q => k b u q) (fun _ q => q) fun _ _ q => q
/-- a new object is laid and tracked -/
theorem HOk.laid (x : HOk P w H h) (k : ∀ b u, h.get? b = some u → h'.get? b = some u) (hp : h.objs.size ≤ a) (new : ObjOk P w (upd H a o) h' a o) : HOk P w (upd H a o) h' := fun b u e => by
  have hn := x.fresh hp
  by_cases hb : b = a
  · subst hb; rw [upd_same] at e; cases e; exact new
  · rw [upd_ne hb] at e
    exact (x b u e).stay (fun c v _ q => k c v q) (fun c q => by rw [upd_ne (ne_of_none q hn)]; exact q) fun c xs q => by rw [upd_ne (ne_of_none q hn)]; exact q
end

/-- what may be read as u: it is u, or a known u -/
def Rd (H : Hp) (a : Addr) (u : HO) : Prop := H a = some u ∨ ∃ o, H a = some (.frz o u)
theorem Rd.of {H : Hp} {a : Addr} {u : HO} (h : H a = some u) : Rd H a u := .inl h
theorem Rd.ok {P : Program} {w : World} {H : Hp} {h : Heap} {a : Addr} {u : HO} (r : Rd H a u) (x : HOk P w H h) : ObjOk P w H h a u := by
  rcases r with r | ⟨o, r⟩
  · exact x a u r
  · obtain ⟨_, q⟩ := x a _ r
    exact q
/-- what may be written -/
def Mut : Option HO → Prop
  | some (.lst _) => True
  | some (.dK _) => True
  | some (.dT _) => True
  | some (.set _ _) => True
  | some (.ins _ _ _) => True
  | some (.ext _) => True
  | _ => False
section
variable {P : Program} {w : World} {H : Hp} {h h' : Heap} {x e : Addr} {o' : HO}
/-- the object at e is changed: x itself, or the dict of the instance x -/
theorem HOk.write (ok : HOk P w H h) (mu : Mut (H x)) (he : e = x ∨ H e = some (.own x)) (k : ∀ b u, b ≠ e → h.get? b = some u → h'.get? b = some u) (heo : ∃ u, h'.get? e = some u)
    (new : ObjOk P w (upd H x o') h' x o') : HOk P w (upd H x o') h' := fun b u q => by
  have nown : ∀ c y, H c = some (.own y) → c ≠ x := fun c y r z => by subst z; rw [r] at mu; exact mu
  have ntup : ∀ c xs, H c = some (.tup xs) → c ≠ x := fun c xs r z => by subst z; rw [r] at mu; exact mu
  by_cases hb : b = x
  · subst hb; rw [upd_same] at q; cases q; exact new
  · rw [upd_ne hb] at q
    by_cases hbe : b = e
    · have q' : H b = some (.own x) := by
        rcases he with z | z
        · exact absurd (hbe.trans z) hb
        · rw [hbe]; exact z
      rw [q] at q'; cases q'
      obtain ⟨v, hv⟩ := heo
      exact ⟨v, by rw [hbe]; exact hv⟩
    · refine (ok b u q).stay (fun c v hc r => k c v ?_ r) (fun c r => by rw [upd_ne (nown c b r)]; exact r) fun c xs r => by rw [upd_ne (ntup c xs r)]; exact r
      rcases hc with rfl | hc
      · exact hbe
      · rintro rfl
        rcases he with z | z
        · exact nown c b hc z
        · rw [hc] at z; cases z; exact hb rfl
end

/-! ### kept unless tracked; of the frames at fs (the callers') the slots may change (an exception that passes writes there); of the records at ex (iterators) nothing is said -/
structure Un (fs ex : List Addr) (H H' : Hp) (h h' : Heap) : Prop where
  keep : ∀ b o, h.get? b = some o → H b = none → b ∉ fs → b ∉ ex → h'.get? b = some o
  slot : ∀ b o, h.get? b = some o → H b = none → b ∈ fs → b ∉ ex → ∃ sl, h'.get? b = some { o with slots := sl }
  free : ∀ b o, h.get? b = some o → H b = none → b ∉ ex → H' b = none
  there : ∀ b o, h.get? b = some o → b ∉ ex → ∃ o', h'.get? b = some o'
  tups : ∀ b xs, H b = some (.tup xs) → H' b = some (.tup xs)
  frzs : ∀ b o u, H b = some (.frz o u) → H' b = some (.frz o u)
  tbls : ∀ b ps, H b = some (.tbl ps) → ∃ more, H' b = some (.tbl (ps ++ more))
section
variable {fs fs' ex ex' : List Addr} {H H1 H2 : Hp} {h h1 h2 h' : Heap} {a x e : Addr} {o : HO}
theorem Un.any (u : Un fs ex H H1 h h1) {b : Addr} {ob : Obj} (q : h.get? b = some ob) (n : H b = none) (hx : b ∉ ex) : ∃ sl, h1.get? b = some { ob with slots := sl } := by
  by_cases hb : b ∈ fs
  · exact u.slot b ob q n hb hx
  · exact ⟨ob.slots, u.keep b ob q n hb hx⟩
theorem Un.trans (a : Un fs ex H H1 h h1) (b : Un fs ex H1 H2 h1 h2) : Un fs ex H H2 h h2 where
  keep := fun c ob q n hc hx => b.keep c ob (a.keep c ob q n hc hx) (a.free c ob q n hx) hc hx
  slot := fun c ob q n hc hx => by
    obtain ⟨sl, e1⟩ := a.slot c ob q n hc hx
    obtain ⟨sl', e2⟩ := b.slot c _ e1 (a.free c ob q n hx) hc hx
    exact ⟨sl', e2⟩
  free := fun c ob q n hx => by
    obtain ⟨o', e1⟩ := a.there c ob q hx
    exact b.free c o' e1 (a.free c ob q n hx) hx
  there := fun c ob q hx => by
    obtain ⟨o', e1⟩ := a.there c ob q hx
    exact b.there c o' e1 hx
  tups := fun c xs q => b.tups c xs (a.tups c xs q)
  frzs := fun c ob xs q => b.frzs c ob xs (a.frzs c ob xs q)
  tbls := fun c ps q => by
    obtain ⟨m1, e1⟩ := a.tbls c ps q
    obtain ⟨m2, e2⟩ := b.tbls c _ e1
    exact ⟨m1 ++ m2, by rw [e2, Array.append_assoc]⟩
theorem Un.kept (k : ∀ b u, h.get? b = some u → h'.get? b = some u) : Un fs ex H H h h' :=
  ⟨fun b ob q _ _ _ => k b ob q, fun b ob q _ _ _ => ⟨ob.slots, k b ob q⟩, fun _ _ _ n _ => n, fun b ob q _ => ⟨ob, k b ob q⟩, fun _ _ q => q, fun _ _ _ q => q, fun _ ps q => ⟨#[], by rw [q]; simp⟩⟩
theorem Un.refl : Un fs ex H H h h := Un.kept fun _ _ q => q
theorem Un.laid (k : ∀ b u, h.get? b = some u → h'.get? b = some u) (hp : h.objs.size ≤ a) (hn : H a = none) : Un fs ex H (upd H a o) h h' where
  keep := fun b u q _ _ _ => k b u q
  slot := fun b u q _ _ _ => ⟨u.slots, k b u q⟩
  free := fun b u q n _ => by rw [upd_ne (Nat.ne_of_lt (Nat.lt_of_lt_of_le (Heap.lt_size q) hp))]; exact n
  there := fun b u q _ => ⟨u, k b u q⟩
  tups := fun b xs q => by rw [upd_ne (ne_of_none q hn)]; exact q
  frzs := fun b u xs q => by rw [upd_ne (ne_of_none q hn)]; exact q
  tbls := fun b ps q => ⟨#[], by rw [upd_ne (ne_of_none q hn), q]; simp⟩
theorem Un.write (mu : Mut (H x)) (he : e = x ∨ H e = some (.own x)) (k : ∀ b u, b ≠ e → h.get? b = some u → h'.get? b = some u) (heo : ∃ u, h'.get? e = some u) : Un fs ex H (upd H x o) h h' := by
  have hx : ∀ b, H b = none → b ≠ x := fun b n z => by subst z; rw [n] at mu; exact mu
  have hb : ∀ b, H b = none → b ≠ e := fun b n z => by
    subst z
    rcases he with r | r
    · exact hx b n r
    · rw [n] at r; cases r
  have hm : ∀ b u, H b = some u → ¬ Mut (some u) → b ≠ x := fun b u q nm z => by subst z; rw [q] at mu; exact nm mu
  refine ⟨fun b u q n _ _ => k b u (hb b n) q, fun b u q n _ _ => ⟨u.slots, k b u (hb b n) q⟩, fun b u q n _ => by rw [upd_ne (hx b n)]; exact n, fun b u q _ => ?_,
    fun b xs q => by rw [upd_ne (hm b _ q fun z => z)]; exact q, fun b u xs q => by rw [upd_ne (hm b _ q fun z => z)]; exact q, fun b ps q => ⟨#[], by rw [upd_ne (hm b _ q fun z => z), q]; simp⟩⟩
  by_cases hbe : b = e
  · subst hbe; exact heo
  · exact ⟨u, k b u hbe q⟩
end

/-! ### the heap without what is tracked -/
def trk (h : Heap) (H : Hp) : List Addr := (List.range h.objs.size).filter fun a => (H a).isSome
def hidT (h : Heap) (H : Hp) : Heap := PySem.W.hideAll h (trk h H)
theorem hidT_size (h : Heap) (H : Hp) : (hidT h H).objs.size = h.objs.size := PySem.W.hideAll_size _ _
theorem hidT_get {h : Heap} {H : Hp} {b : Addr} {o : Obj} (e : h.get? b = some o) (n : H b = none) : (hidT h H).get? b = some o :=
  PySem.W.hideAll_get _ e fun hm => by
    have q : (H b).isSome = true := (List.mem_filter.mp hm).2
    rw [n] at q; simp at q
theorem of_hidT {h : Heap} {H : Hp} {b : Addr} {o : Obj} (e : (hidT h H).get? b = some o) : h.get? b = some o ∧ H b = none := by
  have e' : h.get? b = some o := PySem.W.of_hideAll (trk h H) e
  refine ⟨e', ?_⟩
  cases q : H b with
  | none => rfl
  | some x =>
    have hm : b ∈ trk h H := List.mem_filter.mpr ⟨List.mem_range.mpr (Heap.lt_size e'), by simp [q]⟩
    have z : (hidT h H).get? b = none := PySem.W.hideAll_none (trk h H) hm
    rw [z] at e; cases e

/-! ### OpenK's ledger, filled with every new object but one -/
def allNews (g h : Heap) (L : Addr) : List (Addr × Obj) := (List.range h.objs.size).filterMap fun a => if a = L ∨ (g.get? a).isSome = true then none else (h.get? a).map fun o => (a, o)
def rest (g h : Heap) (L d : Addr) : List (Addr × Obj) := (allNews g h L).filter fun p => decide (p.1 ≠ d)
end L2

namespace L2
open PySem PySem.Spec PyProof.Rows

/-- the module's facts, over the base: the heap at the law's entry without what is tracked there -/
structure Mod (K : PySem.W.Frag) (mg : Str → Option Value) (base : Heap) : Prop where
  kin : K.In base
  glob : base.Ns mainGlobals mg
  blt : ∃ mb, base.Ns builtinsNs mb ∧ ∀ x : Str, x ≠ "__name__" → mb x = bootBuiltins x
  nolimit : base.NoLimit

/-- the context: a def's body (or a comprehension's block) running. base: fixed through the whole law; s₀, H₀: the entry; outer: the frames whose slots others may change (a def's callers); stack: all frames that run;
   ex: iterators that were made ahead of the entry and are walked here (a comprehension's); fn: the names whose cells were made at the entry (a def: all; a comprehension's block: its own); calm: not within an except suite; pn: pins that every state bears; xe: what is wanted of an exception that leaves the code -/
structure Cx where
  prog : Program
  w : World
  K : PySem.W.Frag
  mg : Str → Option Value
  base : Heap
  A : Around
  N : List Str
  s_0 : Shared
  H_0 : Hp
  env : Env
  outer : List Env
  stack : List Env
  ex : List Addr
  fn : Str → Bool
  calm : Bool
  pn : List (Addr × Obj)
  xe : Value → Shared → Prop
/-- the callers' frames -/
def frs (l : List Env) : List Addr := l.filterMap (·.frame)
abbrev Cx.fs (X : Cx) : List Addr := frs X.outer

def Vis (sc : Scope) (x : Str) : Prop := sc.names.lookup x = some .local ∨ sc.names.lookup x = some .cell ∨ sc.names.lookup x = some .free
def Loc (sc : Scope) (x : Str) : Prop := sc.names.lookup x = some .local ∨ sc.names.lookup x = some .cell
def Look (env : Env) (h : Heap) (m : Str → Option Value) (x : Str) (u : Value) : Prop :=
  (env.kindOf x = some .local ∧ m x = some u) ∨ ((env.kindOf x = some .cell ∨ env.kindOf x = some .free) ∧ ∃ c, env.cells.lookup x = some c ∧ h.IsCell c (some u))

structure Cx.Ok (X : Cx) : Prop where
  mod : Mod X.K X.mg X.base
  kind : X.env.scope.kind = .function
  glob : X.env.globals = mainGlobals
  blt : X.env.builtins = builtinsNs
  above : X.s_0.heap.objs.size ≤ X.env.locals
  inj : ∀ x y c, X.env.cells.lookup x = some c → X.env.cells.lookup y = some c → x = y
  has : ∀ x, (X.env.kindOf x = some .cell ∨ X.env.kindOf x = some .free) → ∃ c, X.env.cells.lookup x = some c
  cab : ∀ x c, X.fn x = true → X.env.cells.lookup x = some c → X.s_0.heap.objs.size ≤ c
  hd : X.calm = true → X.A.handled = none
  frames : X.A.frames = some X.stack
  stk : X.stack = X.outer ∨ (X.stack = X.env :: X.outer ∧ X.env.frame = some X.env.locals)
  exf : ∀ b ∈ X.ex, b ≠ X.env.locals ∧ ∀ x c, X.env.cells.lookup x = some c → c ≠ b
  bs : ∀ b o, X.base.get? b = some o → X.s_0.heap.get? b = some o ∧ X.H_0 b = none
  bsz : X.base.objs.size ≤ X.s_0.heap.objs.size
  noex : ∀ b o, X.base.get? b = some o → b ∉ X.ex
  exfs : ∀ b ∈ X.ex, b ∉ X.fs
  funs : X.s_0.heap.FunFrames X.base X.outer
  frf : ∀ b ∈ X.fs, X.H_0 b = none

structure Inv (X : Cx) (pins : List (Addr × Obj)) (σ : List (Option V)) (H : Hp) (s : Shared) : Prop where
  ok : X.Ok
  os : s.os = X.s_0.os
  bare : AllBare s.gens
  base : Un X.fs X.ex X.H_0 H X.s_0.heap s.heap
  loc : ∃ m, s.heap.Ns X.env.locals m ∧ ∀ (i : Nat) (x : Str) (v : V), X.N[i]? = some x → σ[i]? = some (some v) → Vis X.env.scope x → ∃ u, RelV v u ∧ Look X.env s.heap m x u
  cell : ∀ x c, X.env.cells.lookup x = some c → ∃ v, s.heap.IsCell c v
  free : H X.env.locals = none
  freeC : ∀ x c, X.env.cells.lookup x = some c → H c = none
  pin : ∀ p ∈ X.pn ++ pins, s.heap.get? p.1 = some p.2 ∧ H p.1 = none ∧ p.1 ≠ X.env.locals ∧ p.1 ∉ X.fs ∧ ∀ v, p.2.data ≠ .cell v
  hok : HOk X.prog X.w H s.heap
  len : σ.length = X.N.length

section
variable {X : Cx} {pins : List (Addr × Obj)} {σ : List (Option V)} {H H' : Hp} {s : Shared} {h' : Heap}

theorem Cx.Ok.nofr (ok : X.Ok) {b : Addr} {o : Obj} (e : X.base.get? b = some o) : b ∉ X.fs := fun hb => by
  have := (ok.funs.mem hb).1
  rw [e] at this; cases this
theorem Inv.bs (I : Inv X pins σ H s) : ∀ b o, X.base.get? b = some o → s.heap.get? b = some o ∧ H b = none := fun b o e =>
  ⟨I.base.keep b o (I.ok.bs b o e).1 (I.ok.bs b o e).2 (I.ok.nofr e) (I.ok.noex b o e), I.base.free b o (I.ok.bs b o e).1 (I.ok.bs b o e).2 (I.ok.noex b o e)⟩
theorem Inv.bk (I : Inv X pins σ H s) : ∀ b o, X.base.get? b = some o → s.heap.get? b = some o := fun b o e => (I.bs b o e).1
theorem Inv.mod (I : Inv X pins σ H s) : Mod X.K X.mg X.base := I.ok.mod
theorem Inv.kIn (I : Inv X pins σ H s) : X.K.In s.heap := I.ok.mod.kin.keeps I.bk
/-- the frame over the base: for OpenK's rules (K.In X.base is I.mod.kin) -/
theorem Inv.fr (I : Inv X pins σ H s) : ∃ m, Fr X.base X.env.locals s.heap m :=
  let ⟨m, hn, _⟩ := I.loc
  ⟨m, hn, I.bk, Nat.le_trans I.ok.bsz I.ok.above⟩
theorem Inv.lt (I : Inv X pins σ H s) : X.env.locals < s.heap.objs.size := let ⟨_, hn, _⟩ := I.loc; hn.lt
theorem Inv.sz (I : Inv X pins σ H s) : X.s_0.heap.objs.size ≤ s.heap.objs.size := Nat.le_trans I.ok.above (Nat.le_of_lt I.lt)
theorem Inv.nofs (I : Inv X pins σ H s) {a : Addr} (h : s.heap.objs.size ≤ a) : a ∉ X.fs := fun hb => by
  obtain ⟨_, o, ho, _⟩ := I.ok.funs.mem hb
  exact absurd (Nat.lt_of_lt_of_le (Heap.lt_size ho) (Nat.le_trans I.sz h)) (Nat.lt_irrefl _)
theorem Inv.cne (I : Inv X pins σ H s) : ∀ x c, X.env.cells.lookup x = some c → c ≠ X.env.locals := fun x c e z => by
  obtain ⟨v, o, ho, hd⟩ := I.cell x c e
  obtain ⟨m, ⟨o', es, ep, ho', hd', _⟩, _⟩ := I.loc
  rw [z, ho'] at ho; cases ho; rw [hd'] at hd; cases hd
theorem Inv.funs (I : Inv X pins σ H s) : s.heap.FunFrames X.base X.outer := by
  have all : ∀ (l : List Env), (∀ b ∈ frs l, b ∈ X.fs) → X.s_0.heap.FunFrames X.base l → s.heap.FunFrames X.base l := by
    intro l
    induction l with
    | nil => intro _ _; trivial
    | cons env r ih =>
      intro hs hl
      obtain ⟨hk, ⟨L, o, hf, hn, ho, hd⟩, hr⟩ := hl
      have hL : L ∈ X.fs := hs L (by unfold frs; rw [List.filterMap_cons, hf]; exact List.mem_cons_self)
      obtain ⟨sl, e⟩ := I.base.slot L o ho (I.ok.frf L hL) hL fun z => I.ok.exfs L z hL
      exact ⟨hk, ⟨L, _, hf, hn, e, hd⟩, ih (fun b hb => hs b (by unfold frs; rw [List.filterMap_cons, hf]; exact List.mem_cons_of_mem _ hb)) hr⟩
  exact all X.outer (fun _ hb => hb) I.ok.funs

/-- the frames that run, for a call -/
theorem Inv.stack (I : Inv X pins σ H s) : s.heap.FunFrames X.base X.stack := by
  rcases I.ok.stk with e | ⟨e, hf⟩
  · rw [e]; exact I.funs
  · rw [e]
    obtain ⟨m, hn, _⟩ := I.loc
    refine .cons (by rw [I.ok.kind]; decide) hf hn ?_ I.funs
    exact Heap.get?_none_of_le (Nat.le_trans I.ok.bsz I.ok.above)
theorem Inv.stkSub (I : Inv X pins σ H s) : ∀ b ∈ frs X.stack, b ∈ X.env.locals :: X.fs := fun b hb => by
  rcases I.ok.stk with e | ⟨e, hf⟩
  · rw [e] at hb; exact List.mem_cons_of_mem _ hb
  · rw [e] at hb
    unfold frs at hb
    rw [List.filterMap_cons, hf] at hb
    exact hb
theorem Inv.stkFree (I : Inv X pins σ H s) : ∀ b ∈ frs X.stack, H b = none := fun b hb => by
  rcases List.mem_cons.mp (I.stkSub b hb) with e | hb
  · rw [e]; exact I.free
  · obtain ⟨_, o, ho, _⟩ := I.ok.funs.mem hb
    exact I.base.free b o ho (I.ok.frf b hb) fun z => I.ok.exfs b z hb

/-- THE STEP: the untracked objects but the frame and the records at ch are kept (the callers' frames up to slots), the frame's map is kept, the new abstract heap is held -/
theorem Inv.step {g' : Array GenState} {t' : Nat} {d' : Drawn} {ch : List Addr} (I : Inv X pins σ H s)
    (hch : ∀ b ∈ ch, (b ∈ X.ex ∨ X.s_0.heap.objs.size ≤ b) ∧ b ≠ X.env.locals ∧ (∀ x c, X.env.cells.lookup x = some c → c ≠ b) ∧ ∀ p ∈ X.pn ++ pins, p.1 ≠ b)
    (keep : ∀ b o, b ≠ X.env.locals → b ∉ X.fs → b ∉ ch → s.heap.get? b = some o → H b = none → h'.get? b = some o)
    (slot : ∀ b o, b ≠ X.env.locals → b ∈ X.fs → b ∉ ch → s.heap.get? b = some o → H b = none → ∃ sl, h'.get? b = some { o with slots := sl }) (free : ∀ b o, b ∉ ch → s.heap.get? b = some o → H b = none → H' b = none)
    (there : ∀ b o, b ∉ ch → s.heap.get? b = some o → ∃ o', h'.get? b = some o')
    (tups : ∀ b xs, H b = some (.tup xs) → H' b = some (.tup xs)) (frzs : ∀ b o u, H b = some (.frz o u) → H' b = some (.frz o u)) (tbls : ∀ b ps, H b = some (.tbl ps) → ∃ more, H' b = some (.tbl (ps ++ more)))
    (ns : ∀ m, s.heap.Ns X.env.locals m → h'.Ns X.env.locals m) (hok : HOk X.prog X.w H' h') (hg : AllBare g') :
    Inv X pins σ H' { s with heap := h', gens := g', drawn := d', toks := t' } := by
  have neL : ∀ b o, X.s_0.heap.get? b = some o → b ≠ X.env.locals := fun b o e => Nat.ne_of_lt (Nat.lt_of_lt_of_le (Heap.lt_size e) I.ok.above)
  have neC : ∀ b o, X.s_0.heap.get? b = some o → b ∉ X.ex → b ∉ ch := fun b o e hx hb => by
    rcases (hch b hb).1 with z | z
    · exact hx z
    · exact absurd (Nat.lt_of_lt_of_le (Heap.lt_size e) z) (Nat.lt_irrefl _)
  have cellK : ∀ x c, X.env.cells.lookup x = some c → ∀ v, s.heap.IsCell c v → h'.IsCell c v := fun x c e v ⟨o, ho, hd⟩ => by
    have nch : c ∉ ch := fun z => (hch c z).2.2.1 x c e rfl
    by_cases hc : c ∈ X.fs
    · obtain ⟨sl, q⟩ := slot c o (I.cne x c e) hc nch ho (I.freeC x c e)
      exact ⟨_, q, hd⟩
    · exact ⟨o, keep c o (I.cne x c e) hc nch ho (I.freeC x c e), hd⟩
  refine ⟨I.ok, I.os, hg, ⟨fun b o e n hb hx => ?_, fun b o e n hb hx => ?_, fun b o e n hx => ?_, fun b o e hx => ?_, fun b xs e => tups b xs (I.base.tups b xs e), fun b o xs e => frzs b o xs (I.base.frzs b o xs e), fun b ps e => ?_⟩, ?_, fun x c e => ?_, ?_, fun x c e => ?_, fun p hp => ?_, hok, I.len⟩
  · exact keep b o (neL b o e) hb (neC b o e hx) (I.base.keep b o e n hb hx) (I.base.free b o e n hx)
  · obtain ⟨sl, e1⟩ := I.base.slot b o e n hb hx
    obtain ⟨sl', e2⟩ := slot b _ (neL b o e) hb (neC b o e hx) e1 (I.base.free b o e n hx)
    exact ⟨sl', e2⟩
  · obtain ⟨o', e1⟩ := I.base.there b o e hx
    exact free b o' (neC b o e hx) e1 (I.base.free b o e n hx)
  · obtain ⟨o', e1⟩ := I.base.there b o e hx
    exact there b o' (neC b o e hx) e1
  · obtain ⟨m1, e1⟩ := I.base.tbls b ps e
    obtain ⟨m2, e2⟩ := tbls b _ e1
    exact ⟨m1 ++ m2, by rw [e2, Array.append_assoc]⟩
  · obtain ⟨m, hn, hl⟩ := I.loc
    refine ⟨m, ns m hn, fun i x v e1 e2 e3 => ?_⟩
    obtain ⟨u, r, l⟩ := hl i x v e1 e2 e3
    refine ⟨u, r, ?_⟩
    rcases l with l | ⟨k, c, e, z⟩
    · exact .inl l
    · exact .inr ⟨k, c, e, cellK x c e _ z⟩
  · obtain ⟨v, z⟩ := I.cell x c e
    exact ⟨v, cellK x c e v z⟩
  · obtain ⟨m, ⟨o, _, _, ho, _⟩, _⟩ := I.loc
    exact free _ o (fun z => (hch _ z).2.1 rfl) ho I.free
  · obtain ⟨v, o, ho, hd⟩ := I.cell x c e
    exact free c o (fun z => (hch c z).2.2.1 x c e rfl) ho (I.freeC x c e)
  · obtain ⟨e, n, ne, nf, d⟩ := I.pin p hp
    have nch : p.1 ∉ ch := fun z => (hch p.1 z).2.2.2 p hp rfl
    exact ⟨keep p.1 p.2 ne nf nch e n, free p.1 p.2 nch e n, ne, nf, d⟩
/-- .. where the frame's own object is kept too -/
theorem Inv.un {t' : Nat} (I : Inv X pins σ H s) (u : Un X.fs [] H H' s.heap h') (hok : HOk X.prog X.w H' h') : Inv X pins σ H' { s with heap := h', toks := t' } := by
  obtain ⟨m, ⟨o, es, ep, ho, r⟩, _⟩ := id I.loc
  obtain ⟨sl, hL⟩ := u.any ho I.free (by simp)
  exact I.step (g' := s.gens) (d' := s.drawn) (ch := []) (fun _ z => nomatch z) (fun b o _ hb _ e n => u.keep b o e n hb (by simp)) (fun b o _ hb _ e n => u.slot b o e n hb (by simp)) (fun b o _ e n => u.free b o e n (by simp)) (fun b o _ e => u.there b o e (by simp)) u.tups u.frzs u.tbls (fun m' hm => by
    obtain ⟨o', es', ep', ho', r'⟩ := hm
    rw [ho] at ho'; cases ho'
    exact ⟨_, es', ep', hL, r'⟩) hok I.bare
/-- behind a call (or a comprehension's block): the slots of this frame may have changed too, the records at ch may have turned -/
theorem Inv.call {g' : Array GenState} {t' : Nat} {d' : Drawn} {ch : List Addr} (I : Inv X pins σ H s) (u : Un (frs X.stack) ch H H' s.heap h') (hok : HOk X.prog X.w H' h') (hg : AllBare g')
    (hch : ∀ b ∈ ch, (b ∈ X.ex ∨ X.s_0.heap.objs.size ≤ b) ∧ b ≠ X.env.locals ∧ (∀ x c, X.env.cells.lookup x = some c → c ≠ b) ∧ ∀ p ∈ X.pn ++ pins, p.1 ≠ b) :
    Inv X pins σ H' { s with heap := h', gens := g', drawn := d', toks := t' } := by
  obtain ⟨m, ⟨o, es, ep, ho, r⟩, _⟩ := id I.loc
  obtain ⟨sl, hL⟩ := u.any ho I.free fun z => (hch _ z).2.1 rfl
  exact I.step (ch := ch) hch (fun b o hL hb hc e n => u.keep b o e n (fun z => (List.mem_cons.mp (I.stkSub b z)).elim hL hb) hc) (fun b o _ _ hc e n => u.any e n hc) (fun b o hc e n => u.free b o e n hc) (fun b o hc e => u.there b o e hc) u.tups u.frzs u.tbls (fun m' hm => by
    obtain ⟨o', es', ep', ho', r'⟩ := hm
    rw [ho] at ho'; cases ho'
    exact ⟨_, es', ep', hL, r'⟩) hok hg
/-- an untracked record of ours (an iterator) has turned -/
theorem Inv.turned {t' : Nat} {it : Addr} (I : Inv X pins σ H s) (k : ∀ b o, b ≠ it → s.heap.get? b = some o → h'.get? b = some o) (hn : H it = none) (hL : it ≠ X.env.locals)
    (h1 : it ∈ X.ex ∨ X.s_0.heap.objs.size ≤ it) (h2 : ∀ x c, X.env.cells.lookup x = some c → c ≠ it) (h3 : ∀ p ∈ X.pn ++ pins, p.1 ≠ it) : Inv X pins σ H { s with heap := h', toks := t' } := by
  have nit : ∀ b u, H b = some u → b ≠ it := fun b u e z => by rw [z, hn] at e; cases e
  refine I.step (g' := s.gens) (d' := s.drawn) (ch := [it]) (fun b hb => ?_) (fun b o _ _ hc e _ => k b o (fun z => hc (by simp [z])) e) (fun b o _ _ hc e _ => ⟨o.slots, k b o (fun z => hc (by simp [z])) e⟩) (fun _ _ _ _ n => n)
    (fun b o hc e => ⟨o, k b o (fun z => hc (by simp [z])) e⟩) (fun _ _ e => e) (fun _ _ _ e => e) (fun b ps e => ⟨#[], by rw [e]; simp⟩) (fun m hm => ?_) (fun b u e => ?_) I.bare
  · have e : b = it := by simpa using hb
    subst e
    exact ⟨h1, hL, h2, h3⟩
  · obtain ⟨o, es, ep, ho, r⟩ := hm
    exact ⟨o, es, ep, k _ o (Ne.symm hL) ho, r⟩
  · refine (I.hok b u e).stay (fun c v hc q => k c v ?_ q) (fun _ q => q) fun _ _ q => q
    rcases hc with z | z
    · rw [z]; exact nit b u e
    · exact nit c _ z
theorem Inv.tok (I : Inv X pins σ H s) (t : Nat) : Inv X pins σ H { s with toks := t } := I.un (h' := s.heap) (t' := t) Un.refl I.hok
/-- all objects kept -/
theorem Inv.kept {t' : Nat} (I : Inv X pins σ H s) (k : ∀ b u, s.heap.get? b = some u → h'.get? b = some u) : Inv X pins σ H { s with heap := h', toks := t' } := I.un (Un.kept k) (I.hok.kept k)
/-- a new object laid and tracked -/
theorem Inv.laid {a : Addr} {o : HO} {t' : Nat} (I : Inv X pins σ H s) (k : ∀ b u, s.heap.get? b = some u → h'.get? b = some u) (hp : s.heap.objs.size ≤ a) (new : ObjOk X.prog X.w (upd H a o) h' a o) :
    Inv X pins σ (upd H a o) { s with heap := h', toks := t' } := I.un (Un.laid k hp (I.hok.fresh hp)) (I.hok.laid k hp new)
/-- an object written -/
theorem Inv.write {x e : Addr} {o : HO} {t' : Nat} (I : Inv X pins σ H s) (mu : Mut (H x)) (he : e = x ∨ H e = some (.own x)) (k : ∀ b u, b ≠ e → s.heap.get? b = some u → h'.get? b = some u) (heo : ∃ u, h'.get? e = some u)
    (new : ObjOk X.prog X.w (upd H x o) h' x o) : Inv X pins σ (upd H x o) { s with heap := h', toks := t' } := I.un (Un.write mu he k heo) (I.hok.write mu he k heo new)
/-- forgetting slots, pins -/
theorem Inv.weak {σ' : List (Option V)} (I : Inv X pins σ H s) (hl : σ'.length = σ.length) (w : ∀ (i : Nat) v, σ'[i]? = some (some v) → σ[i]? = some (some v)) : Inv X pins σ' H s :=
  ⟨I.ok, I.os, I.bare, I.base, let ⟨m, hn, hl'⟩ := I.loc; ⟨m, hn, fun i x v e1 e2 e3 => hl' i x v e1 (w i v e2) e3⟩, I.cell, I.free, I.freeC, I.pin, I.hok, hl.trans I.len⟩
theorem Inv.pins_of {pins' : List (Addr × Obj)} (I : Inv X pins σ H s) (h : ∀ p ∈ pins', s.heap.get? p.1 = some p.2 ∧ H p.1 = none ∧ p.1 ≠ X.env.locals ∧ p.1 ∉ X.fs ∧ ∀ v, p.2.data ≠ .cell v) : Inv X pins' σ H s :=
  ⟨I.ok, I.os, I.bare, I.base, I.loc, I.cell, I.free, I.freeC, fun p hp => (List.mem_append.mp hp).elim (fun z => I.pin p (List.mem_append_left _ z)) (h p), I.hok, I.len⟩

theorem nodup_ix {N : List Str} (hN : N.Nodup) {i j : Nat} {x : Str} (a : N[i]? = some x) (b : N[j]? = some x) : i = j := by
  obtain ⟨h1, e1⟩ := List.getElem?_eq_some_iff.mp a
  obtain ⟨h2, e2⟩ := List.getElem?_eq_some_iff.mp b
  exact (List.getElem_inj hN).mp (e1.trans e2.symm)

/-- a name is stored; what changed -/
theorem store_ok2 {M : Model} {A : Around} {E : Value → Shared → Prop} {i : Nat} {x : Str} {v : V} {u : Value} {Q : Unit → Shared → Prop} (I : Inv X pins σ H s) (hN : X.N.Nodup) (hi : X.N[i]? = some x) (hx : Loc X.env.scope x) (r : RelV v u)
    (h : ∀ s', Inv X pins (σ.set i (some v)) H s' → (∃ a, Heap.SameBut a s.heap s'.heap ∧ (a = X.env.locals ∨ X.env.cells.lookup x = some a)) → Q () s') (hf : X.fn x = true ∨ X.env.scope.names.lookup x = some .local := by first | exact .inl rfl | exact .inr rfl | assumption) : wpAny M A (storeName X.env x u) Q E s := by
  obtain ⟨m, hn, hl⟩ := id I.loc
  have hcls : (X.env.scope.kind == .class || (X.env.scope.kind == .module && X.env.locals != X.env.globals)) = false := by rw [I.ok.kind]; rfl
  have hiσ : i < σ.length := by rw [I.len]; exact (List.getElem?_eq_some_iff.mp hi).1
  have cne := I.cne
  have tracked : ∀ {a : Addr} {h' : Heap}, (∃ o, s.heap.get? a = some o ∧ H a = none) → Heap.SameBut a s.heap h' → HOk X.prog X.w H h' := fun {a h'} ha hs b ob e => by
    obtain ⟨_, _, hfree⟩ := ha
    refine (I.hok b ob e).stay (fun c w' hc q => (hs.2 c ?_).trans q) (fun _ q => q) fun _ _ q => q
    rintro rfl
    rcases hc with rfl | hc
    · rw [hfree] at e; cases e
    · rw [hfree] at hc; cases hc
  rcases hx with hk | hk
  · refine wpAny_storeName_local hk hn (fun h' hn' hs => ?_) hcls
    obtain ⟨oL, _, _, hoL, _⟩ := id hn
    refine h _ ⟨I.ok, I.os, I.bare, ⟨fun b o e n hb hx => ?_, fun b o e n hb hx => ?_, I.base.free, fun b o e hx => ?_, I.base.tups, I.base.frzs, I.base.tbls⟩, ⟨_, hn', fun j y v' e1 e2 e3 => ?_⟩, fun y c e => ?_, I.free, I.freeC, fun p hp => ?_, tracked ⟨oL, hoL, I.free⟩ hs, by simpa using I.len⟩ ⟨_, hs, .inl rfl⟩
    · exact (hs.2 b (Nat.ne_of_lt (Nat.lt_of_lt_of_le (Heap.lt_size e) I.ok.above))).trans (I.base.keep b o e n hb hx)
    · obtain ⟨sl, e1⟩ := I.base.slot b o e n hb hx
      exact ⟨sl, (hs.2 b (Nat.ne_of_lt (Nat.lt_of_lt_of_le (Heap.lt_size e) I.ok.above))).trans e1⟩
    · obtain ⟨o', e1⟩ := I.base.there b o e hx
      exact ⟨o', (hs.2 b (Nat.ne_of_lt (Nat.lt_of_lt_of_le (Heap.lt_size e) I.ok.above))).trans e1⟩
    · by_cases hj : j = i
      · subst hj
        rw [hi] at e1; cases e1
        rw [List.getElem?_set_self hiσ] at e2
        cases e2
        exact ⟨u, r, .inl ⟨hk, by simp⟩⟩
      · rw [List.getElem?_set_ne (Ne.symm hj)] at e2
        obtain ⟨u', r', q⟩ := hl j y v' e1 e2 e3
        refine ⟨u', r', ?_⟩
        rcases q with ⟨k, e⟩ | ⟨k, c, e, z⟩
        · refine .inl ⟨k, ?_⟩
          have : y ≠ x := fun e => hj (nodup_ix hN e1 (e ▸ hi))
          simp [this, e]
        · exact .inr ⟨k, c, e, z.sameBut hs (cne y c e)⟩
    · obtain ⟨w', z⟩ := I.cell y c e
      exact ⟨w', z.sameBut hs (cne y c e)⟩
    · obtain ⟨e, n, ne, nf, d⟩ := I.pin p hp
      exact ⟨(hs.2 p.1 ne).trans e, n, ne, nf, d⟩
  · have hfn : X.fn x = true := by
      rcases hf with z | z
      · exact z
      · rw [z] at hk; cases hk
    obtain ⟨c, hc⟩ := I.ok.has x (.inl hk)
    obtain ⟨w', z⟩ := I.cell x c hc
    refine wpAny_storeName_cell I.ok.kind hk hc z (fun h' hc' hs => ?_)
    obtain ⟨oc, hoc, hocd⟩ := id z
    refine h { s with heap := h' } ⟨I.ok, I.os, I.bare, ⟨fun b o e n hb hx => ?_, fun b o e n hb hx => ?_, I.base.free, fun b o e hx => ?_, I.base.tups, I.base.frzs, I.base.tbls⟩, ⟨m, hn.sameBut hs (Ne.symm (cne x c hc)), fun j y v' e1 e2 e3 => ?_⟩, fun y c' e => ?_, I.free, I.freeC, fun p hp => ?_, tracked ⟨oc, hoc, I.freeC x c hc⟩ hs, by simpa using I.len⟩ ⟨c, hs, .inr hc⟩
    · exact (hs.2 b (Nat.ne_of_lt (Nat.lt_of_lt_of_le (Heap.lt_size e) (I.ok.cab x c hfn hc)))).trans (I.base.keep b o e n hb hx)
    · obtain ⟨sl, e1⟩ := I.base.slot b o e n hb hx
      exact ⟨sl, (hs.2 b (Nat.ne_of_lt (Nat.lt_of_lt_of_le (Heap.lt_size e) (I.ok.cab x c hfn hc)))).trans e1⟩
    · obtain ⟨o', e1⟩ := I.base.there b o e hx
      exact ⟨o', (hs.2 b (Nat.ne_of_lt (Nat.lt_of_lt_of_le (Heap.lt_size e) (I.ok.cab x c hfn hc)))).trans e1⟩
    · by_cases hj : j = i
      · subst hj
        rw [hi] at e1; cases e1
        rw [List.getElem?_set_self hiσ] at e2
        cases e2
        exact ⟨u, r, .inr ⟨.inl hk, c, hc, hc'⟩⟩
      · rw [List.getElem?_set_ne (Ne.symm hj)] at e2
        obtain ⟨u', r', q⟩ := hl j y v' e1 e2 e3
        refine ⟨u', r', ?_⟩
        rcases q with q | ⟨k, c', e, z'⟩
        · exact .inl q
        · refine .inr ⟨k, c', e, z'.sameBut hs ?_⟩
          rintro rfl
          exact hj (nodup_ix hN e1 (I.ok.inj _ _ _ e hc ▸ hi))
    · by_cases hcc : c' = c
      · subst hcc; exact ⟨_, hc'⟩
      · obtain ⟨w2, z2⟩ := I.cell y c' e
        exact ⟨w2, z2.sameBut hs hcc⟩
    · obtain ⟨e, n, ne, nf, d⟩ := I.pin p hp
      refine ⟨(hs.2 p.1 ?_).trans e, n, ne, nf, d⟩
      intro q
      rw [q, hoc] at e
      have q' : oc = p.2 := Option.some.inj e
      exact d w' (by rw [← q']; exact hocd)
theorem store_ok {M : Model} {A : Around} {E : Value → Shared → Prop} {i : Nat} {x : Str} {v : V} {u : Value} {Q : Unit → Shared → Prop} (I : Inv X pins σ H s) (hN : X.N.Nodup) (hi : X.N[i]? = some x) (hx : Loc X.env.scope x) (r : RelV v u)
    (h : ∀ s', Inv X pins (σ.set i (some v)) H s' → Q () s') (hf : X.fn x = true ∨ X.env.scope.names.lookup x = some .local := by first | exact .inl rfl | exact .inr rfl | assumption) : wpAny M A (storeName X.env x u) Q E s :=
  store_ok2 I hN hi hx r (fun s' I' _ => h s' I') hf
/-- behind a call or a block, the state as it is -/
theorem Inv.call' {s' : Shared} {ch : List Addr} (I : Inv X pins σ H s) (ho : s'.os = s.os) (u : Un (frs X.stack) ch H H' s.heap s'.heap) (hok : HOk X.prog X.w H' s'.heap) (hg : AllBare s'.gens)
    (hch : ∀ b ∈ ch, (b ∈ X.ex ∨ X.s_0.heap.objs.size ≤ b) ∧ b ≠ X.env.locals ∧ (∀ x c, X.env.cells.lookup x = some c → c ≠ b) ∧ ∀ p ∈ X.pn ++ pins, p.1 ≠ b) : Inv X pins σ H' s' := by
  obtain ⟨h', g', d', t', o'⟩ := s'
  have e : o' = s.os := ho
  subst e
  exact I.call (g' := g') (t' := t') (d' := d') u hok hg hch
end

/-! ### the judgements -/
/-- an exception: its class, its own dict's address (where it has one), the abstract heap behind it -/
abbrev XK := Value → Option Addr → Hp → Prop
abbrev St := List (Option V)
abbrev VK := V → Hp → Prop
/-- an expression's reading; a test's; an argument list's -/
abbrev TE := St → Hp → VK → Prop
abbrev TT := St → Hp → (Bool → Hp → Prop) → Prop
abbrev TA := St → Hp → (List V → Hp → Prop) → Prop
/-- what is wanted behind a statement -/
structure Ends where
  nx : St → Hp → Prop
  rt : VK
  bk : St → Hp → Prop := fun _ _ => False
  ct : St → Hp → Prop := fun _ _ => False
abbrev TS := Ends → St → Hp → Prop

def EP (X : Cx) (pins : List (Addr × Obj)) (σ : St) (Q : VK) (u : Value) (s' : Shared) : Prop := ∃ v H', Inv X pins σ H' s' ∧ RelV v u ∧ Q v H'
def TP (X : Cx) (pins : List (Addr × Obj)) (σ : St) (Q : Bool → Hp → Prop) (b : Bool) (s' : Shared) : Prop := ∃ H', Inv X pins σ H' s' ∧ Q b H'
def AP (X : Cx) (pins : List (Addr × Obj)) (σ : St) (Q : List V → Hp → Prop) (us : List Value) (s' : Shared) : Prop := ∃ vs H', Inv X pins σ H' s' ∧ Vals vs us ∧ Q vs H'
def SP (X : Cx) (pins : List (Addr × Obj)) (D : Ends) (f : Flow) (s' : Shared) : Prop :=
  match f with
  | .next => ∃ σ' H', Inv X pins σ' H' s' ∧ D.nx σ' H'
  | .brk => ∃ σ' H', Inv X pins σ' H' s' ∧ D.bk σ' H'
  | .cont => ∃ σ' H', Inv X pins σ' H' s' ∧ D.ct σ' H'
  | .ret u => ∃ v σ' H', Inv X pins σ' H' s' ∧ RelV v u ∧ D.rt v H'

def PE (X : Cx) (e : Expr) (t : TE) : Prop :=
  ∀ (pins : List (Addr × Obj)) (s : Shared) (σ : St) (H : Hp) (Q : VK), Inv X pins σ H s → t σ H Q → wpAny (model X.prog X.w) X.A (eval e X.env) (EP X pins σ Q) X.xe s
def PT (X : Cx) (e : Expr) (t : TT) : Prop :=
  ∀ (pins : List (Addr × Obj)) (s : Shared) (σ : St) (H : Hp) (Q : Bool → Hp → Prop), Inv X pins σ H s → t σ H Q → wpAny (model X.prog X.w) X.A (isTrue e X.env (eval e X.env)) (TP X pins σ Q) X.xe s
/-- a test whatever its 'whole' is (and, or) -/
def PW (X : Cx) (e : Expr) (t : TT) : Prop :=
  ∀ (whole : Sem Value) (pins : List (Addr × Obj)) (s : Shared) (σ : St) (H : Hp) (Q : Bool → Hp → Prop), Inv X pins σ H s → t σ H Q → wpAny (model X.prog X.w) X.A (isTrue e X.env whole) (TP X pins σ Q) X.xe s
theorem PW.pt {X : Cx} {e : Expr} {t : TT} (h : PW X e t) : PT X e t := h _
/-- an argument list (no star), from the left -/
def PA (X : Cx) (es : List Expr) (t : TA) : Prop :=
  ∀ (pos : Pos) (pins : List (Addr × Obj)) (s : Shared) (σ : St) (H : Hp) (Q : List V → Hp → Prop), Inv X pins σ H s → t σ H Q → wpAny (model X.prog X.w) X.A (spliced (backTo pos (starEach es X.env))) (AP X pins σ Q) X.xe s
def PS (X : Cx) (st : Stmt) (t : TS) : Prop :=
  ∀ (pins : List (Addr × Obj)) (s : Shared) (σ : St) (H : Hp) (D : Ends), Inv X pins σ H s → t D σ H → wpAny (model X.prog X.w) X.A (exec st X.env) (SP X pins D) X.xe s
def PSs (X : Cx) (st : List Stmt) (t : TS) : Prop :=
  ∀ (pins : List (Addr × Obj)) (s : Shared) (σ : St) (H : Hp) (D : Ends), Inv X pins σ H s → t D σ H → wpAny (model X.prog X.w) X.A (execs st X.env) (SP X pins D) X.xe s
/-- weaken the end -/
theorem thn {α : Type} {t : Sem α} {Q Q' : α → Shared → Prop} {M : Model} {A : Around} {E : Value → Shared → Prop} {s : Shared} (h : wpAny M A t Q E s) (hQ : ∀ a s, Q a s → Q' a s) : wpAny M A t Q' E s := wpAny_mono h hQ fun _ _ x => x
end L2

namespace L2
open PySem PySem.Spec PyProof.Rows
section
variable {X : Cx}

/-- two expressions in a row -/
theorem bin {a b : Expr} {ta tb : TE} (ha : PE X a ta) (hb : PE X b tb) {pins : List (Addr × Obj)} {s : Shared} {σ : St} {H : Hp} {R : V → V → Hp → Prop} (I : Inv X pins σ H s) (h : ta σ H fun x H1 => tb σ H1 fun y H2 => R x y H2)
    {α : Type} {Q : α → Shared → Prop} {f : Value → Value → Sem α}
    (hf : ∀ v u s2 x y H2, Inv X pins σ H2 s2 → RelV x v → RelV y u → R x y H2 → wpAny (model X.prog X.w) X.A (f v u) Q X.xe s2) :
    wpAny (model X.prog X.w) X.A (eval a X.env) (fun v s₁ => wpAny (model X.prog X.w) X.A (eval b X.env) (fun u s₂ => wpAny (model X.prog X.w) X.A (f v u) Q X.xe s₂) X.xe s₁) X.xe s := by
  refine thn (ha pins s σ H _ I h) fun v s1 ⟨x, H1, I1, r1, q1⟩ => ?_
  refine thn (hb pins s1 σ H1 _ I1 q1) fun u s2 ⟨y, H2, I2, r2, q2⟩ => ?_
  exact hf v u s2 x y H2 I2 r1 r2 q2

/-! ### names and constants -/
def tVar (i : Nat) : TE := fun σ H Q => ∃ v, σ[i]? = some (some v) ∧ Q v H
def tC (v : V) : TE := fun _ H Q => Q v H
theorem pe_var {i : Nat} {x : Str} {pos : Pos} (hN : X.N[i]? = some x) (hv : Vis X.env.scope x) (hd : (x == ("__debug__" : Str)) = false := by decide) (hcd : (x == ("__classdict__" : Str)) = false := by decide) : PE X (.Name x pos) (tVar i) := by
  intro pins s σ H Q I h
  obtain ⟨v, e, h⟩ := h
  obtain ⟨m, hn, hl⟩ := I.loc
  obtain ⟨u, r, l⟩ := hl i x v hN e hv
  have fin : EP X pins σ Q u s := ⟨v, H, I, r, h⟩
  rcases l with ⟨hk, hm⟩ | ⟨hk, c, hc, hcell⟩
  · exact wpAny_Name (wpAny_loadName_local I.ok.kind hk hn hm fin) hd
  · rcases hk with hk | hk
    · exact wpAny_Name (wpAny_loadName_cell I.ok.kind hk hc hcell fin) hd
    · exact wpAny_Name (wpAny_loadName_free I.ok.kind hk hc hcell fin hcd) hd
theorem pe_int {i j pos} : PE X (.Constant (.int i) j pos) (tC (.int i)) := fun _ _ _ H _ I h => wpAny_Constant_int ⟨.int i, H, I.tok _, ⟨_, rfl⟩, h⟩
theorem pe_bl {b j pos} : PE X (.Constant (.bool b) j pos) (tC (.bl b)) := fun _ _ _ H _ I h => Constant_bool ⟨.bl b, H, I, rfl, h⟩
theorem pe_non {j pos} : PE X (.Constant .none j pos) (tC .non) := fun _ _ _ H _ I h => Constant_none ⟨.non, H, I, rfl, h⟩
theorem pe_str {x j pos} : PE X (.Constant (.str x) j pos) (tC (.str x)) := fun _ _ _ H _ I h => Calls.Constant_str ⟨.str x, H, I.tok _, ⟨_, rfl⟩, h⟩

/-- a global name of the def -/
def Gl (X : Cx) (x : Str) : Prop := X.env.kindOf x = some .globalImplicit
theorem ld_glob {E : Value → Shared → Prop} {pins : List (Addr × Obj)} {s : Shared} {σ : St} {H : Hp} {x : Str} {u : Value} {pos : Pos} {Q : Value → Shared → Prop} (I : Inv X pins σ H s) (hg : Gl X x) (hm : X.mg x = some u) (h : Q u s)
    (hd : (x == ("__debug__" : Str)) = false := by decide) : wpAny (model X.prog X.w) X.A (eval (.Name x pos) X.env) Q E s :=
  Calls.Name_function_global I.ok.kind hg (Calls.loadGlobal_global (by rw [I.ok.glob]; exact I.mod.glob.keeps I.bk) hm h) hd
theorem ld_blt {E : Value → Shared → Prop} {pins : List (Addr × Obj)} {s : Shared} {σ : St} {H : Hp} {x : Str} {u : Value} {pos : Pos} {Q : Value → Shared → Prop} (I : Inv X pins σ H s) (hg : Gl X x) (hm : X.mg x = none) (hv : bootBuiltins x = some u) (h : Q u s)
    (hn : x ≠ "__name__" := by decide) (hd : (x == ("__debug__" : Str)) = false := by decide) : wpAny (model X.prog X.w) X.A (eval (.Name x pos) X.env) Q E s := by
  obtain ⟨mb, h1, h2⟩ := I.mod.blt
  exact Calls.Name_function_global I.ok.kind hg (Calls.loadGlobal_builtin (by rw [I.ok.glob]; exact I.mod.glob.keeps I.bk) hm (by rw [I.ok.blt]; exact h1.keeps I.bk) ((h2 x hn).trans hv) h) hd
/-- a module's constant, a class, a function, as a value -/
theorem pe_glob {x : Str} {v : V} {u : Value} {pos : Pos} (hg : Gl X x) (hm : X.mg x = some u) (r : RelV v u) (hd : (x == ("__debug__" : Str)) = false := by decide) : PE X (.Name x pos) (tC v) :=
  fun _ _ _ H _ I h => ld_glob I hg hm ⟨v, H, I, r, h⟩ hd
theorem pe_bltn {x : Str} {v : V} {u : Value} {pos : Pos} (hg : Gl X x) (hm : X.mg x = none) (hv : bootBuiltins x = some u) (r : RelV v u) (hn : x ≠ "__name__" := by decide) (hd : (x == ("__debug__" : Str)) = false := by decide) : PE X (.Name x pos) (tC v) :=
  fun _ _ _ H _ I h => ld_blt I hg hm hv ⟨v, H, I, r, h⟩ hn hd

/-! ### arithmetic -/
/-- two ints -/
def t2I (ta tb : TE) (k : Int → Int → Hp → Prop) : St → Hp → Prop := fun σ H => ta σ H fun x H1 => tb σ H1 fun y H2 => ∃ i j, x = .int i ∧ y = .int j ∧ k i j H2
def tAdd (ta tb : TE) : TE := fun σ H Q => t2I ta tb (fun i j H2 => Q (.int (i + j)) H2) σ H
def tSub (ta tb : TE) : TE := fun σ H Q => t2I ta tb (fun i j H2 => Q (.int (i - j)) H2) σ H
/-- the left factor below 2^64 -/
def tMul (ta tb : TE) : TE := fun σ H Q => t2I ta tb (fun i j H2 => (-(2 ^ 64) < i ∧ i < 2 ^ 64) ∧ Q (.int (i * j)) H2) σ H
variable {a b : Expr} {ta tb : TE} {pos : Pos}
/-! ### comparisons -/
def PC (X : Cx) (op : CmpOp) (a b : Expr) (t : TE) : Prop :=
  ∀ (pins : List (Addr × Obj)) (s : Shared) (σ : St) (H : Hp) (Q : VK), Inv X pins σ H s → t σ H Q →
    wpAny (model X.prog X.w) X.A (eval a X.env) (fun v s₁ => wpAny (model X.prog X.w) X.A (eval b X.env) (fun u s₂ => wpAny (model X.prog X.w) X.A (compareOp op v u) (EP X pins σ Q) X.xe s₂) X.xe s₁) X.xe s
def tCmp (p : Int → Int → Bool) (ta tb : TE) : TE := fun σ H Q => t2I ta tb (fun i j H2 => Q (.bl (p i j)) H2) σ H
abbrev tLt : TE → TE → TE := tCmp fun i j => decide (i < j)
abbrev tLe : TE → TE → TE := tCmp fun i j => decide (i ≤ j)
abbrev tGt : TE → TE → TE := tCmp fun i j => decide (j < i)
abbrev tGe : TE → TE → TE := tCmp fun i j => decide (j ≤ i)
abbrev tEqI : TE → TE → TE := tCmp fun i j => decide (i = j)
abbrev tNeI : TE → TE → TE := tCmp fun i j => !decide (i = j)
/-- is None -/
def tIsN (ta : TE) : TE := fun σ H Q => ta σ H fun x H1 => Q (.bl (decide (x = .non))) H1
def tNotN (ta : TE) : TE := fun σ H Q => ta σ H fun x H1 => Q (.bl (!decide (x = .non))) H1
/-- a comparison as a value, as a test -/
def tB (t : TE) : TT := fun σ H Q => t σ H fun x H1 => ∃ c, x = .bl c ∧ Q c H1
theorem pt_cmp {op : CmpOp} {t : TE} (h : PC X op a b t) (h1 : behindInMarks op b = false := by first | exact nobehind _ (by decide) (by decide) | rfl) : PT X (.Compare a [op] [b] pos) (tB t) := by
  intro pins s σ H Q I hw
  refine wpAny_isTrue_Compare1 (thn (h pins s σ H _ I hw) fun v s1 h1 => thn h1 fun u s2 h2 => thn h2 fun c s3 ⟨x, H1, I1, r1, q1⟩ => ?_) h1
  obtain ⟨d, rfl, q⟩ := q1
  cases r1
  exact wpAny_truthy_bool ⟨H1, I1, q⟩
/-- an expression whose value is a bool, as a test -/
theorem pt_val {e : Expr} {t : TE} (h : PE X e t) (he : ∀ whole, isTrue e X.env whole = (do let v ← whole; standAt e.pos; holding [v] (truthy v)) := by intro _; rfl) : PT X e (tB t) := by
  intro pins s σ H Q I hw
  refine isTrue_plain (thn (h pins s σ H _ I hw) fun v s1 ⟨x, H1, I1, r1, q1⟩ => ?_) (he _)
  obtain ⟨d, rfl, q⟩ := q1
  cases r1
  exact wpAny_truthy_bool ⟨H1, I1, q⟩

/-! ### and, or, not -/
variable {tA tB' : TT} {rest : List Expr}
def tAnd (t u : TT) : TT := fun σ H Q => t σ H fun c H1 => if c = true then u σ H1 Q else Q false H1
def tOr (t u : TT) : TT := fun σ H Q => t σ H fun c H1 => if c = true then Q true H1 else u σ H1 Q
def tNot (t : TT) : TT := fun σ H Q => t σ H fun c H1 => Q (!c) H1
theorem pw_or1 (ha : PT X a tA) : PW X (.BoolOp .Or [a] pos) tA := by
  intro wh pins s σ H Q I h
  refine isTrue_or (thn (ha pins s σ H Q I h) fun c s1 e => ?_)
  cases c with
  | false => exact isTrue_or_nil e
  | true => exact e
theorem pw_or (ha : PT X a tA) (hb : PW X (.BoolOp .Or (b :: rest) pos) tB') : PW X (.BoolOp .Or (a :: b :: rest) pos) (tOr tA tB') := by
  intro wh pins s σ H Q I h
  refine isTrue_or (thn (ha pins s σ H _ I h) fun c s1 ⟨H1, I1, q1⟩ => ?_)
  cases c with
  | true => exact ⟨H1, I1, q1⟩
  | false => exact hb wh pins s1 σ H1 Q I1 q1
theorem pt_not (ha : PT X a tA) : PT X (.UnaryOp .Not a pos) (tNot tA) := by
  intro pins s σ H Q I h
  exact isTrue_not (ha pins s σ H (fun c H1 => Q (!c) H1) I h)
/-- .. as values (bools) -/
def tAndV (ta tb : TE) : TE := fun σ H Q => ta σ H fun x H1 => ∃ c, x = .bl c ∧ if c = true then tb σ H1 Q else Q (.bl false) H1
def tOrV (ta tb : TE) : TE := fun σ H Q => ta σ H fun x H1 => ∃ c, x = .bl c ∧ if c = true then Q (.bl true) H1 else tb σ H1 Q
def tNotV (ta : TE) : TE := fun σ H Q => ta σ H fun x H1 => ∃ c, x = .bl c ∧ Q (.bl (!c)) H1
theorem pe_one {op} {t : TE} (h : PE X a t) : PE X (.BoolOp op [a] pos) t := fun pins s σ H Q I hw => BoolOp_one (h pins s σ H Q I hw)
theorem pe_and (ha : PE X a ta) (hb : PE X (.BoolOp .And (b :: rest) pos) tb) : PE X (.BoolOp .And (a :: b :: rest) pos) (tAndV ta tb) := by
  intro pins s σ H Q I h
  refine BoolOp_and (thn (ha pins s σ H _ I h) fun v s1 ⟨x, H1, I1, r1, q1⟩ => ?_)
  obtain ⟨c, rfl, q1⟩ := q1
  cases r1
  refine wpAny_truthy_bool ?_
  cases c with
  | true => exact hb pins s1 σ H1 Q I1 q1
  | false => exact ⟨.bl false, H1, I1, rfl, q1⟩
theorem pe_or (ha : PE X a ta) (hb : PE X (.BoolOp .Or (b :: rest) pos) tb) : PE X (.BoolOp .Or (a :: b :: rest) pos) (tOrV ta tb) := by
  intro pins s σ H Q I h
  refine BoolOp_or (thn (ha pins s σ H _ I h) fun v s1 ⟨x, H1, I1, r1, q1⟩ => ?_)
  obtain ⟨c, rfl, q1⟩ := q1
  cases r1
  refine wpAny_truthy_bool ?_
  cases c with
  | false => exact hb pins s1 σ H1 Q I1 q1
  | true => exact ⟨.bl true, H1, I1, rfl, q1⟩
theorem pe_not (ha : PE X a ta) : PE X (.UnaryOp .Not a pos) (tNotV ta) := by
  intro pins s σ H Q I h
  refine UnaryOp_ (thn (ha pins s σ H _ I h) fun v s1 ⟨x, H1, I1, r1, q1⟩ => ?_)
  obtain ⟨c, rfl, q1⟩ := q1
  cases r1
  exact not_of (wpAny_truthy_bool ⟨.bl (!c), H1, I1, rfl, q1⟩)
/-- a if t else b -/
def tIf (t : TT) (ta tb : TE) : TE := fun σ H Q => t σ H fun c H1 => if c = true then ta σ H1 Q else tb σ H1 Q
theorem pe_ifExp {c : Expr} (hc : PT X c tA) (ha : PE X a ta) (hb : PE X b tb) : PE X (.IfExp c a b pos) (tIf tA ta tb) := by
  intro pins s σ H Q I h
  refine wpAny_IfExp (thn (hc pins s σ H _ I h) fun d s1 ⟨H1, I1, q1⟩ => ?_)
  cases d with
  | true => exact ha pins s1 σ H1 Q I1 q1
  | false => exact hb pins s1 σ H1 Q I1 q1
end
end L2

namespace L2
open PySem PySem.Spec PyProof.Rows

/-! ### a list, a tuple that is read: tracked, frozen, or an object of the module -/
def SqL (K : PySem.W.Frag) (H : Hp) (a : Addr) (xs : List V) : Prop :=
  Rd H a (.lst xs) ∨
    ∃ (o : Obj) (its : Array Value) (n : Nat), K.lookup a = some o ∧ o.cls = .type "list" ∧ o.dict = none ∧ o.data = .seq its n ∧ its.size ≤ sizeLine ∧ Vals xs its.toList
def SqT (K : PySem.W.Frag) (H : Hp) (a : Addr) (xs : List V) : Prop :=
  Rd H a (.tup xs) ∨
    ∃ (o : Obj) (its : Array Value) (n : Nat), K.lookup a = some o ∧ o.cls = .type "tuple" ∧ o.data = .seq its n ∧ its.size ≤ sizeLine ∧ Vals xs its.toList
def absV : Value → Option V
  | .none => some .non
  | .bool b => some (.bl b)
  | .int i _ => some (.int i)
  | .str x _ => some (.str x)
  | .bytes b _ => some (.byt b)
  | .float b _ => some (.flt b)
  | .ref a => some (.ref a)
  | .type n => some (.ty n)
  | _ => none
theorem RelV.abs {x : V} {u : Value} (r : RelV x u) : absV u = some x := by
  cases x with
  | non => cases r; rfl
  | bl _ => cases r; rfl
  | int _ => obtain ⟨t, rfl⟩ := r; rfl
  | str _ => obtain ⟨t, rfl⟩ := r; rfl
  | byt _ => obtain ⟨t, rfl⟩ := r; rfl
  | flt _ => obtain ⟨t, rfl⟩ := r; rfl
  | ref _ => cases r; rfl
  | ty _ => cases r; rfl
theorem RelV.inj {x y : V} {u : Value} (r : RelV x u) (q : RelV y u) : x = y := Option.some.inj (r.abs.symm.trans q.abs)
theorem Vals.inj : ∀ {xs ys : List V} {us : List Value}, Vals xs us → Vals ys us → xs = ys
  | _, _, _, .nil, .nil => rfl
  | _, _, _, .cons r t, .cons r' t' => by rw [r.inj r', Vals.inj t t']
section
variable {X : Cx} {pins : List (Addr × Obj)} {σ : St} {H : Hp} {s : Shared} {a : Addr} {xs ys : List V}
theorem SqL.of {K : PySem.W.Frag} (h : H a = some (.lst xs)) : SqL K H a xs := .inl (.inl h)
theorem SqT.of {K : PySem.W.Frag} (h : H a = some (.tup xs)) : SqT K H a xs := .inl (.inl h)
theorem Inv.list (I : Inv X pins σ H s) (h : SqL X.K H a xs) : ∃ its : List Value, Vals xs its ∧ PlainL s.heap a its.toArray ∧ xs.length ≤ sizeLine := by
  rcases h with h | ⟨o, its, n, hk, hc, hd, hs, hz, r⟩
  · obtain ⟨z, its, n, r, e⟩ := h.ok I.hok
    exact ⟨its, r, ⟨_, n, e, rfl, rfl, rfl⟩, z⟩
  · refine ⟨its.toList, r, ⟨o, n, I.kIn a o hk, hc, hd, by simpa using hs⟩, ?_⟩
    have e := r.length
    simp only [Array.length_toList] at e
    omega
theorem Inv.tuple (I : Inv X pins σ H s) (h : SqT X.K H a xs) : ∃ its : List Value, Vals xs its ∧ IsTup s.heap a its.toArray ∧ xs.length ≤ sizeLine := by
  rcases h with h | ⟨o, its, n, hk, hc, hs, hz, r⟩
  · obtain ⟨z, its, r, p⟩ := h.ok I.hok
    exact ⟨its, r, p, z⟩
  · refine ⟨its.toList, r, ⟨o, I.kIn a o hk, hc, n, by simpa using hs⟩, ?_⟩
    have e := r.length
    simp only [Array.length_toList] at e
    omega
theorem Inv.list_inj (I : Inv X pins σ H s) (h : SqL X.K H a xs) (h' : SqL X.K H a ys) : xs = ys := by
  obtain ⟨its, r, ⟨o, n, e, _, _, d⟩, _⟩ := I.list h
  obtain ⟨its', r', ⟨o', n', e', _, _, d'⟩, _⟩ := I.list h'
  rw [e] at e'; cases e'
  rw [d] at d'
  injection d' with d1 _
  have : its = its' := by simpa using congrArg Array.toList d1
  subst this
  exact r.inj r'
end

/-! ### another wish about exceptions -/
abbrev Cx.wish (X : Cx) (E : Value → Shared → Prop) : Cx := { X with xe := E }
/-- no exception leaves -/
abbrev Cx.nox (X : Cx) : Cx := X.wish fun _ _ => False
theorem Cx.Ok.wish {X : Cx} (ok : X.Ok) (E : Value → Shared → Prop) : (X.wish E).Ok :=
  ⟨ok.mod, ok.kind, ok.glob, ok.blt, ok.above, ok.inj, ok.has, ok.cab, ok.hd, ok.frames, ok.stk, ok.exf, ok.bs, ok.bsz, ok.noex, ok.exfs, ok.funs, ok.frf⟩
theorem Cx.Ok.unwish {X : Cx} {E : Value → Shared → Prop} (ok : (X.wish E).Ok) : X.Ok :=
  ⟨ok.mod, ok.kind, ok.glob, ok.blt, ok.above, ok.inj, ok.has, ok.cab, ok.hd, ok.frames, ok.stk, ok.exf, ok.bs, ok.bsz, ok.noex, ok.exfs, ok.funs, ok.frf⟩
section
variable {X : Cx} {pins : List (Addr × Obj)} {σ : St} {H : Hp} {s : Shared} {E : Value → Shared → Prop}
theorem Inv.wish (I : Inv X pins σ H s) (E : Value → Shared → Prop) : Inv (X.wish E) pins σ H s := ⟨I.ok.wish E, I.os, I.bare, I.base, I.loc, I.cell, I.free, I.freeC, I.pin, I.hok, I.len⟩
theorem Inv.unwish (I : Inv (X.wish E) pins σ H s) : Inv X pins σ H s := ⟨I.ok.unwish, I.os, I.bare, I.base, I.loc, I.cell, I.free, I.freeC, I.pin, I.hok, I.len⟩
theorem SP.unwish {D : Ends} {f : Flow} {s' : Shared} (h : SP (X.wish E) pins D f s') : SP X pins D f s' := by
  cases f with
  | next => obtain ⟨σ', H', I, q⟩ := h; exact ⟨σ', H', I.unwish, q⟩
  | brk => obtain ⟨σ', H', I, q⟩ := h; exact ⟨σ', H', I.unwish, q⟩
  | cont => obtain ⟨σ', H', I, q⟩ := h; exact ⟨σ', H', I.unwish, q⟩
  | ret u => obtain ⟨v, σ', H', I, r, q⟩ := h; exact ⟨v, σ', H', I.unwish, r, q⟩
theorem PE.nox {e : Expr} {t : TE} (h : PE X.nox e t) : PE X e t := fun pins s σ H Q I hw =>
  wpAny_mono (h pins s σ H Q (I.wish _) hw) (fun _ _ ⟨v, H', I', r, q⟩ => ⟨v, H', I'.unwish, r, q⟩) fun _ _ z => False.elim z
theorem PT.nox {e : Expr} {t : TT} (h : PT X.nox e t) : PT X e t := fun pins s σ H Q I hw =>
  wpAny_mono (h pins s σ H Q (I.wish _) hw) (fun _ _ ⟨H', I', q⟩ => ⟨H', I'.unwish, q⟩) fun _ _ z => False.elim z
theorem PSs.nox {st : List Stmt} {t : TS} (h : PSs X.nox st t) : PSs X st t := fun pins s σ H D I hw =>
  wpAny_mono (h pins s σ H D (I.wish _) hw) (fun _ _ q => q.unwish) fun _ _ z => False.elim z
end

/-! ### blocks and small statements -/
section
variable {X : Cx} {st : Stmt} {rest : List Stmt} {t u : TS} {e : Expr} {te : TE} {pos : Pos}
def tNext : TS := fun D σ H => D.nx σ H
def tSeq (t u : TS) : TS := fun D σ H => t { D with nx := u D } σ H
theorem pss_nil : PSs X [] tNext := fun _ _ σ H _ I h => wpAny_execs_nil ⟨σ, H, I, h⟩
theorem pss_cons (h1 : PS X st t) (h2 : PSs X rest u) : PSs X (st :: rest) (tSeq t u) := by
  intro pins s σ H D I h
  refine wpAny_execs_cons (thn (h1 pins s σ H { D with nx := u D } I h) fun f s1 q => ?_)
  cases f with
  | next =>
    obtain ⟨σ', H', I', q⟩ := q
    exact h2 pins s1 σ' H' D I' q
  | ret v => exact q
  | brk => exact q
  | cont => exact q
theorem pss_one (h1 : PS X st t) : PSs X [st] t := by
  intro pins s σ H D I h
  refine wpAny_execs_cons (thn (h1 pins s σ H D I h) fun f s1 q => ?_)
  cases f with
  | next => exact wpAny_execs_nil q
  | ret v => exact q
  | brk => exact q
  | cont => exact q
def tBreak : TS := fun D σ H => D.bk σ H
def tCont : TS := fun D σ H => D.ct σ H
/-- in a def's body nothing is shown -/
theorem Inv.quiet {pins : List (Addr × Obj)} {σ : St} {H : Hp} {s : Shared} (I : Inv X pins σ H s) : interactive X.env = false := by simp [interactive, I.ok.kind]
/-- an expression whose value is dropped -/
def tDrop (te : TE) : TS := fun D σ H => te σ H fun _ H1 => D.nx σ H1
theorem ps_expr (he : PE X e te) (hs : swapsWith e none pos.line X.env = pure false := by rfl) : PS X (.Expr e pos) (tDrop te) := by
  intro pins s σ H D I h
  exact wpAny_Expr_any (thn (he pins s σ H _ I h) fun v s1 ⟨x, H1, I1, r1, q1⟩ => ⟨σ, H1, I1, q1⟩) I.quiet hs
def tRet (te : TE) : TS := fun D σ H => te σ H D.rt
theorem ps_ret (he : PE X e te) : PS X (.Return (some e) pos) (tRet te) := by
  intro pins s σ H D I h
  exact wpAny_Return_some (thn (he pins s σ H _ I h) fun v s1 ⟨x, H1, I1, r1, q1⟩ => ⟨x, σ, H1, I1, r1, q1⟩)
def tRetN : TS := fun D _ H => D.rt .non H
def tIfS (c : TT) (t u : TS) : TS := fun D σ H => c σ H fun b H1 => if b = true then t D σ H1 else u D σ H1
theorem ps_if {c : Expr} {a b : List Stmt} {tc : TT} (hc : PT X c tc) (ha : PSs X a t) (hb : PSs X b u) : PS X (.If c a b pos) (tIfS tc t u) := by
  intro pins s σ H D I h
  refine wpAny_If (thn (hc pins s σ H _ I h) fun d s1 ⟨H1, I1, q1⟩ => ?_)
  cases d with
  | true => exact ha pins s1 σ H1 D I1 q1
  | false => exact hb pins s1 σ H1 D I1 q1
/-- code that the proof never comes to -/
def tNever : TS := fun _ _ _ => False
theorem ps_never : PS X st tNever := fun _ _ _ _ _ _ h => h.elim
theorem pss_never {sts : List Stmt} : PSs X sts tNever := fun _ _ _ _ _ _ h => h.elim
end

/-! ### targets -/
abbrev TG := V → St → Hp → (St → Hp → Prop) → Prop
abbrev TGs := List V → St → Hp → (St → Hp → Prop) → Prop
def PG (X : Cx) (target : Expr) (t : TG) : Prop :=
  ∀ (pins : List (Addr × Obj)) (s : Shared) (σ : St) (H : Hp) (v : V) (u : Value) (Q : St → Hp → Prop), Inv X pins σ H s → RelV v u → t v σ H Q →
    wpAny (model X.prog X.w) X.A (assign target X.env u) (fun _ s' => ∃ σ' H', Inv X pins σ' H' s' ∧ Q σ' H') X.xe s
/-- several targets, one after another -/
def PGs (X : Cx) (ts : List Expr) (t : TGs) : Prop :=
  ∀ (pins : List (Addr × Obj)) (s : Shared) (σ : St) (H : Hp) (vs : List V) (us : List Value) (Q : St → Hp → Prop), Inv X pins σ H s → Vals vs us → t vs σ H Q →
    wpAny (model X.prog X.w) X.A (assignInOrder ((assignEach ts X.env).map (·.2)) us) (fun _ s' => ∃ σ' H', Inv X pins σ' H' s' ∧ Q σ' H') X.xe s
/-- o[i] = v, by values -/
abbrev TSet := V → V → V → Hp → (Hp → Prop) → Prop
def PSet (X : Cx) (t : TSet) : Prop :=
  ∀ (pins : List (Addr × Obj)) (s : Shared) (σ : St) (H : Hp) (o i v : V) (ov iv u : Value) (Q : Hp → Prop), Inv X pins σ H s → RelV o ov → RelV i iv → RelV v u → t o i v H Q →
    wpAny (model X.prog X.w) X.A (setItem ov iv u) (fun _ s' => ∃ H', Inv X pins σ H' s' ∧ Q H') X.xe s
/-- a op= b, by values -/
abbrev TIp := V → V → Hp → VK → Prop
def PIp (X : Cx) (op : Operator) (t : TIp) : Prop :=
  ∀ (pins : List (Addr × Obj)) (s : Shared) (σ : St) (H : Hp) (x y : V) (v u : Value) (Q : VK), Inv X pins σ H s → RelV x v → RelV y u → t x y H Q →
    wpAny (model X.prog X.w) X.A (inplaceOp op v u) (EP X pins σ Q) X.xe s
section
variable {X : Cx} {pos : Pos}
def gName (i : Nat) : TG := fun v σ H Q => Q (σ.set i (some v)) H
theorem pg_name {i : Nat} {x : Str} (hN : X.N.Nodup) (hi : X.N[i]? = some x) (hx : Loc X.env.scope x) (hf : X.fn x = true ∨ X.env.scope.names.lookup x = some .local := by first | exact .inl rfl | exact .inr rfl | assumption) : PG X (.Name x pos) (gName i) := by
  intro pins s σ H v u Q I r h
  exact wpAny_assign_Name (store_ok I hN hi hx r (fun s' I' => ⟨_, H, I', h⟩) hf)
def gNil : TGs := fun vs σ H Q => vs = [] ∧ Q σ H
def gCons (t : TG) (u : TGs) : TGs := fun vs σ H Q => ∃ v r, vs = v :: r ∧ t v σ H fun σ' H' => u r σ' H' Q
theorem pgs_nil : PGs X [] gNil := by
  intro pins s σ H vs us Q I r h
  obtain ⟨e, h⟩ := h
  subst e
  cases r
  exact assignInOrder_nil ⟨σ, H, I, h⟩
theorem pgs_cons {e : Expr} {es : List Expr} {t : TG} {u : TGs} (h1 : PG X e t) (h2 : PGs X es u)
    (hs : (assignEach (e :: es) X.env).map (·.2) = assign e X.env :: (assignEach es X.env).map (·.2) := by rfl) : PGs X (e :: es) (gCons t u) := by
  intro pins s σ H vs us Q I r h
  obtain ⟨v, vr, e1, h⟩ := h
  subst e1
  cases r with
  | cons r rr =>
    rw [hs]
    refine assignInOrder_cons (thn (h1 pins s σ H _ _ _ I r h) fun _ s1 ⟨σ1, H1, I1, q1⟩ => ?_)
    exact h2 pins s1 σ1 H1 _ _ Q I1 rr q1
/-- (a, b, ..) = a tuple of that length -/
def gTup (K : PySem.W.Frag) (n : Nat) (t : TGs) : TG := fun v σ H Q => ∃ a xs, v = .ref a ∧ SqT K H a xs ∧ xs.length = n ∧ t xs σ H Q
theorem pg_tup {es : List Expr} {k : Nat} {t : TGs} {n : Nat} (hc : X.calm = true) (h : PGs X es t)
    (hn : (assignEach es X.env).length = n := by rfl) (hst : (assignEach es X.env).findIdx? (·.1) = none := by rfl) : PG X (.Tuple es k pos) (gTup X.K n t) := by
  intro pins s σ H v u Q I r hw
  obtain ⟨a, xs, e1, hq, hl, hw⟩ := hw
  subst e1
  cases r
  obtain ⟨its, rv, ht, hz⟩ := I.tuple hq
  refine assign_Tuple_tuple (I.ok.hd hc) ht (by simp [hn, ← hl, rv.length]) hst fun h' hx => ?_
  have I1 : Inv X pins σ H { s with heap := h' } := I.kept (t' := s.toks) fun b o e => hx b o (Nat.ne_of_lt (Heap.lt_size e)) e
  exact h pins _ σ H xs _ Q I1 (by simpa using rv) hw
/-- o[i] = .. -/
def gSub (to ti : TE) (t : TSet) : TG := fun v σ H Q => to σ H fun o H1 => ti σ H1 fun i H2 => t o i v H2 fun H3 => Q σ H3
/-- target = value -/
def tAsg (te : TE) (g : TG) : TS := fun D σ H => te σ H fun x H1 => g x σ H1 D.nx
/-- name = value -/
theorem ps_set {i : Nat} {x : Str} {e : Expr} {te : TE} {pos' : Pos} (hN : X.N.Nodup) (hi : X.N[i]? = some x) (hx : Loc X.env.scope x) (he : PE X e te) (hs : swapsWith e (some (.Name x pos')) pos.line X.env = pure false := by rfl) (hf : X.fn x = true ∨ X.env.scope.names.lookup x = some .local := by first | exact .inl rfl | exact .inr rfl | assumption) :
    PS X (.Assign [.Name x pos'] e pos) (tAsg te (gName i)) := by
  intro pins s σ H D I h
  refine wpAny_Assign_Name (thn (he pins s σ H _ I h) fun v s1 ⟨y, H1, I1, r1, q1⟩ => ?_) hs
  exact store_ok I1 hN hi hx r1 (fun s2 I2 => ⟨_, H1, I2, q1⟩) hf
/-- a, b = x, y with plain local names: stored from the right; the pair itself is not tracked (the opening rows as in PyProof/Rows/TupAssign.lean:23) -/
def tPar (i j : Nat) (ta : TA) : TS := fun D σ H => ta σ H fun vs H1 => ∃ v w, vs = [v, w] ∧ D.nx ((σ.set i (some v)).set j (some w)) H1
theorem ps_par {i j : Nat} {x y : Str} {a b : Expr} {ta : TA} {px py pt : Pos} {kt k2 pt2} (hc : X.calm = true) (hN : X.N.Nodup) (hi : X.N[i]? = some x) (hj : X.N[j]? = some y) (hij : i ≠ j)
    (hx : X.env.scope.names.lookup x = some .local) (hy : X.env.scope.names.lookup y = some .local) (ha : PA X [a, b] ta)
    (hw : swappedStores [.Tuple [.Name x px, .Name y py] kt pt] (.Tuple [a, b] k2 pt2) X.env = pure (some [x, y]))
    (hs : swapsWithSole [.Tuple [.Name x px, .Name y py] kt pt] (.Tuple [a, b] k2 pt2) pos.line X.env = pure false := by rfl) :
    PS X (.Assign [.Tuple [.Name x px, .Name y py] kt pt] (.Tuple [a, b] k2 pt2) pos) (tPar i j ta) := by
  intro pins s σ H D I h
  rw [exec_Assign_arm]
  refine wpAny_bind (wpAny_standAt ?_)
  rw [hs]
  refine wpAny_bind (wpAny_pure ?_)
  rw [if_neg (by decide)]
  refine wpAny_bind (Tuple_ (thn (ha _ pins s σ H _ I h) fun us s1 ⟨vs, H1, I1, r1, q1⟩ => ?_))
  obtain ⟨v, w, e1, q1⟩ := q1
  subst e1
  obtain ⟨u1, u2, rfl, rv, rw'⟩ : ∃ u1 u2, us = [u1, u2] ∧ RelV v u1 ∧ RelV w u2 := by
    cases r1 with
    | cons p q =>
      cases q with
      | cons p' q' =>
        cases q'
        exact ⟨_, _, rfl, p, p'⟩
  refine wpAny_newObj_type ?_ (by show 2 ≤ sizeLine; decide)
  have I2 : Inv X pins σ H1 { s1 with heap := s1.heap.push { cls := .type "tuple", data := .seq [u1, u2].toArray } } := I1.kept (t' := s1.toks) fun b o e => Heap.get?_push_of_some _ e
  rw [hw]
  refine wpAny_bind (wpAny_pure ?_)
  show wpAny (model X.prog X.w) X.A (do rule "assign.swapped-stores"; let items ← unpackItems (.ref s1.heap.objs.size) 2 none; assignInOrder [fun v => bindName X.env y v, fun v => bindName X.env x v] items.reverse; pure Flow.next) _ _ _
  refine wpAny_bind (wpAny_rule (wpAny_bind (unpackItems_tuple (items := #[u1, u2]) (I.ok.hd hc) (IsTup.new s1.heap _) fun h' hx' => ?_)))
  have I3 := I2.kept (h' := h') (t' := s1.toks) fun b o e => hx' b o (Nat.ne_of_lt (Heap.lt_size e)) e
  show wpAny _ _ (assignInOrder [fun v => bindName X.env y v, fun v => bindName X.env x v] [u2, u1] >>= fun _ => pure Flow.next) _ _ _
  refine wpAny_bind (assignInOrder_cons (wpAny_bindName (store_ok I3 hN hj (.inl hy) rw' (fun s2 I4 => ?_) (.inr hy))))
  refine assignInOrder_cons (wpAny_bindName (store_ok I4 hN hi (.inl hx) rv (fun s3 I5 => assignInOrder_nil (wpAny_pure ?_)) (.inr hx)))
  rw [List.set_comm _ _ (Ne.symm hij)] at I5
  exact ⟨_, H1, I5, q1⟩
/-- name op= e -/
def tAug (i : Nat) (te : TE) (ti : TIp) : TS := fun D σ H => ∃ x, σ[i]? = some (some x) ∧ te σ H fun y H1 => ti x y H1 fun z H2 => D.nx (σ.set i (some z)) H2
/-- o[i] op= e -/
def tAugS (to ti te : TE) (tget : V → V → Hp → VK → Prop) (tip : TIp) (tset : TSet) : TS := fun D σ H => to σ H fun o H1 => ti σ H1 fun i H2 => tget o i H2 fun x H3 => te σ H3 fun y H4 => tip x y H4 fun z H5 => tset o i z H5 fun H6 => D.nx σ H6
/-- o[i], by values -/
def PGet (X : Cx) (t : V → V → Hp → VK → Prop) : Prop :=
  ∀ (pins : List (Addr × Obj)) (s : Shared) (σ : St) (H : Hp) (o i : V) (ov iv : Value) (Q : VK), Inv X pins σ H s → RelV o ov → RelV i iv → t o i H Q →
    wpAny (model X.prog X.w) X.A (getItem ov iv) (EP X pins σ Q) X.xe s
/-- ints -/
def ipI (f : Int → Int → Int) : TIp := fun x y H Q => ∃ i j, x = .int i ∧ y = .int j ∧ Q (.int (f i j)) H
end

/-! ### while -/
section
variable {X : Cx} {pos : Pos}
/-- the invariant W with its measure -/
def tWhile (c : TT) (tb : TS) : TS := fun D σ H => ∃ W : Nat → St → Hp → Prop, (∃ m, W m σ H) ∧ ∀ m σ H, W m σ H →
  c σ H fun b H1 => if b = true then ∃ N : St → Hp → Prop, (∀ σ' H', N σ' H' → ∃ m', m' < m ∧ W m' σ' H') ∧ tb { D with nx := N, ct := N, bk := D.nx } σ H1 else D.nx σ H1
theorem ps_while {c : Expr} {body : List Stmt} {tc : TT} {tb : TS} (hp : PassesOwn (model X.prog X.w) X.A X.env X.xe) (hc : PT X c tc) (hb : PSs X body tb) : PS X (.While c body [] pos) (tWhile tc tb) := by
  intro pins s σ H D I h
  obtain ⟨W, ⟨m0, w0⟩, turn⟩ := h
  refine wpAny_While (codeAny_whileLoop (fun n s' => ∃ σ' H', Inv X pins σ' H' s' ∧ W n σ' H') ?_ m0 ⟨σ, H, I, w0⟩)
  rintro n s1 ⟨σ1, H1, I1, w1⟩
  refine wpAny_passesOwn hp (thn (hc pins s1 σ1 H1 _ I1 (turn n σ1 H1 w1)) fun b s2 ⟨H2, I2, q2⟩ => ?_)
  cases b with
  | true =>
    obtain ⟨N, hN, q2⟩ := q2
    rw [if_pos rfl]
    refine wpAny_passesOwn hp (thn (hb pins s2 σ1 H2 _ I2 q2) fun f s3 q3 => ?_)
    cases f with
    | next =>
      obtain ⟨σ3, H3, I3, n3⟩ := q3
      obtain ⟨m', hm, w3⟩ := hN σ3 H3 n3
      exact ⟨m', hm, σ3, H3, I3, w3⟩
    | cont =>
      obtain ⟨σ3, H3, I3, n3⟩ := q3
      obtain ⟨m', hm, w3⟩ := hN σ3 H3 n3
      exact ⟨m', hm, σ3, H3, I3, w3⟩
    | brk => exact q3
    | ret v => exact q3
  | false =>
    rw [if_neg Bool.false_ne_true]
    exact wpAny_execs_nil ⟨σ1, H2, I2, q2⟩
end

/-! ### what a loop or a comprehension walks -/
/-- at turn i: it yields x (the heap may grow), or it stops -/
structure It where
  go : Nat → Hp → Prop
  yld : Nat → Hp → V → Hp → Prop
  stop : Nat → Hp → Prop
/-- the iterator's own objects may turn: they are not the frame's, not pinned, younger than the entry (or a comprehension's own) -/
def FpOk (X : Cx) (pins : List (Addr × Obj)) (H : Hp) (b : Addr) : Prop :=
  H b = none ∧ b ≠ X.env.locals ∧ b ∉ X.fs ∧ (b ∈ X.ex ∨ X.s_0.heap.objs.size ≤ b) ∧ (∀ x c, X.env.cells.lookup x = some c → c ≠ b) ∧ ∀ p ∈ X.pn ++ pins, p.1 ≠ b
theorem Inv.fpOk {X : Cx} {pins : List (Addr × Obj)} {σ : St} {H H' : Hp} {s : Shared} {b : Addr} (I : Inv X pins σ H s) (hb : s.heap.objs.size ≤ b) (hn : H' b = none) : FpOk X pins H' b := by
  refine ⟨hn, Nat.ne_of_gt (Nat.lt_of_lt_of_le I.lt hb), I.nofs hb, .inr (Nat.le_trans I.sz hb), fun x c e z => ?_, fun p hp z => ?_⟩
  · obtain ⟨v, q⟩ := I.cell x c e
    exact absurd (Nat.lt_of_lt_of_le q.lt (by rw [z]; exact hb)) (Nat.lt_irrefl _)
  · exact absurd (Nat.lt_of_lt_of_le (Heap.lt_size (I.pin p hp).1) (by rw [z]; exact hb)) (Nat.lt_irrefl _)
structure Turn (P : Program) (w : World) (K : PySem.W.Frag) (tg : Expr) (J : It) (fp : List Addr) (it : Addr) (tn : Nat → Heap → Prop) : Prop where
  mem : it ∈ fp
  obj : ∀ i h, tn i h → ∀ b ∈ fp, ∃ o, h.get? b = some o ∧ ∀ v, o.data ≠ .cell v
  keep : ∀ i h h', tn i h → (∀ b ∈ fp, ∀ o, h.get? b = some o → h'.get? b = some o) → tn i h'
  item : ∀ (X : Cx), X.prog = P → X.w = w → X.K = K → X.calm = true → ∀ (i : Nat) (pins : List (Addr × Obj)) (s : Shared) (σ : St) (H : Hp) (E : Value → Shared → Prop), Inv X pins σ H s → (∀ b ∈ fp, FpOk X pins H b) → tn i s.heap → J.go i H →
    wpAny (model P w) X.A (pyNext (.ref it)) (fun r s1 => ∃ u, r = some u ∧
      wpAny (model P w) X.A (letOwnedTupleGo tg (.ref it) u) (fun _ s2 => ∃ x H', Inv X pins σ H' s2 ∧ RelV x u ∧ J.yld i H x H' ∧ tn (i + 1) s2.heap ∧ ∀ b ∈ fp, H' b = none) E s1) E s
  done : ∀ (X : Cx), X.prog = P → X.w = w → X.K = K → X.calm = true → ∀ (i : Nat) (pins : List (Addr × Obj)) (s : Shared) (σ : St) (H : Hp) (E : Value → Shared → Prop), Inv X pins σ H s → (∀ b ∈ fp, FpOk X pins H b) → tn i s.heap → J.stop i H →
    wpAny (model P w) X.A (pyNext (.ref it)) (fun r s1 => r = none ∧ Inv X pins σ H s1) E s
  self : ∀ (A : Around) (i : Nat) (s : Shared) (Q : Value → Shared → Prop) (E : Value → Shared → Prop), tn i s.heap → Q (.ref it) s → wpAny (model P w) A (pyIter (.ref it)) Q E s
abbrev TI := St → Hp → (It → Hp → Prop) → Prop
/-- an iterator has come -/
def PIE (X : Cx) (pins : List (Addr × Obj)) (σ : St) (tg : Expr) (R : It → Hp → Prop) (itv : Value) (s2 : Shared) : Prop :=
  ∃ (it : Addr) (fp : List Addr) (tn : Nat → Heap → Prop) (J : It) (H' : Hp), itv = .ref it ∧ Inv X pins σ H' s2 ∧ Turn X.prog X.w X.K tg J fp it tn ∧ tn 0 s2.heap ∧ (∀ b ∈ fp, FpOk X pins H' b) ∧ R J H'
def PI (X : Cx) (tg iter : Expr) (wi : TI) : Prop :=
  ∀ (pins : List (Addr × Obj)) (s : Shared) (σ : St) (H : Hp) (R : It → Hp → Prop), Inv X pins σ H s → wi σ H R →
    wpAny (model X.prog X.w) X.A (eval iter X.env) (fun v s1 => wpAny (model X.prog X.w) X.A (pyIter v) (PIE X pins σ tg R) X.xe s1) X.xe s

/-- the step ahead of the store is nothing for an iterator that keeps no tuple -/
theorem go_of {M : Model} {A : Around} {E : Value → Shared → Prop} {s : Shared} {tg : Expr} {it : Addr} {u : Value} {o : Obj} {n : String} {vs : Array Value} {Q : Unit → Shared → Prop} (ho : s.heap.get? it = some o) (hc : o.cls = .type n) (hd : o.data = .fields vs)
    (hn : ["enumerate", "zip", "dict_itemiterator", "dict_reverseitemiterator", "odict_iterator", "itertools.zip_longest", "itertools.pairwise"].contains n = false) (hQ : Q () s) : wpAny M A (letOwnedTupleGo tg (.ref it) u) Q E s := by
  unfold letOwnedTupleGo
  cases tg <;> first
    | exact wpAny_pure hQ
    | (cases u <;> first
        | exact wpAny_pure hQ
        | (refine wpAny_bind (wpAny_load ho ?_)
           rw [hc, hd]
           show wpAny M A (if (["enumerate", "zip", "dict_itemiterator", "dict_reverseitemiterator", "odict_iterator", "itertools.zip_longest", "itertools.pairwise"].contains n && vs[0]? == some (rawInt _)) = true then _ else _) Q E s
           rw [if_neg (by intro h; rw [hn, Bool.false_and] at h; cases h)]
           exact wpAny_pure hQ))

/-- the list at a, as it stands at each turn (a loop may append to it) -/
def Itl (K : PySem.W.Frag) (a : Addr) : It :=
  ⟨fun i H => ∃ xs x, SqL K H a xs ∧ xs[i]? = some x, fun i H x H' => H' = H ∧ ∀ xs, SqL K H a xs → xs[i]? = some x, fun i H => ∃ xs, SqL K H a xs ∧ xs.length ≤ i⟩
def Itt (K : PySem.W.Frag) (a : Addr) : It :=
  ⟨fun i H => ∃ xs x, SqT K H a xs ∧ xs[i]? = some x, fun i H x H' => H' = H ∧ ∀ xs, SqT K H a xs → xs[i]? = some x, fun i H => ∃ xs, SqT K H a xs ∧ xs.length ≤ i⟩
/-- lo, lo + 1, .. (n of them) -/
def Itr (lo : Int) (n : Nat) : It := ⟨fun i _ => i < n, fun i H x H' => H' = H ∧ x = .int (lo + i), fun i _ => n ≤ i⟩
theorem turn_list {P : Program} {w : World} {K : PySem.W.Frag} {tg : Expr} (a it : Addr) : Turn P w K tg (Itl K a) [it] it (fun i h => h.IsListIter it a i) where
  mem := by simp
  obj := fun i h st b hb => by
    have e : b = it := by simpa using hb
    subst e
    obtain ⟨o, e, c, d⟩ := st
    exact ⟨o, e, fun v z => by rw [d] at z; cases z⟩
  keep := fun i h h' st k => st.at fun o e => k it (by simp) o e
  item := by
    intro X hP hw hK hc i pins s σ H E I hf st hg
    subst hP hw hK
    obtain ⟨xs, x, hq, hx⟩ := hg
    obtain ⟨its, rv, p, hz⟩ := I.list hq
    obtain ⟨u, hu, ru⟩ := rv.get hx
    obtain ⟨f0, f1, f2, f3, f4, f5⟩ := hf it (by simp)
    refine wpAny_pyNext_list_item st p.isList (x := u) (by simpa using hu) fun h' st' sb => ?_
    have I1 : Inv X pins σ H { s with heap := h' } := I.turned (t' := s.toks) (fun b o hb e => (sb.2 b hb).trans e) f0 f1 f3 f4 f5
    obtain ⟨o, e, c, d⟩ := id st'
    exact ⟨u, rfl, go_of (s := { s with heap := h' }) e c d (by decide) ⟨x, H, I1, ru, ⟨rfl, fun ys hy => by rw [I.list_inj hy hq]; exact hx⟩, st', fun b hb => (hf b hb).1⟩⟩
  done := by
    intro X hP hw hK hc i pins s σ H E I hf st hg
    subst hP hw hK
    obtain ⟨xs, hq, hx⟩ := hg
    obtain ⟨its, rv, p, hz⟩ := I.list hq
    obtain ⟨f0, f1, f2, f3, f4, f5⟩ := hf it (by simp)
    have hl := rv.length
    exact wpAny_pyNext_list_end (I.ok.hd hc) st p.isList (by simp; omega) fun h' eb => ⟨rfl, I.turned (t' := s.toks) (fun b o hb e => eb b o hb e) f0 f1 f3 f4 f5⟩
  self := fun _ _ _ _ _ st h => wpAny_pyIter_listiter st h
theorem turn_range {P : Program} {w : World} {K : PySem.W.Frag} {tg : Expr} (it : Addr) (lo : Int) (n : Nat) : Turn P w K tg (Itr lo n) [it] it (fun i h => IsRangeIter h it (lo + (i : Nat) * 1) ((n : Int) - (i : Nat)) 1) where
  mem := by simp
  obj := fun i h st b hb => by
    have e : b = it := by simpa using hb
    subst e
    exact ⟨_, st, fun v z => by
      have z' : Data.fields _ = Data.cell v := z
      cases z'⟩
  keep := fun i h h' st k => k it (by simp) _ st
  item := by
    intro X hP hw hK hc i pins s σ H E I hf st hg
    subst hP hw hK
    obtain ⟨f0, f1, f2, f3, f4, f5⟩ := hf it (by simp)
    have W := Walks.range (prog := X.prog) (w := X.w) (I.ok.hd hc) it lo 1 n
    refine W.item i s _ _ hg st fun v h' tk hv st' kk => ?_
    obtain ⟨t, rfl⟩ := hv
    have I1 : Inv X pins σ H { s with heap := h', toks := tk } := I.turned (fun b o hb e => kk b o (by simpa using hb) e) f0 f1 f3 f4 f5
    refine ⟨_, rfl, go_of (s := { s with heap := h', toks := tk }) (n := "range_iterator") st' rfl rfl (by decide) ⟨.int (lo + i), H, I1, ⟨t, ?_⟩, ⟨rfl, rfl⟩, st', fun b hb => (hf b hb).1⟩⟩
    rw [Int.mul_one]
  done := by
    intro X hP hw hK hc i pins s σ H E I hf st hg
    subst hP hw hK
    obtain ⟨f0, f1, f2, f3, f4, f5⟩ := hf it (by simp)
    exact wpAny_pyNext_range_end (I.ok.hd hc) st (by have : n ≤ i := hg; omega) fun h' eb => ⟨rfl, I.turned (t' := s.toks) (fun b o hb e => eb b o hb e) f0 f1 f3 f4 f5⟩
  self := fun _ _ _ _ _ st h => wpAny_pyIter_rangeiter st h
end L2

namespace L2
open PySem PySem.Spec PyProof.Rows
section
variable {X : Cx} {tg : Expr}
def iList (K : PySem.W.Frag) (tl : TE) : TI := fun σ H R => tl σ H fun x H1 => ∃ a, x = .ref a ∧ (∃ xs, SqL K H1 a xs) ∧ R (Itl K a) H1
def iTup (K : PySem.W.Frag) (tl : TE) : TI := fun σ H R => tl σ H fun x H1 => ∃ a, x = .ref a ∧ (∃ xs, SqT K H1 a xs) ∧ R (Itt K a) H1
theorem pi_list {l : Expr} {tl : TE} (hl : PE X l tl) : PI X tg l (iList X.K tl) := by
  intro pins s σ H R I h
  refine thn (hl pins s σ H _ I h) fun v s1 ⟨x, H1, I1, r1, q1⟩ => ?_
  obtain ⟨a, e, ⟨xs, hq⟩, q⟩ := q1
  subst e
  cases r1
  obtain ⟨its, rv, p, hz⟩ := I1.list hq
  refine wpAny_pyIter_list p.isList ?_
  refine ⟨s1.heap.objs.size, [s1.heap.objs.size], _, _, H1, rfl, I1.kept (t' := s1.toks) fun b o e => Heap.get?_push_of_some _ e, turn_list a _, ⟨_, Heap.get?_push_size _ rfl, rfl, rfl⟩, fun b hb => ?_, q⟩
  have e : b = s1.heap.objs.size := by simpa using hb
  subst e
  exact I1.fpOk (Nat.le_refl _) (I1.hok.fresh (Nat.le_refl _))
/-- a range object just made, walked -/
theorem range_it {pins : List (Addr × Obj)} {σ : St} {H : Hp} {s : Shared} {R : It → Hp → Prop} {E : Value → Shared → Prop} {lo hi : Int} {t u v : Tok} {tk : Nat} (I : Inv X pins σ H s) (h1 : -(2 ^ 62) ≤ lo) (h2 : lo < 2 ^ 62) (h3 : -(2 ^ 62) ≤ hi) (h4 : hi < 2 ^ 62)
    (q : R (Itr lo (hi - lo).toNat) H) : wpAny (model X.prog X.w) X.A (pyIter (.ref s.heap.objs.size)) (PIE X pins σ tg R) E { s with heap := s.heap.push { cls := .type "range", data := .fields #[.int lo t, .int hi u, .int 1 v] }, toks := tk } := by
  refine wpAny_pyIter_range (IsRange.new ..) (small_one h1 h2 h3 h4) ?_
  have I1 : Inv X pins σ H { s with heap := s.heap.push { cls := .type "range", data := .fields #[.int lo t, .int hi u, .int 1 v] }, toks := tk } := I.kept fun b o e => Heap.get?_push_of_some _ e
  refine ⟨(s.heap.push { cls := .type "range", data := .fields #[.int lo t, .int hi u, .int 1 v] }).objs.size, [(s.heap.push { cls := .type "range", data := .fields #[.int lo t, .int hi u, .int 1 v] }).objs.size], _, _, H, rfl,
    I1.kept (t' := tk) fun b o e => Heap.get?_push_of_some _ e, turn_range _ lo (hi - lo).toNat, ?_, fun b hb => ?_, q⟩
  · have e1 : lo + ((0 : Nat) : Int) * 1 = lo := by simp
    have e2 : (((hi - lo).toNat : Nat) : Int) - ((0 : Nat) : Int) = Builtin.Range.rangeSize lo hi 1 := by rw [rangeSize_one]; split <;> omega
    show IsRangeIter _ _ (lo + ((0 : Nat) : Int) * 1) ((((hi - lo).toNat : Nat) : Int) - ((0 : Nat) : Int)) 1
    rw [e1, e2]
    exact Heap.get?_push_size _ rfl
  · have e : b = (s.heap.push { cls := .type "range", data := .fields #[.int lo t, .int hi u, .int 1 v] }).objs.size := by simpa using hb
    subst e
    exact I1.fpOk (Nat.le_refl _) (I1.hok.fresh (Nat.le_refl _))
def iRng1 (ta : TA) : TI := fun σ H R => ta σ H fun vs H1 => ∃ j : Int, vs = [.int j] ∧ -(2 ^ 62) ≤ j ∧ j < 2 ^ 62 ∧ R (Itr 0 j.toNat) H1
def iRng2 (ta : TA) : TI := fun σ H R => ta σ H fun vs H1 => ∃ i j : Int, vs = [.int i, .int j] ∧ (-(2 ^ 62) ≤ i ∧ i < 2 ^ 62 ∧ -(2 ^ 62) ≤ j ∧ j < 2 ^ 62) ∧ R (Itr i (j - i).toNat) H1
theorem pi_range1 {a : Expr} {ta : TA} {p pos : Pos} (hg : Gl X "range") (hm : X.mg "range" = none) (ha : PA X [a] ta) (hs : starEach [a] X.env = [(false, eval a X.env)] := by rfl) : PI X tg (.Call (.Name "range" p) [a] [] pos) (iRng1 ta) := by
  intro pins s σ H R I h
  refine Call_ (ld_blt I hg hm boot_range (PyProof.Rows.callWith_type1 (thn (ha pos pins s σ H _ I h) fun us s1 ⟨vs, H1, I1, r1, q1⟩ => ?_) hs rfl))
  obtain ⟨j, e, q1, q2, q⟩ := q1
  subst e
  cases r1 with
  | cons r rr =>
    cases rr
    obtain ⟨t, rfl⟩ := r
    exact call_range_1 (range_it I1 (by omega) (by omega) q1 q2 (by simpa using q))
theorem pi_range2 {a b : Expr} {ta : TA} {p pos : Pos} (hg : Gl X "range") (hm : X.mg "range" = none) (ha : PA X [a, b] ta) (hs : starEach [a, b] X.env = [(false, eval a X.env), (false, eval b X.env)] := by rfl) (hs2 : starEach [b] X.env = [(false, eval b X.env)] := by rfl) :
    PI X tg (.Call (.Name "range" p) [a, b] [] pos) (iRng2 ta) := by
  intro pins s σ H R I h
  refine Call_ (ld_blt I hg hm boot_range (PyProof.Rows.callWith_type1 (thn (ha pos pins s σ H _ I h) fun us s1 ⟨vs, H1, I1, r1, q1⟩ => ?_) (by rw [hs, hs2]) (by rw [hs2]; rfl)))
  obtain ⟨i, j, e, ⟨q1, q2, q3, q4⟩, q⟩ := q1
  subst e
  cases r1 with
  | cons r rr =>
    cases rr with
    | cons r' rr =>
      cases rr
      obtain ⟨t, rfl⟩ := r
      obtain ⟨t', rfl⟩ := r'
      exact call_range_2 (range_it I1 q1 q2 q3 q4 q)

/-! ### for -/
/-- W: the invariant by the turn and a measure; N: what the body is to reach -/
def tFor (wi : TI) (g : TG) (tb : TS) : TS := fun D σ H => wi σ H fun J H1 => ∃ W : Nat → Nat → St → Hp → Prop, (∃ m, W 0 m σ H1) ∧ ∀ i m σ H, W i m σ H →
  (J.stop i H ∧ D.nx σ H) ∨ (J.go i H ∧ ∃ N : St → Hp → Prop, (∀ σ' H', N σ' H' → ∃ m', m' < m ∧ W (i + 1) m' σ' H') ∧ ∀ x H', J.yld i H x H' → g x σ H' fun σ2 H2 => tb { D with nx := N, ct := N, bk := D.nx } σ2 H2)
/-- the records at fp as they stand -/
def pinsAt (fp : List Addr) (h : Heap) : List (Addr × Obj) := fp.filterMap fun b => (h.get? b).map fun o => (b, o)
theorem mem_pinsAt {fp : List Addr} {h : Heap} {b : Addr} {o : Obj} (hb : b ∈ fp) (e : h.get? b = some o) : (b, o) ∈ pinsAt fp h := List.mem_filterMap.mpr ⟨b, hb, by rw [e]; rfl⟩
theorem of_pinsAt {fp : List Addr} {h : Heap} {p : Addr × Obj} (hp : p ∈ pinsAt fp h) : p.1 ∈ fp ∧ h.get? p.1 = some p.2 := by
  obtain ⟨b, hb, e⟩ := List.mem_filterMap.mp hp
  cases q : h.get? b with
  | none => rw [q] at e; cases e
  | some o =>
    rw [q] at e
    have e' : (b, o) = p := Option.some.inj e
    subst e'
    exact ⟨hb, q⟩
theorem Inv.pinned {pins : List (Addr × Obj)} {σ : St} {H : Hp} {s : Shared} {fp : List Addr} (I : Inv X pins σ H s) (hf : ∀ b ∈ fp, FpOk X pins H b) (ho : ∀ b ∈ fp, ∃ o, s.heap.get? b = some o ∧ ∀ v, o.data ≠ .cell v) : Inv X (pins ++ pinsAt fp s.heap) σ H s :=
  I.pins_of fun p hp => (List.mem_append.mp hp).elim (fun z => I.pin p (List.mem_append_right _ z)) fun z => by
    obtain ⟨hb, e⟩ := of_pinsAt z
    obtain ⟨f0, f1, f2, _⟩ := hf p.1 hb
    obtain ⟨o, e', d⟩ := ho p.1 hb
    rw [e] at e'; cases e'
    exact ⟨e, f0, f1, f2, d⟩
theorem Inv.unpinned {pins pl : List (Addr × Obj)} {σ : St} {H : Hp} {s : Shared} (I : Inv X (pins ++ pl) σ H s) : Inv X pins σ H s := I.pins_of fun p hp => I.pin p (List.mem_append_right _ (List.mem_append_left _ hp))
theorem ps_for {iter : Expr} {body : List Stmt} {wi : TI} {g : TG} {tb : TS} {pos : Pos} (hp : PassesOwn (model X.prog X.w) X.A X.env X.xe) (hc : X.calm = true) (hi : PI X tg iter wi) (hg : PG X tg g) (hb : PSs X body tb)
    (hs : ∀ x, foldedSetIterable iter X.env x = pure x := by intro _; rfl) : PS X (.For tg iter body [] pos) (tFor wi g tb) := by
  intro pins s σ H D I h
  refine wpAny_For (thn (hi pins s σ H _ I h) fun v s1 h1 => thn h1 fun itv s2 h2 => ?_) hs
  obtain ⟨it, fp, tn, J, H2, e, I2, T, st2, f2, W, ⟨m0, w0⟩, turn⟩ := h2
  subst e
  -- what stays true of the iterator's objects through the loop
  have stat : ∀ {H' : Hp}, (∀ b ∈ fp, H' b = none) → ∀ b ∈ fp, FpOk X pins H' b := fun hn b hb => ⟨hn b hb, (f2 b hb).2⟩
  refine codeAny_forLoop_any (fun n s' => ∃ i σ' H', Inv X pins σ' H' s' ∧ tn i s'.heap ∧ (∀ b ∈ fp, H' b = none) ∧ W i n σ' H') ?_ m0 ⟨0, σ, H2, I2, st2, fun b hb => (f2 b hb).1, w0⟩
  rintro n s3 ⟨i, σ3, H3, I3, st3, fr3, w3⟩
  rcases turn i n σ3 H3 w3 with ⟨stop, qn⟩ | ⟨go, N, hN, step⟩
  · refine wpAny_passesOwn hp (thn (T.done X rfl rfl rfl hc i pins s3 σ3 H3 X.xe I3 (stat fr3) st3 stop) fun r s4 ⟨hr, I4⟩ => ?_)
    subst hr
    exact wpAny_execs_nil ⟨σ3, H3, I4, qn⟩
  · refine wpAny_passesOwn hp (thn (T.item X rfl rfl rfl hc i pins s3 σ3 H3 X.xe I3 (stat fr3) st3 go) fun r s4 ⟨u, hr, h4⟩ => ?_)
    subst hr
    refine wpAny_passesOwn hp (thn h4 fun _ s5 ⟨x, H5, I5, r5, y5, st5, fr5⟩ => ?_)
    have I5' := I5.pinned (stat fr5) (T.obj _ _ st5)
    refine wpAny_passesOwn hp (thn (hg _ s5 σ3 H5 x u _ I5' r5 (step x H5 y5)) fun _ s6 ⟨σ6, H6, I6, q6⟩ => ?_)
    refine wpAny_passesOwn hp (thn (hb _ s6 σ6 H6 _ I6 q6) fun f s7 q7 => ?_)
    have again : ∀ {σ7 : St} {H7 : Hp}, Inv X (pins ++ pinsAt fp s5.heap) σ7 H7 s7 → N σ7 H7 → ∃ m, m < n ∧ ∃ i σ' H', Inv X pins σ' H' s7 ∧ tn i s7.heap ∧ (∀ b ∈ fp, H' b = none) ∧ W i m σ' H' := fun {σ7 H7} I7 n7 => by
      obtain ⟨m', hm, w7⟩ := hN σ7 H7 n7
      refine ⟨m', hm, i + 1, σ7, H7, I7.unpinned, T.keep _ _ _ st5 fun b hb o e => (I7.pin (b, o) (List.mem_append_right _ (List.mem_append_right _ (mem_pinsAt hb e)))).1, fun b hb => ?_, w7⟩
      obtain ⟨o, e, d⟩ := T.obj _ _ st5 b hb
      exact (I7.pin (b, o) (List.mem_append_right _ (List.mem_append_right _ (mem_pinsAt hb e)))).2.1
    cases f with
    | next => obtain ⟨σ7, H7, I7, n7⟩ := q7; exact again I7 n7
    | cont => obtain ⟨σ7, H7, I7, n7⟩ := q7; exact again I7 n7
    | brk => obtain ⟨σ7, H7, I7, q7⟩ := q7; exact ⟨σ7, H7, I7.unpinned, q7⟩
    | ret v => obtain ⟨x7, σ7, H7, I7, r7, q7⟩ := q7; exact ⟨x7, σ7, H7, I7.unpinned, r7, q7⟩
end

/-! ### the forms one uses -/
end L2

namespace L2
open PySem PySem.Spec PyProof.Rows

abbrev R2 := V → V → Hp → VK → Prop
/-- a two-place operation on values: f is binaryOp op, inplaceOp op or compareOp op -/
def OpR (X : Cx) (f : Value → Value → Sem Value) (r : R2) : Prop :=
  ∀ (pins : List (Addr × Obj)) (s : Shared) (σ : St) (H : Hp) (x y : V) (v u : Value) (Q : VK), Inv X pins σ H s → RelV x v → RelV y u → r x y H Q →
    wpAny (model X.prog X.w) X.A (f v u) (EP X pins σ Q) X.xe s
/-- a one-place operation -/
def UnR (X : Cx) (f : Value → Sem Value) (r : V → Hp → VK → Prop) : Prop :=
  ∀ (pins : List (Addr × Obj)) (s : Shared) (σ : St) (H : Hp) (x : V) (v : Value) (Q : VK), Inv X pins σ H s → RelV x v → r x H Q →
    wpAny (model X.prog X.w) X.A (f v) (EP X pins σ Q) X.xe s
/-- a call of a value that is known (a builtin, a type) with values -/
def CallR (X : Cx) (f : Value) (r : List V → Hp → VK → Prop) : Prop :=
  ∀ (pins : List (Addr × Obj)) (s : Shared) (σ : St) (H : Hp) (xs : List V) (us : List Value) (Q : VK), Inv X pins σ H s → Vals xs us → r xs H Q →
    wpAny (model X.prog X.w) X.A (call f us) (EP X pins σ Q) X.xe s
/-- a value's truth -/
def TruR (X : Cx) (r : V → Hp → (Bool → Hp → Prop) → Prop) : Prop :=
  ∀ (pins : List (Addr × Obj)) (s : Shared) (σ : St) (H : Hp) (x : V) (v : Value) (Q : Bool → Hp → Prop), Inv X pins σ H s → RelV x v → r x H Q →
    wpAny (model X.prog X.w) X.A (truthy v) (TP X pins σ Q) X.xe s

def tOp (r : R2) (ta tb : TE) : TE := fun σ H Q => ta σ H fun x H1 => tb σ H1 fun y H2 => r x y H2 Q
def tUn (r : V → Hp → VK → Prop) (ta : TE) : TE := fun σ H Q => ta σ H fun x H1 => r x H1 Q
/-- ints in, under C, and a value out -/
def rI (C : Int → Int → Prop) (g : Int → Int → V) : R2 := fun x y H Q => ∃ i j, x = .int i ∧ y = .int j ∧ C i j ∧ Q (g i j) H
def rI0 (g : Int → Int → V) : R2 := fun x y H Q => ∃ i j, x = .int i ∧ y = .int j ∧ Q (g i j) H
def rU (g : Int → V) : V → Hp → VK → Prop := fun x H Q => ∃ i, x = .int i ∧ Q (g i) H

section
variable {X : Cx} {a b c : Expr} {ta tb tc : TE} {pos : Pos}

theorem binT (ha : PE X a ta) (hb : PE X b tb) {pins : List (Addr × Obj)} {s : Shared} {σ : St} {H : Hp} {R : V → V → Hp → Prop} (I : Inv X pins σ H s)
    (h : ta σ H fun x H1 => tb σ H1 fun y H2 => R x y H2) {Q : Value → Shared → Prop} {f : Value → Value → Sem Value}
    (hf : ∀ v u s2 x y H2, Inv X pins σ H2 s2 → RelV x v → RelV y u → R x y H2 → wpAny (model X.prog X.w) X.A (f v u) Q X.xe s2) :
    wpAny (model X.prog X.w) X.A (eval a X.env) (fun v s₁ => wpAny (model X.prog X.w) X.A (eval b X.env) (fun u s₂ => wpAny (model X.prog X.w) X.A (f v u) Q X.xe s₂) X.xe s₁) X.xe s := by
  refine thn (ha pins s σ H _ I h) fun v s1 ⟨x, H1, I1, r1, q1⟩ => ?_
  refine thn (hb pins s1 σ H1 _ I1 q1) fun u s2 ⟨y, H2, I2, r2, q2⟩ => ?_
  exact hf v u s2 x y H2 I2 r1 r2 q2

theorem pe_op {op : Operator} {r : R2} (ho : OpR X (binaryOp op) r) (ha : PE X a ta) (hb : PE X b tb) : PE X (.BinOp a op b pos) (tOp r ta tb) := by
  intro pins s σ H Q I h
  exact wpAny_BinOp (binT ha hb I h fun v u s2 x y H2 I2 rx ry q => ho pins s2 σ H2 x y v u Q I2 rx ry q)
theorem pe_un {op : UnaryOp} {r : V → Hp → VK → Prop} (ho : UnR X (unaryOp op) r) (ha : PE X a ta) : PE X (.UnaryOp op a pos) (tUn r ta) := by
  intro pins s σ H Q I h
  exact UnaryOp_ (thn (ha pins s σ H _ I h) fun v s1 ⟨x, H1, I1, r1, q1⟩ => ho pins s1 σ H1 x v Q I1 r1 q1)
/-! ### ints -/
theorem opI {f : Value → Value → Sem Value} {C : Int → Int → Prop} {g : Int → Int → Int}
    (rule : ∀ (i j : Int) (t u : Tok) (s : Shared) (Q : Value → Shared → Prop) (E : Value → Shared → Prop), C i j → Q (.int (g i j) s.toks) { s with toks := s.toks + 1 } → wpAny (model X.prog X.w) X.A (f (.int i t) (.int j u)) Q E s) :
    OpR X f (rI C fun i j => .int (g i j)) := by
  intro pins s σ H x y v u Q I rx ry h
  obtain ⟨i, j, rfl, rfl, hc, q⟩ := h
  obtain ⟨t, rfl⟩ := rx
  obtain ⟨t', rfl⟩ := ry
  exact rule i j t t' s _ _ hc ⟨.int (g i j), H, I.tok _, ⟨_, rfl⟩, q⟩
theorem opI0 {f : Value → Value → Sem Value} {g : Int → Int → Int}
    (rule : ∀ (i j : Int) (t u : Tok) (s : Shared) (Q : Value → Shared → Prop) (E : Value → Shared → Prop), Q (.int (g i j) s.toks) { s with toks := s.toks + 1 } → wpAny (model X.prog X.w) X.A (f (.int i t) (.int j u)) Q E s) :
    OpR X f (rI0 fun i j => .int (g i j)) := by
  intro pins s σ H x y v u Q I rx ry h
  obtain ⟨i, j, rfl, rfl, q⟩ := h
  obtain ⟨t, rfl⟩ := rx
  obtain ⟨t', rfl⟩ := ry
  exact rule i j t t' s _ _ ⟨.int (g i j), H, I.tok _, ⟨_, rfl⟩, q⟩
theorem opB0 {f : Value → Value → Sem Value} {g : Int → Int → Bool}
    (rule : ∀ (i j : Int) (t u : Tok) (s : Shared) (Q : Value → Shared → Prop) (E : Value → Shared → Prop), Q (.bool (g i j)) s → wpAny (model X.prog X.w) X.A (f (.int i t) (.int j u)) Q E s) :
    OpR X f (rI0 fun i j => .bl (g i j)) := by
  intro pins s σ H x y v u Q I rx ry h
  obtain ⟨i, j, rfl, rfl, q⟩ := h
  obtain ⟨t, rfl⟩ := rx
  obtain ⟨t', rfl⟩ := ry
  exact rule i j t t' s _ _ ⟨.bl (g i j), H, I, rfl, q⟩

def CDiv (i j : Int) : Prop := 0 < j ∧ j < 1073741824
def CDivN (i j : Int) : Prop := j ≠ 0 ∧ j.natAbs < 1073741824
def CPow (i j : Int) : Prop := 0 ≤ j ∧ j ≤ 1000000 ∧ i.natAbs < 2 ^ 64
def CMul (i j : Int) : Prop := (-(2 ^ 64) < i ∧ i < 2 ^ 64) ∨ (-(2 ^ 64) < j ∧ j < 2 ^ 64)
theorem CMul.ok {i j : Int} (h : CMul i j) : IntMulOk i j := by
  rcases h with ⟨h1, h2⟩ | ⟨h1, h2⟩
  · exact .of_left (intBits_le_64 h1 h2)
  · exact .of_right (intBits_le_64 h1 h2)
theorem op_add : OpR X (binaryOp .Add) (rI0 fun i j => .int (i + j)) := opI0 fun _ _ _ _ _ _ _ q => add_int q
theorem op_sub : OpR X (binaryOp .Sub) (rI0 fun i j => .int (i - j)) := opI0 fun _ _ _ _ _ _ _ q => sub_int q
/-- // by a positive divisor -/
theorem op_fdiv : OpR X (binaryOp .FloorDiv) (rI CDiv fun i j => .int (i / j)) := opI fun i j _ _ _ _ _ hc q => by
  have h1 : (0 : Int) < j := hc.1
  have h2 : j < 1073741824 := hc.2
  exact floordiv_int (by omega) (by rw [Int.fdiv_eq_ediv_of_nonneg i (by omega)]; exact q) (.inl (PyProof.noPylong_small (by omega)))
/-- % by a positive divisor of any size -/
theorem op_mod : OpR X (binaryOp .Mod) (rI (fun _ j => 0 < j) fun i j => .int (i % j)) := opI fun i j _ _ _ _ _ hc q => by
  have h1 : (0 : Int) < j := hc
  exact mod_int' (by omega) (by rw [Int.fmod_eq_emod_of_nonneg i (by omega)]; exact q)
theorem op_pow : OpR X (binaryOp .Pow) (rI CPow fun i j => .int (i ^ j.toNat)) := opI fun _ _ _ _ _ _ _ hc q => pow_int_small hc.1 hc.2.1 hc.2.2 q
theorem unI {f : Value → Sem Value} {g : Int → Int}
    (rule : ∀ (i : Int) (t : Tok) (s : Shared) (Q : Value → Shared → Prop) (E : Value → Shared → Prop), Q (.int (g i) s.toks) { s with toks := s.toks + 1 } → wpAny (model X.prog X.w) X.A (f (.int i t)) Q E s) :
    UnR X f (rU fun i => .int (g i)) := by
  intro pins s σ H x v Q I rx h
  obtain ⟨i, rfl, q⟩ := h
  obtain ⟨t, rfl⟩ := rx
  exact rule i t s _ _ ⟨.int (g i), H, I.tok _, ⟨_, rfl⟩, q⟩
theorem un_neg : UnR X (unaryOp .USub) (rU fun i => .int (-i)) := unI fun _ _ _ _ _ q => neg_int q
/-! ### bools among ints: n += (a < b) -/
end

/-! ### comparisons -/
/-- the scalars that == tells apart as data does -/
def scal : V → V → Bool
  | .non, .non => true | .non, .int _ => true | .int _, .non => true | .non, .bl _ => true | .bl _, .non => true | .non, .str _ => true | .str _, .non => true
  | .int _, .int _ => true | .bl _, .bl _ => true | .str _, .str _ => true | .byt _, .byt _ => true
  | .int _, .str _ => true | .str _, .int _ => true | .bl _, .str _ => true | .str _, .bl _ => true
  | _, _ => false
def rEq : R2 := fun x y H Q => scal x y = true ∧ Q (.bl (decide (x = y))) H
def rNe : R2 := fun x y H Q => scal x y = true ∧ Q (.bl (!decide (x = y))) H

section
variable {X : Cx} {a b c : Expr} {ta tb tc : TE} {pos : Pos}
theorem op_lt : OpR X (compareOp .Lt) (rI0 fun i j => .bl (decide (i < j))) := opB0 fun _ _ _ _ _ _ _ q => lt_int q
theorem op_le : OpR X (compareOp .LtE) (rI0 fun i j => .bl (decide (i ≤ j))) := opB0 fun _ _ _ _ _ _ _ q => le_int q
theorem op_gt : OpR X (compareOp .Gt) (rI0 fun i j => .bl (decide (j < i))) := opB0 fun _ _ _ _ _ _ _ q => gt_int q
/-- is, is not of two objects that are tracked lists or instances -/
def isObj : HO → Bool
  | .lst _ => true
  | .ins _ _ _ => true
  | _ => false
/-- two rules for one operation: by cases -/
theorem OpR.or {f : Value → Value → Sem Value} {r r' : R2} (h : OpR X f r) (h' : OpR X f r') : OpR X f (fun x y H Q => r x y H Q ∨ r' x y H Q) := by
  intro pins s σ H x y v u Q I rx ry q
  rcases q with q | q
  · exact h pins s σ H x y v u Q I rx ry q
  · exact h' pins s σ H x y v u Q I rx ry q

theorem nomark (b : Expr) {op : CmpOp} (h : op ≠ .In := by decide) (h2 : op ≠ .NotIn := by decide) : behindInMarks op b = false := by
  have e1 : (op == CmpOp.In) = false := by cases op <;> first | rfl | exact absurd rfl h
  have e2 : (op == CmpOp.NotIn) = false := by cases op <;> first | rfl | exact absurd rfl h2
  cases b <;> simp [behindInMarks, e1, e2]
/-- a comparison as a value; hm: nomark b, or (for in, not in) by with_unfolding_all rfl -/
theorem pe_cmpR {op : CmpOp} {r : R2} (ho : OpR X (compareOp op) r) (ha : PE X a ta) (hb : PE X b tb) (hm : behindInMarks op b = false) : PE X (.Compare a [op] [b] pos) (tOp r ta tb) := by
  intro pins s σ H Q I h
  exact wpAny_Compare1 (binT ha hb I h fun v u s2 x y H2 I2 rx ry q => ho pins s2 σ H2 x y v u Q I2 rx ry q) hm
/-- a reading of a value as a test -/
def tTest (t : TE) : TT := fun σ H Q => t σ H fun x H' => ∃ k, x = .bl k ∧ Q k H'
theorem pt_cmpR {op : CmpOp} {r : R2} (ho : OpR X (compareOp op) r) (ha : PE X a ta) (hb : PE X b tb) (hm : behindInMarks op b = false) : PT X (.Compare a [op] [b] pos) (tTest (tOp r ta tb)) := by
  intro pins s σ H Q I h
  refine wpAny_isTrue_Compare1 (thn (ha pins s σ H _ I h) fun v s1 ⟨x, H1, I1, r1, q1⟩ => thn (hb pins s1 σ H1 _ I1 q1) fun u s2 ⟨y, H2, I2, r2, q2⟩ =>
    thn (ho pins s2 σ H2 x y v u _ I2 r1 r2 q2) fun c s3 ⟨z, H3, I3, r3, k, e, q3⟩ => ?_) hm
  subst e
  cases r3
  exact wpAny_truthy_bool ⟨H3, I3, q3⟩
/-- a op1 b op2 c -/
def tChain (r r' : R2) (ta tb tc : TE) : TE := fun σ H Q => ta σ H fun x H1 => tb σ H1 fun y H2 => r x y H2 fun z H3 => ∃ k, z = .bl k ∧
  (if k = true then tc σ H3 fun w' H4 => r' y w' H4 Q else Q (.bl false) H3)
theorem pt_chain {op op' : CmpOp} {r r' : R2} (ho : OpR X (compareOp op) r) (ho' : OpR X (compareOp op') r') (ha : PE X a ta) (hb : PE X b tb) (hc : PE X c tc)
    (hm : lastMarks [op, op'] [b, c] = false := by with_unfolding_all rfl) : PT X (.Compare a [op, op'] [b, c] pos) (tTest (tChain r r' ta tb tc)) := by
  intro pins s σ H Q I h
  refine isTrue_chain (thn (ha pins s σ H _ I h) fun v s1 ⟨x, H1, I1, r1, q1⟩ => test_link (thn (hb pins s1 σ H1 _ I1 q1) fun u s2 ⟨y, H2, I2, r2, q2⟩ =>
    thn (ho pins s2 σ H2 x y v u _ I2 r1 r2 q2) fun d s3 ⟨z, H3, I3, r3, k, e, q3⟩ => ?_)) hm
  subst e
  cases r3
  refine wpAny_truthy_bool ?_
  cases k with
  | false =>
    obtain ⟨k', e', q'⟩ := q3
    cases e'
    exact ite_ff ⟨H3, I3, q'⟩
  | true =>
    refine ite_tt (test_last (thn (hc pins s3 σ H3 _ I3 q3) fun w' s4 ⟨z', H4, I4, r4, q4⟩ => thn (ho' pins s4 σ H4 y z' u w' _ I4 r2 r4 q4) fun d' s5 ⟨z2, H5, I5, r5, k2, e2, q5⟩ => ?_))
    subst e2
    cases r5
    exact wpAny_truthy_bool ⟨H5, I5, q5⟩

/-! ### truth -/
/-- a value's truth by the abstract heap -/
def TruV (K : PySem.W.Frag) (x : V) (H : Hp) (k : Bool) : Prop :=
  match x with
  | .non => k = false
  | .bl b => k = b
  | .int i => k = (i != 0)
  | .str y => y.length ≤ sizeLine ∧ k = ((y.length : Int) != 0)
  | .byt y => y.size ≤ sizeLine ∧ k = ((y.size : Int) != 0)
  | .ref p => (∃ xs, SqL K H p xs ∧ k = !xs.isEmpty) ∨ (∃ xs, SqT K H p xs ∧ k = !xs.isEmpty) ∨ ∃ kvs, H p = some (.dK kvs) ∧ k = !kvs.isEmpty
  | _ => False
theorem line63 : (sizeLine : Nat) < 2 ^ 63 := by rw [sizeLine_eq]; decide
/-! ### strs and bytes -/
def PlainIxT (b : Expr) : Prop := ∀ o i, subscripted b false o i = operate [o, i] (getItem o i)
/-! ### scalar builtins, by CallR -/
theorem vals1 {x : V} {us : List Value} (r : Vals [x] us) : ∃ u, us = [u] ∧ RelV x u := by
  cases r with
  | cons r1 r2 => cases r2; exact ⟨_, rfl, r1⟩
theorem call_abs : CallR X (.builtin "abs") (fun xs H Q => ∃ i, xs = [.int i] ∧ Q (.int (if i < 0 then -i else i)) H) := by
  intro pins s σ H xs us Q I r h
  obtain ⟨i, rfl, q⟩ := h
  obtain ⟨u, rfl, t, rfl⟩ := vals1 r
  exact call_abs_int fun u tk => ⟨.int (if i < 0 then -i else i), H, I.tok _, ⟨_, rfl⟩, q⟩
/-- len of a str, a bytes, a list, a tuple -/
def LenV (K : PySem.W.Frag) (x : V) (H : Hp) (n : Nat) : Prop :=
  match x with
  | .str y => y.length ≤ sizeLine ∧ n = y.length
  | .byt y => y.size ≤ sizeLine ∧ n = y.size
  | .ref p => (∃ xs, SqL K H p xs ∧ n = xs.length) ∨ ∃ xs, SqT K H p xs ∧ n = xs.length
  | _ => False
end
end L2

namespace L2
open PySem PySem.Spec PyProof.Rows

/-! ### an instance, its attributes a map -/
structure ObjM (h : Heap) (x dx C : Addr) (mA : Str → Option Value) : Prop where
  obj : h.get? x = some (PySem.W.instObj C dx)
  ns : h.Ns1 dx mA
  ne : dx ≠ x

section
variable {prog : Program} {w : World} {A : Around} {E : Value → Shared → Prop} {s : Shared} {K : PySem.W.Frag} {x dx C f : Addr} {mA : Str → Option Value} {name : Str} {v : Value}

end

/-! ### the attributes as a list of pairs -/
def putF (f : Str) (v : V) : List (Str × V) → List (Str × V)
  | [] => [(f, v)]
  | (g, x) :: r => if g = f then (g, v) :: r else (g, x) :: putF f v r
section
variable {P : Program} {w : World} {H H' : Hp} {h h' : Heap} {a C dx : Addr} {fs fs' : List (Str × V)}
end

/-! ### what of the text a class must have -/
structure Cls (K : PySem.W.Frag) (C : Addr) : Prop where
  pg : PySem.W.plainGet K C Str.empty = true
  hd : PySem.W.hasDictIn K C = true
  po : PySem.W.plainOver K C = true
  sa : PySem.W.findIn K (.ref C) "__setattr__" = some (some (.builtin "object.__setattr__"))
/-- no class of it has the name -/
def NoAttr (K : PySem.W.Frag) (C : Addr) (f : Str) : Prop := PySem.W.findIn K (.ref C) f = some none
/-- a constant of the class -/
structure Con (K : PySem.W.Frag) (C : Addr) (f : Str) (v : V) (u : Value) : Prop where
  at_ : PySem.W.findIn K (.ref C) f = some (some u)
  rel : RelV v u
  get : PySem.W.specialIn K u "__get__" = some none
  cp : PySem.W.copiedNames.contains f = false
/-- a method: a plain def of the class or of one above it -/
structure Meth (K : PySem.W.Frag) (C : Addr) (m : Str) (f : Addr) : Prop where
  at_ : PySem.W.findIn K (.ref C) m = some (some (.ref f))
  fn : PySem.W.isFn K (.ref f) = true
  kp : PySem.W.keepIn K (.ref f) = true

section
variable {X : Cx} {pins : List (Addr × Obj)} {σ : St} {H : Hp} {s : Shared} {a C dx : Addr} {fs : List (Str × V)} {f : Str} {v : V} {A : Around} {E : Value → Shared → Prop}

end

/-! ### readings and rules -/
/-- e.f, an attribute of the instance -/
def tFld (K : PySem.W.Frag) (ta : TE) (f : Str) : TE := fun σ H Q => ta σ H fun x H1 => ∃ a C dx fs v, x = .ref a ∧ H1 a = some (.ins C dx fs) ∧ Cls K C ∧ NoAttr K C f ∧ fs.lookup f = some v ∧ Q v H1
/-- e.f, a constant of the class -/
def tCon (K : PySem.W.Frag) (ta : TE) (f : Str) : TE := fun σ H Q => ta σ H fun x H1 => ∃ a C dx fs v u, x = .ref a ∧ H1 a = some (.ins C dx fs) ∧ Cls K C ∧ Con K C f v u ∧ fs.lookup f = none ∧ Q v H1
/-- e.f = value -/
def sFld (K : PySem.W.Frag) (ta tv : TE) (f : Str) : TS := fun D σ H => tv σ H fun y H1 => ta σ H1 fun x H2 => ∃ a C dx fs, x = .ref a ∧ H2 a = some (.ins C dx fs) ∧ Cls K C ∧ NoAttr K C f ∧ fs.length < 1000 ∧
  D.nx σ (upd H2 a (.ins C dx (putF f y fs)))
/-- an augmented operator on two values -/
def InOp (X : Cx) (op : Operator) (rd : V → V → Hp → VK → Prop) : Prop :=
  ∀ (pins : List (Addr × Obj)) (s : Shared) (σ : St) (H : Hp) (x y : V) (u v : Value) (Q : VK), Inv X pins σ H s → RelV x u → RelV y v → rd x y H Q → wpAny (model X.prog X.w) X.A (inplaceOp op u v) (EP X pins σ Q) X.xe s
/-- e.f op= value -/
def sFldAug (K : PySem.W.Frag) (ta tv : TE) (rd : V → V → Hp → VK → Prop) (f : Str) : TS := fun D σ H => ta σ H fun x H1 => ∃ a C dx fs v, x = .ref a ∧ H1 a = some (.ins C dx fs) ∧ Cls K C ∧ NoAttr K C f ∧ fs.lookup f = some v ∧
  tv σ H1 fun y H2 => rd v y H2 fun z H3 => ∃ dx' fs', H3 a = some (.ins C dx' fs') ∧ fs'.length < 1000 ∧ D.nx σ (upd H3 a (.ins C dx' (putF f z fs')))

section
variable {X : Cx} {o e value : Expr} {f : Str} {pos pos' tpos : Pos} {ta tv : TE}
def rAdd : V → V → Hp → VK → Prop := fun x y H Q => ∃ i j, x = .int i ∧ y = .int j ∧ Q (.int (i + j)) H
def rSub : V → V → Hp → VK → Prop := fun x y H Q => ∃ i j, x = .int i ∧ y = .int j ∧ Q (.int (i - j)) H
end

/-! ### isinstance -/
section
variable {X : Cx} {pins : List (Addr × Obj)} {σ : St} {H : Hp} {s : Shared} {A : Around} {E : Value → Shared → Prop} {Q : Value → Shared → Prop} {c : Value} {b : Bool}
/-- the type of a value, as the fragment's deciders take it; for an instance its class -/
inductive TyOf (K : PySem.W.Frag) (H : Hp) : V → Value → Prop where
  | non : TyOf K H .non (.type "NoneType")
  | bl (x : Bool) : TyOf K H (.bl x) (.type "bool")
  | int (i : Int) : TyOf K H (.int i) (.type "int")
  | str (x : Str) : TyOf K H (.str x) (.type "str")
  | flt (x : UInt64) : TyOf K H (.flt x) (.type "float")
  | lst {a : Addr} {xs : List V} (e : H a = some (.lst xs)) : TyOf K H (.ref a) (.type "list")
  | frz {a : Addr} {o : Obj} {xs : List V} (e : H a = some (.frz o (.lst xs))) : TyOf K H (.ref a) (.type "list")
  | tup {a : Addr} {xs : List V} (e : H a = some (.tup xs)) : TyOf K H (.ref a) (.type "tuple")
  | dK {a : Addr} {kvs : List (Key × V)} (e : H a = some (.dK kvs)) : TyOf K H (.ref a) (.type "dict")
  | dT {a : Addr} {kvs : List (List Key × V)} (e : H a = some (.dT kvs)) : TyOf K H (.ref a) (.type "dict")
  | ins {a C dx : Addr} {fs : List (Str × V)} (e : H a = some (.ins C dx fs)) (cl : Cls K C) (ha : PySem.W.findIn K (.ref C) "__class__" = some (some (.builtin "object.__class__")))
      (hn : PySem.W.specialIn K (.builtin "object.__class__") "__get__" = some (some (.builtin "getset_descriptor.__get__"))) (htk : PySem.W.takesIn K (.builtin "object.__class__") = some true)
      (hm : PySem.W.mroIn K C (.type "object") = some true) : TyOf K H (.ref a) (.ref C)
end
end L2

namespace L2
open PySem PySem.Spec PyProof.Rows

/-! ### room -/
structure Room (k : Nat) (A : Around) : Prop where
  hd : A.handled = none
  dp : A.depth + 3 * k + 5 < recursionLimit
  un : A.units + 16 * k + 200 < cLine
theorem Room.mono {j k : Nat} {A : Around} (r : Room k A) (h : j ≤ k) : Room j A := ⟨r.hd, by have := r.dp; omega, by have := r.un; omega⟩
theorem Room.deeper {k : Nat} {A : Around} (r : Room (k + 1) A) (env : Env) : Room k (A.deeper env) :=
  ⟨r.hd, by have := r.dp; show A.depth + 1 + 3 * k + 5 < _; omega, by have := r.un; show A.units + 3 + 16 * k + 200 < _; omega⟩
theorem Room.depth {k : Nat} {A : Around} (r : Room k A) : A.depth < recursionLimit := by have := r.dp; omega
theorem Room.units {k : Nat} {A : Around} (r : Room k A) : A.units + 64 < cLine := by have := r.un; omega
/-! ### argument lists and displays -/
def tNil : TA := fun _ H Q => Q [] H
def tCons (ta : TE) (tr : TA) : TA := fun σ H Q => ta σ H fun x H1 => tr σ H1 fun xs H2 => Q (x :: xs) H2
section
variable {X : Cx} {e : Expr} {es : List Expr} {te : TE} {t : TA} {pos : Pos}
theorem pa_nil : PA X [] tNil := fun _ _ _ _ H Q I h => Calls.spliced_nil ⟨[], H, I, .nil, h⟩
theorem pa_cons (ha : PE X e te) (hr : PA X es t) (hs : starEach (e :: es) X.env = (false, eval e X.env) :: starEach es X.env := by rfl) : PA X (e :: es) (tCons te t) := by
  intro pos pins s σ H Q I h
  rw [hs]
  show wpAny _ _ (spliced ((false, eval e X.env) :: backTo pos (starEach es X.env))) _ _ s
  refine Calls.spliced_cons (thn (ha pins s σ H _ I h) fun u s1 ⟨x, H1, I1, r1, q1⟩ => ?_)
  exact thn (hr pos pins s1 σ H1 _ I1 q1) fun us s2 ⟨xs, H2, I2, r2, q2⟩ => ⟨x :: xs, H2, I2, .cons r1 r2, q2⟩

/-- a tuple, a list of written items -/
def tTup (t : TA) : TE := fun σ H Q => t σ H fun xs H1 => xs.length ≤ sizeLine ∧ ∀ p, H1 p = none → Q (.ref p) (upd H1 p (.tup xs))
def tLst (t : TA) : TE := fun σ H Q => t σ H fun xs H1 => xs.length ≤ sizeLine ∧ ∀ p, H1 p = none → Q (.ref p) (upd H1 p (.lst xs))
theorem pe_tup {x1} (h : PA X es t) : PE X (.Tuple es x1 pos) (tTup t) := by
  intro pins s σ H Q I hq
  refine wpAny_Tuple_spliced (thn (h pos pins s σ H _ I hq) fun us s1 ⟨xs, H1, I1, r, z, q⟩ => ⟨by rw [← r.length]; exact z, ?_⟩)
  have hf : H1 s1.heap.objs.size = none := I1.hok.fresh (Nat.le_refl _)
  refine ⟨.ref s1.heap.objs.size, upd H1 s1.heap.objs.size (.tup xs), I1.laid (t' := s1.toks) (fun b u e => Heap.get?_push_of_some _ e) (Nat.le_refl _) ?_, rfl, q _ hf⟩
  exact ⟨z, us, r, ⟨_, Heap.get?_push_size _ rfl, rfl, _, rfl⟩⟩
theorem pe_lst (h : PA X es t) : PE X (.List es pos) (tLst t) := by
  intro pins s σ H Q I hq
  refine wpAny_List_spliced (thn (h pos pins s σ H _ I hq) fun us s1 ⟨xs, H1, I1, r, z, q⟩ => ⟨by rw [← r.length]; exact z, ?_⟩)
  have hf : H1 s1.heap.objs.size = none := I1.hok.fresh (Nat.le_refl _)
  refine ⟨.ref s1.heap.objs.size, upd H1 s1.heap.objs.size (.lst xs), I1.laid (t' := s1.toks) (fun b u e => Heap.get?_push_of_some _ e) (Nat.le_refl _) ?_, rfl, q _ hf⟩
  exact ⟨z, us, 0, r, Heap.get?_push_size _ rfl⟩
end

/-! ### what a def promises -/
/-- a def's promise: the bound arguments in the parameters' order, the heap, the wanted end, the wanted exception -/
abbrev Sp := List V → Hp → VK → XK → Prop
/-- how an exception lies behind a call (file 08 gives it): the callers' frames, abstract heap and state ahead of the call, the wish, the exception, the state -/
abbrev CXT := List Env → Hp → Shared → XK → Value → Shared → Prop

/-- the state at a call -/
structure Env0 (P : Program) (w : World) (K : PySem.W.Frag) (mg : Str → Option Value) (base : Heap) (A : Around) (outer : List Env) (s : Shared) (H : Hp) : Prop where
  frames : A.frames = some outer
  mod : Mod K mg base
  bs : ∀ b o, base.get? b = some o → s.heap.get? b = some o ∧ H b = none
  bsz : base.objs.size ≤ s.heap.objs.size
  funs : s.heap.FunFrames base outer
  frf : ∀ b ∈ frs outer, H b = none
  hok : HOk P w H s.heap
  bare : AllBare s.gens
/-- a call's end -/
def CE (outer : List Env) (P : Program) (w : World) (H : Hp) (s : Shared) (Q : VK) (u : Value) (s' : Shared) : Prop :=
  ∃ v H', s'.os = s.os ∧ AllBare s'.gens ∧ Un (frs outer) [] H H' s.heap s'.heap ∧ HOk P w H' s'.heap ∧ RelV v u ∧ Q v H'
def CR (CX : CXT) (outer : List Env) (P : Program) (w : World) (H : Hp) (s : Shared) (Q : VK) (E : XK) (r : Result) (s' : Shared) : Prop :=
  match r with
  | .ok (.ret u) => CE outer P w H s Q u s'
  | .ok _ => False
  | .error e => CX outer H s E e s'
structure FnOk (P : Program) (w : World) (K : PySem.W.Frag) (mg : Str → Option Value) (base : Heap) (CX : CXT) (k : Nat) (f : Addr) (fd : FuncData) (ps : List Str) (sp : Sp) : Prop where
  len : ∀ vs H Q E, sp vs H Q E → vs.length = ps.length
  run : ∀ (A : Around) (outer : List Env) (s : Shared) (H : Hp) (args : Args) (us : List Value) (vs : List V) (Q : VK) (E : XK), Room k A → Env0 P w K mg base A outer s H → BindsTo s fd args (ps.zip us) → Vals vs us → sp vs H Q E →
    codeAny (model P w) A (.call (.ref f) args) (CR CX outer P w H s Q E) s
theorem FnOk.mono {P : Program} {w : World} {K : PySem.W.Frag} {mg : Str → Option Value} {base : Heap} {CX : CXT} {j k : Nat} {f : Addr} {fd : FuncData} {ps : List Str} {sp : Sp} (F : FnOk P w K mg base CX j f fd ps sp) (h : j ≤ k) :
    FnOk P w K mg base CX k f fd ps sp := ⟨F.len, fun A outer s H args us vs Q E hr => F.run A outer s H args us vs Q E (hr.mono h)⟩
/-- a weaker promise -/
theorem FnOk.imp {P : Program} {w : World} {K : PySem.W.Frag} {mg : Str → Option Value} {base : Heap} {CX : CXT} {k : Nat} {f : Addr} {fd : FuncData} {ps : List Str} {sp sp' : Sp} (F : FnOk P w K mg base CX k f fd ps sp)
    (h : ∀ vs H Q E, sp' vs H Q E → sp vs H Q E) : FnOk P w K mg base CX k f fd ps sp' :=
  ⟨fun vs H Q E q => F.len vs H Q E (h _ _ _ _ q), fun A outer s H args us vs Q E hr he hb hv hs => F.run A outer s H args us vs Q E hr he hb hv (h _ _ _ _ hs)⟩

section
variable {X : Cx} {pins : List (Addr × Obj)} {σ : St} {H : Hp} {s s' : Shared}
/-- from a body: what a callee wants -/
theorem Inv.env0 (I : Inv X pins σ H s) : Env0 X.prog X.w X.K X.mg X.base X.A X.stack s H :=
  ⟨I.ok.frames, I.ok.mod, I.bs, Nat.le_trans I.ok.bsz I.sz, I.stack, I.stkFree, I.hok, I.bare⟩
/-- behind a call -/
theorem Inv.after {Q : VK} {u : Value} (I : Inv X pins σ H s) (h : CE X.stack X.prog X.w H s Q u s') : EP X pins σ Q u s' := by
  obtain ⟨v, H', os, bare, un, hok, r, q⟩ := h
  obtain ⟨hh, g, d, t, os'⟩ := s'
  obtain rfl : os' = s.os := os
  exact ⟨v, H', I.call (h' := hh) (g' := g) (d' := d) (t' := t) (ch := []) un hok bare (fun b z => absurd z (by simp)), r, q⟩
end

/-! ### calls -/
/-- f(..): the written arguments, then the defaults dvs; E: what is wanted of an exception -/
def tCall (sp : Sp) (dvs : List V) (E : XK) (t : TA) : TE := fun σ H Q => t σ H fun vs H1 => sp (vs ++ dvs) H1 Q E
/-- o.m(..) of an instance of the class at C -/
def tMeth (C : Addr) (m : Str) (sp : Sp) (dvs : List V) (E : XK) (ta : TE) (t : TA) : TE := fun σ H Q => ta σ H fun x H1 => ∃ a dx fs, x = .ref a ∧ H1 a = some (.ins C dx fs) ∧ fs.lookup m = none ∧
  t σ H1 fun vs H2 => sp (x :: (vs ++ dvs)) H2 Q E
/-- C(..): a new instance and its dict, then __init__ -/
def tMake (C : Addr) (sp : Sp) (dvs : List V) (E : XK) (t : TA) : TE := fun σ H Q => t σ H fun vs H1 => ∀ x dx, H1 x = none → H1 dx = none → dx ≠ x →
  sp (.ref x :: (vs ++ dvs)) (upd (upd H1 dx (.own x)) x (.ins C dx [])) (fun v H2 => v = .non ∧ Q (.ref x) H2) E

/-- how the parameters are bound: us the positional arguments, kw the keywords' values by name, ds the defaults that fill up -/
def Binds (K : PySem.W.Frag) (fd : FuncData) (ps : List Str) (ds : List Value) : Prop :=
  ∀ (s : Shared) (us : List Value), K.In s.heap → (us ++ ds).length = ps.length → BindsTo s fd ⟨us, []⟩ (ps.zip (us ++ ds))
/-- every parameter is given -/
theorem Binds.all {K : PySem.W.Frag} {fd : FuncData} {ps : List Str} (h : ∀ us : List Value, us.length = ps.length → bindArgs fd ⟨us, []⟩ = pure (ps.zip us)) : Binds K fd ps [] := fun s us _ hl => by
  rw [List.append_nil] at hl ⊢
  exact .of_eq (h us hl)

/-- an exception of a callee reaches what this body wants of exceptions -/
def Passes (CX : CXT) (X : Cx) (E : XK) : Prop := ∀ (pins : List (Addr × Obj)) (σ : St) (H : Hp) (s : Shared) (e : Value) (s' : Shared), Inv X pins σ H s → CX X.stack H s E e s' → X.xe e s'

section
variable {X : Cx} {CX : CXT} {k : Nat} {f C : Addr} {fd : FuncData} {ps : List Str} {sp : Sp} {dvs : List V} {ds : List Value} {E : XK} {x m : Str} {p pos apos : Pos} {e o : Expr} {es : List Expr} {ta : TE} {t : TA}

/-- the callee runs -/
theorem run_fn {pins : List (Addr × Obj)} {σ : St} {H : Hp} {s : Shared} {Q : VK} {us : List Value} {vs : List V} (F : FnOk X.prog X.w X.K X.mg X.base CX k f fd ps sp) (hr : Room k X.A) (hb : Binds X.K fd ps ds) (hd : Vals dvs ds) (hx : Passes CX X E)
    (I : Inv X pins σ H s) (r : Vals vs us) (h : sp (vs ++ dvs) H Q E) : wpAny (model X.prog X.w) X.A (call (.ref f) us) (EP X pins σ Q) X.xe s := by
  have r2 : Vals (vs ++ dvs) (us ++ ds) := r.append hd
  have hl : (us ++ ds).length = ps.length := by rw [← r2.length]; exact F.len _ _ _ _ h
  refine wpAny_call (codeAny_mono (F.run X.A X.stack s H ⟨us, []⟩ (us ++ ds) (vs ++ dvs) Q E hr I.env0 (hb s us I.kIn hl) r2 h) fun r s' hq => ?_)
  cases r with
  | error e => exact hx pins σ H s e s' I hq
  | ok fl =>
    cases fl with
    | ret u => exact I.after hq
    | next => exact False.elim hq
    | brk => exact False.elim hq
    | cont => exact False.elim hq

theorem pe_call (F : FnOk X.prog X.w X.K X.mg X.base CX k f fd ps sp) (hr : Room k X.A) (hg : Gl X x) (hm : X.mg x = some (.ref f)) (hk : PySem.W.keepIn X.K (.ref f) = true) (hb : Binds X.K fd ps ds) (hd : Vals dvs ds) (hx : Passes CX X E)
    (ha : PA X (e :: es) t) (hdb : (x == ("__debug__" : Str)) = false := by decide) (he : starEach (e :: es) X.env = (false, eval e X.env) :: starEach es X.env := by rfl) (hpl : (backTo pos (starEach es X.env)).any (·.1) = false := by rfl) :
    PE X (.Call (.Name x p) (e :: es) [] pos) (tCall sp dvs E t) := by
  intro pins s σ H Q I h
  refine wpAny_Call_Name_kw (ld_glob I hg hm ?_ hdb)
  refine PySem.W.callWith_K (h₀ := X.base) I.ok.mod.kin hk (thn (ha pos pins s σ H _ I h) fun us s1 ⟨vs, H1, I1, r, q⟩ => ⟨I1.kIn, ?_⟩) he hpl
  exact run_fn F hr hb hd hx I1 r q
/-- what a class must have to be made -/
structure Mk (K : PySem.W.Frag) (C f : Addr) : Prop where
  makes : PySem.W.makesIn K C = true
  init : PySem.W.findIn K (.ref C) "__init__" = some (some (.ref f))
  fn : PySem.W.isFn K (.ref f) = true
  kp : PySem.W.keepIn K (.ref C) = true

end

/-! ### keywords -/
/-- the values of the keywords, from the left -/
def PK (X : Cx) (kws : List Keyword) (t : TA) : Prop :=
  ∀ (pos : Pos) (pins : List (Addr × Obj)) (s : Shared) (σ : St) (H : Hp) (Q : List V → Hp → Prop), Inv X pins σ H s → t σ H Q → wpAny (model X.prog X.w) X.A (evalAll ((backToKw pos (keywordEach kws X.env)).map (·.2))) (AP X pins σ Q) X.xe s
section
variable {X : Cx} {CX : CXT} {k : Nat} {f C : Addr} {fd : FuncData} {ps ks : List Str} {sp : Sp} {E : XK} {x m : Str} {p pos apos kpos : Pos} {e o : Expr} {es : List Expr} {kws : List Keyword} {te ta : TE} {t tk : TA} {nm : Option Str}
/-- how a call with keywords binds: g puts the positional values us and the keywords' values ws (names ks) in the parameters' order, defaults among them -/
structure KBinds (K : PySem.W.Frag) (fd : FuncData) (ps ks : List Str) (g : List Value → List Value → List Value) (gV : List V → List V → List V) : Prop where
  to : ∀ (s : Shared) (us ws : List Value), K.In s.heap → (g us ws).length = ps.length → BindsTo s fd ⟨us, ks.zip ws⟩ (ps.zip (g us ws))
  rel : ∀ {vs : List V} {us : List Value} {zs : List V} {ws : List Value}, Vals vs us → Vals zs ws → Vals (gV vs zs) (g us ws)
def tCallK (sp : Sp) (gV : List V → List V → List V) (E : XK) (t tk : TA) : TE := fun σ H Q => t σ H fun vs H1 => tk σ H1 fun zs H2 => sp (gV vs zs) H2 Q E
variable {g : List Value → List Value → List Value} {gV : List V → List V → List V}
end

/-! ### a def's body keeps its promise -/
/-- names: the parameters first -/
structure FnScope (N P : List Str) (sc : Scope) : Prop where
  kind : sc.kind = .function
  co : sc.isCoroutine = false
  gen : sc.isGenerator = false
  nd : N.Nodup
  pre : N.take P.length = P
  par : ∀ x ∈ P, sc.names.lookup x = some .local ∨ sc.names.lookup x = some .cell
  nofree : ∀ y ∈ sc.names, y.2 ≠ .free

theorem bindL_out {kindOf : Str → Option NameKind} {x : Str} : ∀ {binds : List (Str × Value)} {m : Str → Option Value}, (∀ v, (x, v) ∉ binds) → bindL kindOf binds m x = m x
  | [], _, _ => rfl
  | (n, v) :: r, m, h => by
    unfold bindL
    rw [bindL_out fun w hw => h w (List.mem_cons_of_mem _ hw)]
    split
    · have : x ≠ n := by rintro rfl; exact h v List.mem_cons_self
      simp [this]
    · rfl
theorem bindC_out {kindOf : Str → Option NameKind} {x : Str} : ∀ {binds : List (Str × Value)} {m : Str → Option Value}, (∀ v, (x, v) ∉ binds) → bindC kindOf binds m x = m x
  | [], _, _ => rfl
  | (n, v) :: r, m, h => by
    unfold bindC
    rw [bindC_out fun w hw => h w (List.mem_cons_of_mem _ hw)]
    split
    · rfl
    · have : x ≠ n := by rintro rfl; exact h v List.mem_cons_self
      simp [this]
theorem bindL_get {kindOf : Str → Option NameKind} {x : Str} {v : Value} : ∀ {P : List Str} {vs : List Value} {i : Nat} {m : Str → Option Value}, P.Nodup → P[i]? = some x → vs[i]? = some v → kindOf x = some .local →
    bindL kindOf (P.zip vs) m x = some v
  | [], _, _, _, _, h, _, _ => by simp at h
  | _ :: _, [], _, _, _, _, h, _ => by simp at h
  | p :: P, w :: vs, 0, m, nd, h1, h2, hk => by
    simp at h1 h2; subst h1; subst h2
    show bindL kindOf ((p, w) :: P.zip vs) m p = _
    unfold bindL
    rw [bindL_out fun v hv => (List.nodup_cons.mp nd).1 (List.of_mem_zip hv).1, if_pos hk]
    simp
  | p :: P, w :: vs, i + 1, m, nd, h1, h2, hk => by
    show bindL kindOf ((p, w) :: P.zip vs) m x = _
    unfold bindL
    exact bindL_get (i := i) (List.nodup_cons.mp nd).2 (by simpa using h1) (by simpa using h2) hk
theorem bindC_get {kindOf : Str → Option NameKind} {x : Str} {v : Value} : ∀ {P : List Str} {vs : List Value} {i : Nat} {m : Str → Option Value}, P.Nodup → P[i]? = some x → vs[i]? = some v → kindOf x ≠ some .local →
    bindC kindOf (P.zip vs) m x = some v
  | [], _, _, _, _, h, _, _ => by simp at h
  | _ :: _, [], _, _, _, _, h, _ => by simp at h
  | p :: P, w :: vs, 0, m, nd, h1, h2, hk => by
    simp at h1 h2; subst h1; subst h2
    show bindC kindOf ((p, w) :: P.zip vs) m p = _
    unfold bindC
    rw [bindC_out fun v hv => (List.nodup_cons.mp nd).1 (List.of_mem_zip hv).1, if_neg hk]
    simp
  | p :: P, w :: vs, i + 1, m, nd, h1, h2, hk => by
    show bindC kindOf ((p, w) :: P.zip vs) m x = _
    unfold bindC
    exact bindC_get (i := i) (List.nodup_cons.mp nd).2 (by simpa using h1) (by simpa using h2) hk

/-- the names' values at the entry -/
def start (N : List Str) (vs : List V) : St := vs.map some ++ List.replicate (N.length - vs.length) none

/-- the context of a def's body, at its entry; an exception leaves the frame, then lies as CX says -/
def cxOf (CX : CXT) (P : Program) (w : World) (K : PySem.W.Frag) (mg : Str → Option Value) (base : Heap) (N : List Str) (qual : Str) (scope : Scope) (f : Addr) (cd : Value) (A : Around) (outer : List Env) (s : Shared) (H : Hp) (E : XK) : Cx where
  prog := P
  w := w
  K := K
  mg := mg
  base := base
  A := A.deeper (envOfC qual scope s.heap.objs.size f cd)
  N := N
  s_0 := s
  H_0 := H
  env := envOfC qual scope s.heap.objs.size f cd
  outer := outer
  stack := envOfC qual scope s.heap.objs.size f cd :: outer
  ex := []
  calm := true
  fn := fun _ => true
  pn := []
  xe := fun e s' => wpAny (model P w) (A.deeper (envOfC qual scope s.heap.objs.size f cd)) (leaving (envOfC qual scope s.heap.objs.size f cd) e) (fun _ s'' => CX outer H s E e s'') (fun e' s'' => CX outer H s E e' s'') s'

theorem cell_has {sc : Scope} {n : Nat} {x : Str} (h : sc.names.lookup x = some .cell) : ∃ c, (cellsFrom n sc.names []).lookup x = some c := by
  have q := PySem.W.cellsFrom_some sc.names n [] (.inl h)
  exact Option.isSome_iff_exists.mp q

theorem inv_start {CX : CXT} {P : Program} {w : World} {K : PySem.W.Frag} {mg : Str → Option Value} {base : Heap} {N ps : List Str} {qual : Str} {scope : Scope} {f : Addr} {cd : Value} {A : Around} {outer : List Env} {s s1 : Shared} {H : Hp} {E : XK} {us : List Value} {vs : List V}
    (S : FnScope N ps scope) (hd : A.handled = none) (e0 : Env0 P w K mg base A outer s H) (hl : vs.length = ps.length) (r : Vals vs us)
    (x : InCallC s s.heap.objs.size (bindL (envOfC qual scope s.heap.objs.size f cd).kindOf (ps.zip us) fun _ => none) (cellsFrom (s.heap.objs.size + 1) scope.names []) (bindC (envOfC qual scope s.heap.objs.size f cd).kindOf (ps.zip us) fun _ => none) s1) :
    Inv (cxOf CX P w K mg base N qual scope f cd A outer s H E) [] (start N vs) H s1 := by
  have hpl : ps.length ≤ N.length := by have := congrArg List.length S.pre; rw [List.length_take] at this; omega
  obtain ⟨h1, tk, rfl, hk⟩ := x.done
  have noA : ∀ b : Addr, b ∉ (cxOf CX P w K mg base N qual scope f cd A outer s H E).ex := fun b z => absurd (show b ∈ ([] : List Addr) from z) (by simp)
  refine ⟨⟨e0.mod, S.kind, rfl, rfl, Nat.le_refl _, fun y z c h1 h2 => ?_, fun y hy => ?_, fun y c _ h => ?_, fun _ => hd, Around.frames_deeper e0.frames, .inr ⟨rfl, rfl⟩, fun b z => absurd z (noA b), e0.bs, e0.bsz, fun b _ _ => noA b, fun b z => absurd z (noA b), e0.funs, e0.frf⟩,
    rfl, e0.bare, Un.kept hk, ⟨_, x.toInCall.ns, fun i y v h1 h2 h3 => ?_⟩, fun y c h => ⟨_, x.cell y c h⟩, e0.hok.fresh (Nat.le_refl _), fun y c h => ?_, fun p hp => absurd (show p ∈ ([] : List (Addr × Obj)) from hp) (by simp), e0.hok.kept hk, ?_⟩
  · exact name_of_addr x.apart (PySem.mem_of_lookup h1) (PySem.mem_of_lookup h2)
  · have hy : scope.names.lookup y = some .cell ∨ scope.names.lookup y = some .free := hy
    rcases hy with hy | hy
    · exact cell_has hy
    · exact absurd rfl (S.nofree _ (PySem.mem_of_lookup hy))
  · exact Nat.le_of_lt (x.above y c (PySem.mem_of_lookup h))
  · have hi : i < vs.length := by
      unfold start at h2
      by_cases hi : i < vs.length
      · exact hi
      · rw [List.getElem?_append_right (by simpa using hi)] at h2
        rw [List.getElem?_replicate] at h2
        split at h2 <;> cases h2
    have ha : vs[i]? = some v := by
      unfold start at h2
      rw [List.getElem?_append_left (by simpa using hi), List.getElem?_map] at h2
      cases e : vs[i]? with
      | none => rw [e] at h2; cases h2
      | some a => rw [e] at h2; cases h2; rfl
    obtain ⟨u, hu, rv⟩ := r.get ha
    have hp : ps[i]? = some y := by
      rw [← S.pre, List.getElem?_take_of_lt (by omega)]; exact h1
    have ndP : ps.Nodup := by rw [← S.pre]; exact S.nd.sublist (List.take_sublist _ _)
    refine ⟨u, rv, ?_⟩
    rcases S.par y (List.mem_of_getElem? hp) with k | k
    · exact .inl ⟨k, bindL_get ndP hp hu k⟩
    · obtain ⟨c, e⟩ := cell_has (n := s.heap.objs.size + 1) k
      refine .inr ⟨.inl k, c, e, ?_⟩
      have q := x.cell y c e
      rw [bindC_get ndP hp hu (by show scope.names.lookup y ≠ _; rw [k]; decide)] at q
      exact q
  · exact e0.hok.fresh (Nat.le_of_lt (x.above y c (PySem.mem_of_lookup h)))
  · unfold start
    show _ = N.length
    rw [List.length_append, List.length_map, List.length_replicate]
    omega

/-- THE RULE: a def (or a method) of the text, by its body. The body's reading t is chosen for each entry; it is run at the parameters' values -/
theorem fn_of {CX : CXT} {P : Program} {w : World} {K : PySem.W.Frag} {mg : Str → Option Value} {base : Heap} {k : Nat} {f : Addr} {name qual : Str} {params : Arguments} {body : List Stmt} {scope : Scope} {dV kV doc pm cdv ct oc : Value} {an od : Option Addr}
    {osl : Array (Option Value)} {N ps : List Str} {sp : Sp} (lk : K.lookup f = some ⟨oc, od, .func (PySem.W.fnOf name qual params body scope dV kV doc pm an cdv ct), osl⟩) (hcd : PySem.W.codeIn K cdv qual = true) (S : FnScope N ps scope)
    (len : ∀ vs H Q E, sp vs H Q E → vs.length = ps.length)
    (hbody : ∀ (A : Around) (outer : List Env) (s : Shared) (H : Hp) (vs : List V) (Q : VK) (E : XK), Room k (A.deeper (envOfC qual scope s.heap.objs.size f cdv)) → sp vs H Q E →
      ∃ t, PSs (cxOf CX P w K mg base N qual scope f cdv A outer s H E) body t ∧ t { nx := fun _ H' => Q .non H', rt := Q } (start N vs) H) :
    FnOk P w K mg base CX (k + 1) f (PySem.W.fnOf name qual params body scope dV kV doc pm an cdv ct) ps sp := by
  refine ⟨len, fun A outer s H args us vs Q E hr e0 hb r hsp => ?_⟩
  have hl := len _ _ _ _ hsp
  have KX : K.In s.heap := e0.mod.kin.keeps fun b o e => (e0.bs b o e).1
  have lim : s.heap.NoLimit := e0.mod.nolimit.keeps fun b o e => (e0.bs b o e).1
  have hkind : ∀ y ∈ ps.zip us, scope.names.lookup y.1 = some .local ∨ (scope.names.lookup y.1 = some .cell ∧ ((cellsFrom (s.heap.objs.size + 1) scope.names []).lookup y.1).isSome = true) := fun ⟨n, v⟩ hy => by
    rcases S.par n (List.of_mem_zip hy).1 with q | q
    · exact .inl q
    · exact .inr ⟨q, PySem.W.cellsFrom_some _ _ _ (.inl q)⟩
  refine codeAny_call_function hr.depth (KX _ _ lk) rfl S.co S.gen rfl (PySem.W.codeRec_of KX hcd) (hb _ _ _ _ ?_)
  refine wpAny_newFunctionEnv_cells S.kind hkind fun env he s1 x => ?_
  subst he
  refine ⟨lim.keeps x.toInCall.keep, codeAny_func ?_⟩
  obtain ⟨t, ht, hq⟩ := hbody A outer s H vs Q E (hr.deeper _) hsp
  have I : Inv (cxOf CX P w K mg base N qual scope f cdv A outer s H E) [] (start N vs) H s1 := inv_start S hr.hd e0 hl r x
  refine wpAny_mono (ht [] s1 (start N vs) H _ I hq) (fun fl s' hs => ?_) fun e s' hs => hs
  have fin : ∀ {σ' : St} {H' : Hp} {v : V} {u : Value}, Inv (cxOf CX P w K mg base N qual scope f cdv A outer s H E) [] σ' H' s' → RelV v u → Q v H' → CE outer P w H s Q u s' :=
    fun {σ' H' v u} J rv q => ⟨v, H', J.os, J.bare, J.base, J.hok, rv, q⟩
  cases fl with
  | ret u =>
    obtain ⟨v, σ', H', J, rv, q⟩ := hs
    exact fin J rv q
  | next =>
    obtain ⟨σ', H', J, q⟩ := hs
    exact fin (v := V.non) (u := Value.none) J rfl q
  | brk =>
    obtain ⟨_, _, _, q⟩ := hs
    exact False.elim q
  | cont =>
    obtain ⟨_, _, _, q⟩ := hs
    exact False.elim q
end L2

namespace L2
open PySem PySem.Spec PyProof.Rows
section
variable {X : Cx} {x : Str} {p pos : Pos} {e : Expr} {es : List Expr} {t : TA} {id T : String} {r : List V → Hp → VK → Prop}

def tCB (r : List V → Hp → VK → Prop) (t : TA) : TE := fun σ H Q => t σ H fun vs H1 => r vs H1 Q
/-- f(e, ..), f a built-in function -/
theorem pe_callB (hc : CallR X (.builtin id) r) (hg : Gl X x) (hm : X.mg x = none) (hv : bootBuiltins x = some (.builtin id)) (ha : PA X (e :: es) t) (hn : x ≠ "__name__" := by decide) (hdb : (x == ("__debug__" : Str)) = false := by decide)
    (he : starEach (e :: es) X.env = (false, eval e X.env) :: starEach es X.env := by rfl) (hpl : (backTo pos (starEach es X.env)).any (·.1) = false := by rfl) : PE X (.Call (.Name x p) (e :: es) [] pos) (tCB r t) := by
  intro pins s σ H Q I h
  refine wpAny_Call_Name_kw (ld_blt I hg hm hv ?_ hn hdb)
  exact PyProof.Rows.callWith_builtin1 (thn (ha pos pins s σ H _ I h) fun us s1 ⟨vs, H1, I1, r1, q1⟩ => hc pins s1 σ H1 vs us Q I1 r1 q1) he hpl
/-- T(e, ..), T a built-in type -/
theorem pe_callTy (hc : CallR X (.type T) r) (hg : Gl X x) (hm : X.mg x = none) (hv : bootBuiltins x = some (.type T)) (ha : PA X (e :: es) t) (hn : x ≠ "__name__" := by decide) (hdb : (x == ("__debug__" : Str)) = false := by decide)
    (he : starEach (e :: es) X.env = (false, eval e X.env) :: starEach es X.env := by rfl) (hpl : (backTo pos (starEach es X.env)).any (·.1) = false := by rfl) : PE X (.Call (.Name x p) (e :: es) [] pos) (tCB r t) := by
  intro pins s σ H Q I h
  refine wpAny_Call_Name_kw (ld_blt I hg hm hv ?_ hn hdb)
  exact PyProof.Rows.callWith_type1 (thn (ha pos pins s σ H _ I h) fun us s1 ⟨vs, H1, I1, r1, q1⟩ => hc pins s1 σ H1 vs us Q I1 r1 q1) he hpl
end
end L2

namespace HT
open PySem PyProof.Rows

/-- t < u of tuples of ints -/
def lexLt : List Int → List Int → Bool
  | [], [] => false
  | [], _ :: _ => true
  | _ :: _, [] => false
  | x :: xs, y :: ys => if x = y then lexLt xs ys else decide (x < y)
theorem lexLt_cons (x y : Int) (xs ys : List Int) : lexLt (x :: xs) (y :: ys) = if x = y then lexLt xs ys else decide (x < y) := rfl
theorem lexLt_nil_nil : lexLt [] [] = false := rfl
theorem lexLt_nil_cons (y : Int) (ys : List Int) : lexLt [] (y :: ys) = true := rfl
theorem lexLt_cons_nil (x : Int) (xs : List Int) : lexLt (x :: xs) [] = false := rfl

section
open PySem.SeqAt
open PySem.AutoSeq1 (wpAny_loadPart')
open PySem.MeetsSeq PySem.MeetsSeq2 PySem.MeetsSeq3

end

section
variable {prog : Program} {w : World} {A : Around} {E : Value → Shared → Prop} {s : Shared}

/-! ### t[a:b], not the whole -/
/-- a slice's bound as a place among n (d where it is left out) -/
def sIx (n d : Nat) : Option Int → Nat
  | none => d
  | some v => if v < 0 then (v + (n : Int)).toNat else min v.toNat n
theorem sIx_none (n d : Nat) : sIx n d none = d := rfl
theorem sIx_nat (n d k : Nat) : sIx n d (some (k : Int)) = min k n := by
  show (if (k : Int) < 0 then ((k : Int) + (n : Int)).toNat else min (k : Int).toNat n) = min k n
  rw [if_neg (by omega), Int.toNat_natCast]
end
end HT

namespace L2
open PySem PySem.Spec PyProof.Rows

/-! ### the parts of a slice -/
abbrev TO := St → Hp → (Option Int → Hp → Prop) → Prop
/-- a slice's part (left out, or an int) -/
def PO (X : Cx) (e : Option Expr) (t : TO) : Prop :=
  ∀ (pins : List (Addr × Obj)) (s : Shared) (σ : St) (H : Hp) (Q : Option Int → Hp → Prop), Inv X pins σ H s → t σ H Q →
    wpAny (model X.prog X.w) X.A (evalPart e X.env) (fun u s' => ∃ o H', Inv X pins σ H' s' ∧ IsPart u o ∧ Q o H') X.xe s
def tNoPart : TO := fun _ H Q => Q none H
def tPart (t : TE) : TO := fun σ H Q => t σ H fun x H1 => ∃ i, x = .int i ∧ Q (some i) H1

section
variable {X : Cx} {e : Expr} {te : TE} {lo hi : Option Expr} {tl th : TO} {pos p2 : Pos}

theorem po_none : PO X none tNoPart := by
  intro pins s σ H Q I h
  rw [evalPart_none]
  exact wpAny_pure ⟨none, H, I, .none, h⟩
theorem po_some (h : PE X e te) : PO X (some e) (tPart te) := by
  intro pins s σ H Q I hw
  rw [evalPart_some]
  refine thn (h pins s σ H _ I hw) fun u s1 ⟨x, H1, I1, r1, q1⟩ => ?_
  obtain ⟨i, rfl, q⟩ := q1
  obtain ⟨t, rfl⟩ := r1
  exact ⟨some i, H1, I1, .int i t, q⟩

/-- what a slice of a value is, by values: the slice object stands at sl -/
def SlR (X : Cx) (r : V → Option Int → Option Int → Hp → VK → Prop) : Prop :=
  ∀ (pins : List (Addr × Obj)) (s : Shared) (σ : St) (H : Hp) (x : V) (v vl vu : Value) (lo hi : Option Int) (sl : Addr) (Q : VK), Inv X pins σ H s → RelV x v → s.heap.IsSliceOf sl vl vu .none → IsPart vl lo → IsPart vu hi → r x lo hi H Q →
    ∃ T id, typeLookup (.type T) "__getitem__" = pure (some (.builtin id)) ∧ s.TypeIs v T ∧ wpAny (model X.prog X.w) X.A (getItem v (.ref sl)) (EP X pins σ Q) X.xe s
def tSl (r : V → Option Int → Option Int → Hp → VK → Prop) (te : TE) (tl th : TO) : TE := fun σ H Q => te σ H fun x H1 => tl σ H1 fun l H2 => th σ H2 fun u H3 => r x l u H3 Q
/-- a[lo:hi], any a -/
theorem pe_slice {r : V → Option Int → Option Int → Hp → VK → Prop} (hr : SlR X r) (he : PE X e te) (hl : PO X lo tl) (hu : PO X hi th) : PE X (.Subscript e (.Slice lo hi none p2) pos) (tSl r te tl th) := by
  intro pins s σ H Q I h
  refine Subscript_ (thn (he pins s σ H _ I h) fun v s1 ⟨x, H1, I1, r1, q1⟩ => ?_)
  refine wpAny_Slice (thn (hl pins s1 σ H1 _ I1 q1) fun vl s2 ⟨l, H2, I2, pl, q2⟩ => thn (hu pins s2 σ H2 _ I2 q2) fun vu s3 ⟨u, H3, I3, pu, q3⟩ => ?_)
  rw [evalPart_none]
  refine wpAny_pure ?_
  have I4 : Inv X pins σ H3 { s3 with heap := s3.heap.push { cls := .type "slice", data := .fields #[vl, vu, .none] } } := I3.kept (t' := s3.toks) fun b ob q => Heap.get?_push_of_some _ q
  obtain ⟨T, id, hT, ht, hg⟩ := hr pins { s3 with heap := s3.heap.push { cls := .type "slice", data := .fields #[vl, vu, .none] } } σ H3 x v vl vu l u s3.heap.objs.size Q I4 r1 (Heap.IsSliceOf.new ..) pl pu q3
  show wpAny (model X.prog X.w) X.A (subscriptTail e (.Slice lo hi none p2) v (.ref s3.heap.objs.size)) (EP X pins σ Q) X.xe { s3 with heap := s3.heap.push { cls := .type "slice", data := .fields #[vl, vu, .none] } }
  exact tail_any (ops := [.ref s3.heap.objs.size, v]) ht hT hg (by with_unfolding_all rfl)

/-- the items of xs[lo:hi] -/
def cutV (xs : List V) (lo hi : Option Int) : List V := (xs.drop (HT.sIx xs.length 0 lo)).take (HT.sIx xs.length xs.length hi - HT.sIx xs.length 0 lo)
theorem cutV_length (xs : List V) (lo hi : Option Int) : (cutV xs lo hi).length ≤ xs.length := by
  unfold cutV
  rw [List.length_take, List.length_drop]
  omega
/-- t[lo:hi], not the whole of it (the whole would be t itself) -/
def rSlT (K : PySem.W.Frag) : V → Option Int → Option Int → Hp → VK → Prop := fun x lo hi H Q => ∃ a xs, x = .ref a ∧ SqT K H a xs ∧
  ¬ (HT.sIx xs.length 0 lo = 0 ∧ HT.sIx xs.length xs.length hi = xs.length) ∧ ∀ p, H p = none → Q (.ref p) (upd H p (.tup (cutV xs lo hi)))
/-! ### t < u, t + u -/
def rLtT (K : PySem.W.Frag) : R2 := fun x y H Q => ∃ a b ns ms, x = .ref a ∧ y = .ref b ∧ SqT K H a (ns.map V.int) ∧ SqT K H b (ms.map V.int) ∧ Q (.bl (HT.lexLt ns ms)) H
/-- t + u, t not empty: u empty gives t itself -/
def rCatT (K : PySem.W.Frag) : R2 := fun x y H Q => ∃ a b xs ys, x = .ref a ∧ y = .ref b ∧ SqT K H a xs ∧ SqT K H b ys ∧ xs ≠ [] ∧ xs.length + ys.length ≤ sizeLine ∧
  (ys = [] → Q (.ref a) H) ∧ (ys ≠ [] → ∀ p, H p = none → Q (.ref p) (upd H p (.tup (xs ++ ys))))
end
end L2

namespace L2
open PySem PySem.Spec PyProof.Rows

/-! ### places -/
/-- the place that an index of any sign means -/
def ixN (n : Nat) (i : Int) : Option Nat := if 0 ≤ i then (if i < n then some i.toNat else none) else if -(n : Int) ≤ i then some (i + n).toNat else none
def atI {α : Type} (xs : List α) (i : Int) : Option α := (ixN xs.length i).bind fun j => xs[j]?
theorem ixN_seq {n : Nat} {i : Int} {j : Nat} (h : ixN n i = some j) : seqIndex? i n = some j ∧ j < n ∧ -(n : Int) ≤ i ∧ i < n := by
  unfold ixN at h
  by_cases h0 : 0 ≤ i
  · rw [if_pos h0] at h
    by_cases h1 : i < n
    · rw [if_pos h1] at h
      have e : i.toNat = j := Option.some.inj h
      exact ⟨by rw [seqIndex_of h0 h1, e], by omega, by omega, h1⟩
    · rw [if_neg h1] at h; cases h
  · rw [if_neg h0] at h
    by_cases h1 : -(n : Int) ≤ i
    · rw [if_pos h1] at h
      have e : (i + n).toNat = j := Option.some.inj h
      exact ⟨by rw [seqIndex_neg (by omega) h1, e], by omega, h1, by omega⟩
    · rw [if_neg h1] at h; cases h
theorem atI_get {α : Type} {xs : List α} {i : Int} {v : α} (h : atI xs i = some v) : ∃ j, seqIndex? i xs.length = some j ∧ xs[j]? = some v ∧ j < xs.length ∧ -(xs.length : Int) ≤ i ∧ i < xs.length := by
  unfold atI at h
  cases e : ixN xs.length i with
  | none => rw [e] at h; cases h
  | some j =>
    rw [e] at h
    obtain ⟨h1, h2, h3, h4⟩ := ixN_seq e
    exact ⟨j, h1, h, h2, h3, h4⟩
/-! ### what may be subscripted -/
/-- what stands as an index of a plain subscript -/
def PlainIx (b : Expr) : Prop := ∀ o i, subscripted b false o i = operate [o, i] (getItem o i)
/-- a subscript by values -/
def IxR (X : Cx) (r : R2) : Prop :=
  ∀ (value slice : Expr) (pins : List (Addr × Obj)) (s : Shared) (σ : St) (H : Hp) (x y : V) (v u : Value) (Q : VK), Inv X pins σ H s → RelV x v → RelV y u → r x y H Q →
    subscripted slice false v u = operate [v, u] (getItem v u) → wpAny (model X.prog X.w) X.A (subscriptTail value slice v u) (EP X pins σ Q) X.xe s
/-- a call of a builtin's method by values: the receiver, the arguments -/
def MtR (X : Cx) (id : String) (r : V → List V → Hp → VK → Prop) : Prop :=
  ∀ (pins : List (Addr × Obj)) (s : Shared) (σ : St) (H : Hp) (x : V) (xs : List V) (v : Value) (us : List Value) (Q : VK), Inv X pins σ H s → RelV x v → Vals xs us → r x xs H Q →
    wpAny (model X.prog X.w) X.A (call (.builtin id) (v :: us)) (EP X pins σ Q) X.xe s
section
variable {X : Cx} {a b : Expr} {ta tb : TE} {pos : Pos}
theorem IxR.or {r r' : R2} (h : IxR X r) (h' : IxR X r') : IxR X (fun x y H Q => r x y H Q ∨ r' x y H Q) := by
  intro value slice pins s σ H x y v u Q I rx ry q hs
  rcases q with q | q
  · exact h value slice pins s σ H x y v u Q I rx ry q hs
  · exact h' value slice pins s σ H x y v u Q I rx ry q hs
/-- a[b] -/
theorem pe_ix {r : R2} (hr : IxR X r) (ha : PE X a ta) (hb : PE X b tb) (hs : PlainIx b) : PE X (.Subscript a b pos) (tOp r ta tb) := by
  intro pins s σ H Q I h
  exact Subscript_ (binT ha hb I h fun v u s2 x y H2 I2 rx ry q => hr a b pins s2 σ H2 x y v u Q I2 rx ry q (hs _ _))

def rIxL (K : PySem.W.Frag) : R2 := fun x y H Q => ∃ p xs i v, x = .ref p ∧ y = .int i ∧ SqL K H p xs ∧ atI xs i = some v ∧ Q v H
def rIxT (K : PySem.W.Frag) : R2 := fun x y H Q => ∃ p xs i v, x = .ref p ∧ y = .int i ∧ SqT K H p xs ∧ atI xs i = some v ∧ Q v H
def rIxS : R2 := fun x y H Q => ∃ z i c, x = .str z ∧ y = .int i ∧ z.length ≤ sizeLine ∧ atI z.cps.toList i = some c ∧ Q (.str ⟨#[c]⟩) H
theorem ix_list : IxR X (rIxL X.K) := by
  intro value slice pins s σ H x y v u Q I rx ry h hs
  obtain ⟨p, xs, i, z, rfl, rfl, hq, he, q⟩ := h
  cases rx
  obtain ⟨t, rfl⟩ := ry
  obtain ⟨its, r, pl, hz⟩ := I.list hq
  obtain ⟨j, h1, h2, h3, h4, h5⟩ := atI_get he
  obtain ⟨w, ew, rw'⟩ := r.get h2
  have hl := r.length
  have hn := line63
  have fin : EP X pins σ Q w s := ⟨z, H, I, rw', q⟩
  by_cases h0 : 0 ≤ i
  · have hj : i.toNat = j := by
      rw [seqIndex_of h0 h5] at h1
      exact Option.some.inj h1
    exact item_listR pl.isList h0 (by omega) (by rw [hj]; simpa using ew) fin hs
  · have hj : (i + (its.toArray.size : Int)).toNat = j := by
      rw [seqIndex_neg (by omega) h4] at h1
      rw [List.size_toArray, ← hl]
      exact Option.some.inj h1
    exact subscriptTail_builtinR (x := w) pl.isList.typeIs slot_list_getitem.lookup
      (wpAny_getItem_list_neg (Q := fun r s' => r = w ∧ EP X pins σ Q r s') pl.isList (by omega) (by rw [List.size_toArray] <;> omega) (by omega) (by rw [hj]; simpa using ew) ⟨rfl, fin⟩) hs
theorem ix_tup : IxR X (rIxT X.K) := by
  intro value slice pins s σ H x y v u Q I rx ry h hs
  obtain ⟨p, xs, i, z, rfl, rfl, hq, he, q⟩ := h
  cases rx
  obtain ⟨t, rfl⟩ := ry
  obtain ⟨its, r, pl, hz⟩ := I.tuple hq
  obtain ⟨j, h1, h2, h3, h4, h5⟩ := atI_get he
  obtain ⟨w, ew, rw'⟩ := r.get h2
  have hl := r.length
  have hn := line63
  have fin : EP X pins σ Q w s := ⟨z, H, I, rw', q⟩
  exact subscriptTail_builtinR (x := w) pl.typeIs slot_tuple_getitem.lookup
    (getItem_tuple (j := j) (Q := fun r s' => r = w ∧ EP X pins σ Q r s') pl (by omega) (by omega) (by rw [List.size_toArray, ← hl]; exact h1) (by simpa using ew) ⟨rfl, fin⟩) hs
/-- list, tuple or str -/
def rIx (K : PySem.W.Frag) : R2 := fun x y H Q => rIxL K x y H Q ∨ rIxT K x y H Q ∨ rIxS x y H Q
/-! ### xs[i] = v, any sign -/
theorem Inv.lst {pins : List (Addr × Obj)} {σ : St} {H : Hp} {s : Shared} {p : Addr} {xs : List V} (I : Inv X pins σ H s) (h : H p = some (.lst xs)) :
    ∃ (its : List Value) (n : Nat), Vals xs its ∧ s.heap.get? p = some { cls := .type "list", data := .seq its.toArray n } ∧ xs.length ≤ sizeLine := by
  obtain ⟨z, its, n, r, e⟩ := I.hok p _ h
  exact ⟨its, n, r, e, z⟩
def rSetL : V → V → V → Hp → (Hp → Prop) → Prop := fun o i v H Q => ∃ p xs k j, o = .ref p ∧ i = .int k ∧ H p = some (.lst xs) ∧ ixN xs.length k = some j ∧ Q (upd H p (.lst (xs.set j v)))
/-! ### slices -/
theorem slice_bounds (lo hi : Option Int) (n : Nat) : (sliceBounds lo hi none n).1 = ((HT.sIx n 0 lo : Nat) : Int) ∧ (sliceBounds lo hi none n).2.1 = ((HT.sIx n n hi : Nat) : Int) ∧ (sliceBounds lo hi none n).2.2 = 1 := by
  refine ⟨?_, ?_, rfl⟩
  · cases lo with
    | none => simp [sliceBounds, HT.sIx]
    | some i =>
      simp only [sliceBounds, HT.sIx, Option.getD_none, show (1 : Int) > 0 by decide, if_true]
      by_cases h : i < 0
      · simp only [h, if_true] <;> omega
      · simp only [h, if_false] <;> omega
  · cases hi with
    | none => simp [sliceBounds, HT.sIx]
    | some i =>
      simp only [sliceBounds, HT.sIx, Option.getD_none, show (1 : Int) > 0 by decide, if_true]
      by_cases h : i < 0
      · simp only [h, if_true] <;> omega
      · simp only [h, if_false] <;> omega
theorem slicePick_cut (its : List Value) (lo hi : Option Int) : slicePick its.toArray lo hi none = ((its.drop (HT.sIx its.length 0 lo)).take (HT.sIx its.length its.length hi - HT.sIx its.length 0 lo)).toArray := by
  obtain ⟨h1, h2, h3⟩ := slice_bounds lo hi its.toArray.size
  unfold slicePick
  rw [h1, h2, h3]
  simp only [sliceRange_one, pick_run, List.size_toArray] <;> rfl
/-- xs[lo:hi] of a list: a new list -/
def rSlL (K : PySem.W.Frag) : V → Option Int → Option Int → Hp → VK → Prop := fun x lo hi H Q => ∃ a xs, x = .ref a ∧ SqL K H a xs ∧ ∀ p, H p = none → Q (.ref p) (upd H p (.lst (cutV xs lo hi)))
theorem sl_list : SlR X (rSlL X.K) := by
  intro pins s σ H x v vl vu lo hi sl Q I rx hs pl pu h
  obtain ⟨a, xs, rfl, hx, q⟩ := h
  cases rx
  obtain ⟨its, r, ht, hz⟩ := I.list hx
  have hlen := r.length
  refine ⟨"list", _, slot_list_getitem.lookup, ht.isList.typeIs, ?_⟩
  refine wpAny_getItem_list_slice ht.isList hs pl pu .none (by simp) ?_ (by rw [List.size_toArray] <;> omega)
  rw [slicePick_cut, ← hlen]
  refine ⟨.ref s.heap.objs.size, _, I.laid (t' := s.toks) (o := .lst (cutV xs lo hi)) (fun b ob q => Heap.get?_push_of_some _ q) (Nat.le_refl _) ?_, rfl, q _ (I.hok.fresh (Nat.le_refl _))⟩
  exact ⟨Nat.le_trans (cutV_length xs lo hi) hz, _, 0, (r.drop (HT.sIx xs.length 0 lo)).take (HT.sIx xs.length xs.length hi - HT.sIx xs.length 0 lo), Heap.get?_push_size _ rfl⟩

/-! ### in, not in: flat items -/
def flatV : V → Bool
  | .non => true
  | .bl _ => true
  | .int _ => true
  | .str _ => true
  | _ => false
/-- == of flat values -/
def eqV : V → V → Bool
  | .non, .non => true
  | .bl a, .bl b => a == b
  | .bl a, .int b => (if a then 1 else 0) == b
  | .int a, .bl b => a == (if b then 1 else 0)
  | .int a, .int b => a == b
  | .str a, .str b => a == b
  | _, _ => false
/-- the items' answers, read off the values (a value's own answer does not lean on its token) -/
def eqU (x : V) (u : Value) : Bool := match u with
  | .none => eqV .non x
  | .bool b => eqV (.bl b) x
  | .int i _ => eqV (.int i) x
  | .str z _ => eqV (.str z) x
  | _ => false
def inV (x : V) (xs : List V) : Bool := xs.any fun y => eqV y x
/-- x in a list or tuple of flat items -/
def rIn (K : PySem.W.Frag) (neg : Bool) : R2 := fun x y H Q => ∃ p xs, y = .ref p ∧ (SqL K H p xs ∨ SqT K H p xs) ∧ flatV x = true ∧ xs.all flatV = true ∧ Q (.bl (if neg then !inV x xs else inV x xs)) H
/-! ### len, list(x), tuple(x) of any list or tuple that is read -/
theorem call_len_seq : CallR X (.builtin "len") (fun xs H Q => ∃ p ys, xs = [.ref p] ∧ (SqL X.K H p ys ∨ SqT X.K H p ys) ∧ Q (.int ys.length) H) := by
  intro pins s σ H xs us Q I r h
  obtain ⟨p, ys, rfl, hq, q⟩ := h
  obtain ⟨u, rfl, rx⟩ := vals1 r
  cases rx
  have hn := line63
  rcases hq with hq | hq
  · obtain ⟨its, r', pl, hz⟩ := I.list hq
    have hlen := r'.length
    exact Calls.call_len_list pl.isList (by simp only [List.size_toArray] <;> omega) ⟨.int ys.length, H, I.tok _, ⟨s.toks + 1, by rw [List.size_toArray, hlen]⟩, q⟩
  · obtain ⟨its, r', pl, hz⟩ := I.tuple hq
    have hlen := r'.length
    exact len_tuple pl (by simp only [List.size_toArray] <;> omega) ⟨.int ys.length, H, I.tok _, ⟨s.toks + 1, by rw [List.size_toArray, hlen]⟩, q⟩
theorem call_tuple_of : CallR X (.type "tuple") (fun xs H Q => ∃ p ys, xs = [.ref p] ∧ ((SqL X.K H p ys ∧ ∀ l, H l = none → Q (.ref l) (upd H l (.tup ys))) ∨ (SqT X.K H p ys ∧ Q (.ref p) H))) := by
  intro pins s σ H xs us Q I r h
  obtain ⟨p, ys, rfl, h⟩ := h
  obtain ⟨u, rfl, rx⟩ := vals1 r
  cases rx
  rcases h with ⟨hq, q⟩ | ⟨hq, q⟩
  · obtain ⟨its, r', pl, hz⟩ := I.list hq
    have hlen := r'.length
    refine call_tuple_list pl.isList (fun h' kp => ?_) (by simp only [List.size_toArray] <;> omega)
    have I1 : Inv X pins σ H { s with heap := h' } := I.kept (t' := s.toks) kp
    have I2 : Inv X pins σ (upd H h'.objs.size (.tup ys)) { s with heap := h'.push { cls := .type "tuple", data := .seq its.toArray } } :=
      I1.laid (t' := s.toks) (fun b o e => Heap.get?_push_of_some _ e) (Nat.le_refl _) (show ObjOk X.prog X.w _ _ _ (.tup ys) from ⟨hz, its, r', IsTup.new _ _⟩)
    exact ⟨.ref h'.objs.size, _, I2, rfl, q _ (I1.hok.fresh (Nat.le_refl _))⟩
  · obtain ⟨its, r', pl, hz⟩ := I.tuple hq
    exact call_tuple_same pl ⟨.ref p, H, I, rfl, q⟩

/-! ### the call of a builtin's method: o.m(..) -/
/-- the value is of that builtin type -/
def tyV (K : PySem.W.Frag) (T : String) (x : V) (H : Hp) : Prop := match x with
  | .str _ => T = "str"
  | .int _ => T = "int"
  | .ref p => (T = "list" ∧ ∃ xs, SqL K H p xs) ∨ (T = "tuple" ∧ ∃ o, K.lookup p = some o ∧ o.cls = .type "tuple" ∧ o.dict = none) ∨
      (T = "dict" ∧ ((∃ kvs, H p = some (.dK kvs)) ∨ ∃ kvs, H p = some (.dT kvs))) ∨ (T = "set" ∧ ∃ S n, H p = some (.set S n))
  | _ => False
theorem tyV_is {pins : List (Addr × Obj)} {σ : St} {H : Hp} {s : Shared} {T : String} {x : V} {v : Value} (I : Inv X pins σ H s) (r : RelV x v) (ty : tyV X.K T x H) :
    s.TypeIs v T ∧ ∀ a, v = .ref a → ∃ ob, s.heap.get? a = some ob ∧ ob.dict = none := by
  cases x with
  | str z =>
    obtain ⟨t, rfl⟩ := r
    cases (show T = "str" from ty)
    exact ⟨typeIs_str s z t, fun _ e => nomatch e⟩
  | int i =>
    obtain ⟨t, rfl⟩ := r
    cases (show T = "int" from ty)
    exact ⟨typeIs_int s i t, fun _ e => nomatch e⟩
  | ref p =>
    cases r
    rcases ty with ⟨rfl, xs, hq⟩ | ⟨rfl, o, hk, hc, hd⟩ | ⟨rfl, hk⟩ | ⟨rfl, S, n, hk⟩
    · obtain ⟨its, _, pl, _⟩ := I.list hq
      refine ⟨pl.isList.typeIs, fun a e => ?_⟩
      cases e
      obtain ⟨o, n, e, c, hd, _⟩ := pl
      exact ⟨o, e, hd⟩
    · refine ⟨⟨o, I.kIn p o hk, hc⟩, fun a e => ?_⟩
      cases e
      exact ⟨o, I.kIn _ o hk, hd⟩
    · have z : ∃ o, s.heap.get? p = some o ∧ o.ExactDict := by
        rcases hk with ⟨kvs, hk⟩ | ⟨kvs, hk⟩
        · obtain ⟨_, _, _, _, o, _, _, e, ex, _⟩ := I.hok p _ hk
          exact ⟨o, e, ex⟩
        · obtain ⟨_, _, _, _, o, _, _, e, ex, _⟩ := I.hok p _ hk
          exact ⟨o, e, ex⟩
      obtain ⟨o, e, ex⟩ := z
      refine ⟨⟨o, e, ex.1⟩, fun a e2 => ?_⟩
      cases e2
      exact ⟨o, e, ex.2.1⟩
    · obtain ⟨o, _, _, _, e, ex, _⟩ := I.hok p _ hk
      refine ⟨⟨o, e, ex.1⟩, fun a e2 => ?_⟩
      cases e2
      exact ⟨o, e, ex.2.1⟩
  | _ => exact False.elim ty
def tBM0 (K : PySem.W.Frag) (T : String) (r : V → List V → Hp → VK → Prop) (to : TE) : TE := fun σ H Q => to σ H fun x H1 => tyV K T x H1 ∧ r x [] H1 Q
def tBM (K : PySem.W.Frag) (T : String) (r : V → List V → Hp → VK → Prop) (to : TE) (t : TA) : TE := fun σ H Q => to σ H fun x H1 => tyV K T x H1 ∧ t σ H1 fun xs H2 => r x xs H2 Q
variable {o e : Expr} {es : List Expr} {to : TE} {t : TA} {name : Str} {apos cpos : Pos} {T id : String} {r : V → List V → Hp → VK → Prop}
theorem pe_bm (pa : PlainAttrs T) (slot : Slot T name id) (hty : typeOf (.builtin id) = pure (.type "method_descriptor")) (hm : MtR X id r) (ho : PE X o to) (ha : PA X (e :: es) t)
    (hbase : attributeBase o name X.env (eval o X.env) = eval o X.env := by rfl)
    (hfew : ((backTo cpos (starEach (e :: es) X.env)).all (fun x => !x.1) && (backToKw cpos (keywordEach [] X.env)).all (fun x => x.1.isSome)
      && decide ((e :: es).length + ([] : List Keyword).length + (if ([] : List Keyword).isEmpty then 0 else 1) < 30)) = true := by rfl)
    (hline : (apos.endLine == cpos.line) = true := by rfl) (hs : starEach (e :: es) X.env = (false, eval e X.env) :: starEach es X.env := by rfl) (hplain : (backTo cpos (starEach es X.env)).any (·.1) = false := by rfl) :
    PE X (.Call (.Attribute o name apos) (e :: es) [] cpos) (tBM X.K T r to t) := by
  intro pins s σ H Q I h
  refine wpAny_Call_method_late hbase hfew hline rfl (thn (ho pins s σ H _ I h) fun v s1 ⟨x, H1, I1, r1, ty, q1⟩ => ?_)
  obtain ⟨h1, h2⟩ := tyV_is I1 r1 ty
  refine ⟨T, id, pa, slot, hty, h1, h2, ?_⟩
  have hA := ha cpos pins s1 σ H1 _ I1 q1
  rw [hs] at hA ⊢
  refine Calls.callWith_builtin (by show (false || (backTo cpos (starEach es X.env)).any (·.1)) = false; rw [hplain] <;> rfl) (Calls.evalArgs_plain ?_)
  exact thn hA fun us s2 ⟨vs, H2, I2, r2, q2⟩ => hm pins s2 σ H2 x vs v us Q I2 r1 r2 q2
/- xs.append(e), list.index on a module's tuple .. are MtR facts of 06m -/
end
end L2

namespace L2
open PySem PySem.Spec PyProof.Rows

def MtM (X : Cx) (id : String) (r : V → List V → Hp → VK → Prop) : Prop :=
  ∀ (pins : List (Addr × Obj)) (s : Shared) (σ : St) (H : Hp) (x : V) (xs : List V) (v : Value) (us : List Value) (Q : VK), Inv X pins σ H s → RelV x v → Vals xs us → r x xs H Q →
    wpAny (model X.prog X.w) X.A (call (.builtin id) (v :: us)) (EP X pins σ Q) X.xe s

/-! ### lists of values -/
theorem Vals.one : ∀ {x : V} {us : List Value}, Vals [x] us → ∃ u, us = [u] ∧ RelV x u
  | _, _, .cons r .nil => ⟨_, rfl, r⟩
theorem Vals.two : ∀ {x y : V} {us : List Value}, Vals [x, y] us → ∃ u v, us = [u, v] ∧ RelV x u ∧ RelV y v
  | _, _, _, .cons r (.cons q .nil) => ⟨_, _, rfl, r, q⟩
theorem Vals.zero : ∀ {us : List Value}, Vals [] us → us = []
  | _, .nil => rfl
theorem Vals.dropLast {xs : List V} {us : List Value} (h : Vals xs us) : Vals xs.dropLast us.dropLast := by
  induction h with
  | nil => exact .nil
  | cons r t ih =>
    cases t with
    | nil => exact .nil
    | cons q t' => exact .cons r ih
theorem Vals.eraseIdx : ∀ {xs : List V} {us : List Value} (i : Nat), Vals xs us → Vals (xs.eraseIdx i) (us.eraseIdx i)
  | _, _, _, .nil => .nil
  | _, _, 0, .cons _ t => t
  | _, _, i + 1, .cons r t => .cons r (Vals.eraseIdx i t)
theorem Vals.reverse {xs : List V} {us : List Value} (h : Vals xs us) : Vals xs.reverse us.reverse := by
  induction h with
  | nil => exact .nil
  | cons r t ih => rw [List.reverse_cons, List.reverse_cons]; exact Vals.append ih (.cons r .nil)
theorem Vals.rep {xs : List V} {us : List Value} (h : Vals xs us) : ∀ k : Nat, Vals (List.replicate k xs).flatten (List.replicate k us).flatten
  | 0 => .nil
  | k + 1 => by
    rw [List.replicate_succ, List.replicate_succ, List.flatten_cons, List.flatten_cons]
    exact Vals.append h (Vals.rep h k)
theorem foldl_rep (its : List Value) : ∀ (k : Nat) (acc : List Value),
    List.foldl (fun x1 x2 => x1 ++ x2) acc.toArray (List.replicate k its.toArray) = (acc ++ (List.replicate k its).flatten).toArray
  | 0, acc => by simp
  | k + 1, acc => by
    have e : acc.toArray ++ its.toArray = (acc ++ its).toArray := by simp
    have e2 : (acc ++ its) ++ (List.replicate k its).flatten = acc ++ (List.replicate (k + 1) its).flatten := by
      rw [List.replicate_succ, List.flatten_cons, List.append_assoc]
    rw [← e2, ← foldl_rep its k (acc ++ its), ← e, List.replicate_succ, List.foldl_cons]

section
variable {X : Cx} {pins : List (Addr × Obj)} {σ : St} {H : Hp} {s : Shared} {l b : Addr} {xs ys zs : List V}

/-! ### the two steps: a tracked list is rewritten, a new list is laid -/
theorem Inv.lset {its its' : List Value} {n : Nat} {f : Array Value → Array Value} {t' : Nat} (I : Inv X pins σ H s) (hH : H l = some (.lst xs))
    (e : s.heap.get? l = some { cls := .type "list", data := .seq its.toArray n }) (hf : f its.toArray = its'.toArray) (hv : Vals ys its') (hz : ys.length ≤ sizeLine) :
    Inv X pins σ (upd H l (.lst ys)) { s with heap := s.heap.update l (Obj.mapSeq f), toks := t' } := by
  have q := PySem.IsL.update e f
  rw [hf] at q
  refine I.write (x := l) (e := l) (by rw [hH]; exact trivial) (.inl rfl) (fun b' u hb hu => (Heap.get?_update_other s.heap (Obj.mapSeq f) (Ne.symm hb)).trans hu) ⟨_, q⟩ ?_
  exact ⟨hz, its', _, hv, q⟩
theorem Inv.lnew {its : List Value} {t' : Nat} (I : Inv X pins σ H s) (hv : Vals ys its) (hz : ys.length ≤ sizeLine) :
    Inv X pins σ (upd H s.heap.objs.size (.lst ys)) { s with heap := s.heap.push { cls := .type "list", data := .seq its.toArray }, toks := t' } :=
  I.laid (fun _ _ q => Heap.get?_push_of_some _ q) (Nat.le_refl _) ⟨hz, its, 0, hv, Heap.get?_push_size _ rfl⟩
theorem Inv.fresh (I : Inv X pins σ H s) : H s.heap.objs.size = none := I.hok.fresh (Nat.le_refl _)
theorem Inv.lstM (I : Inv X pins σ H s) (hH : H l = some (.lst xs)) : xs.length ≤ sizeLine ∧ ∃ (its : List Value) (n : Nat), Vals xs its ∧ xs.length = its.length ∧ s.heap.get? l = some { cls := .type "list", data := .seq its.toArray n } := by
  obtain ⟨z, its, n, r, e⟩ := I.hok l _ hH
  exact ⟨z, its, n, r, r.length, e⟩

theorem notLongL {n : Nat} (h : n ≤ sizeLine) : Builtin.List.listTooLong n = false := by
  unfold Builtin.List.listTooLong
  exact decide_eq_false (by omega)
end

section
variable {X : Cx}

/-! ### methods -/
def rAppend : V → List V → Hp → VK → Prop := fun x vs H Q => ∃ l xs y, x = .ref l ∧ vs = [y] ∧ H l = some (.lst xs) ∧ xs.length < sizeLine ∧ Q .non (upd H l (.lst (xs ++ [y])))
theorem mt_append : MtM X "list.append" rAppend := by
  intro pins s σ H x vs v us Q I rx rv h
  obtain ⟨l, xs, y, rfl, rfl, hH, hz, q⟩ := h
  cases rx
  obtain ⟨u, rfl, ru⟩ := rv.one
  obtain ⟨z, its, n, r, hl, e⟩ := I.lstM hH
  refine call_meets F.slot_list_append ⟨_, e, rfl⟩ F.entry_list_append (F.args_list_append_2 _ _) (PySem.list_append l its.toArray n u (by rw [List.size_toArray]; omega)) ⟨e, ?_⟩
  refine ⟨.non, _, I.lset (its' := its ++ [u]) hH e (by simp) (r.append (.cons ru .nil)) ?_, rfl, q⟩
  rw [List.length_append, List.length_singleton]
  omega

def rExtend : V → List V → Hp → VK → Prop := fun x vs H Q => ∃ l b xs zs, x = .ref l ∧ vs = [.ref b] ∧ H l = some (.lst xs) ∧ H b = some (.lst zs) ∧ xs.length + zs.length ≤ sizeLine ∧ Q .non (upd H l (.lst (xs ++ zs)))
def rPop : V → List V → Hp → VK → Prop := fun x vs H Q => ∃ l xs y, x = .ref l ∧ vs = [] ∧ H l = some (.lst xs) ∧ xs[xs.length - 1]? = some y ∧ Q y (upd H l (.lst xs.dropLast))
def rPopAt : V → List V → Hp → VK → Prop := fun x vs H Q => ∃ l xs i k y, x = .ref l ∧ vs = [.int i] ∧ H l = some (.lst xs) ∧ -(2 ^ 63) ≤ i ∧ i < 2 ^ 63 ∧ seqIndex? i xs.length = some k ∧ xs[k]? = some y ∧ Q y (upd H l (.lst (xs.eraseIdx k)))
def rReverse : V → List V → Hp → VK → Prop := fun x vs H Q => ∃ l xs, x = .ref l ∧ vs = [] ∧ H l = some (.lst xs) ∧ Q .non (upd H l (.lst xs.reverse))
def rClear : V → List V → Hp → VK → Prop := fun x vs H Q => ∃ l xs, x = .ref l ∧ vs = [] ∧ H l = some (.lst xs) ∧ Q .non (upd H l (.lst []))
/-! ### list + list, list += list, list * int -/
def rCat : R2 := fun x y H Q => ∃ l b xs zs, x = .ref l ∧ y = .ref b ∧ H l = some (.lst xs) ∧ H b = some (.lst zs) ∧ xs.length + zs.length ≤ sizeLine ∧ ∀ p, H p = none → Q (.ref p) (upd H p (.lst (xs ++ zs)))
/-- a list times an int (a negative one is nothing) -/
def rRep : R2 := fun x y H Q => ∃ l k xs, x = .ref l ∧ y = .int k ∧ H l = some (.lst xs) ∧ -(2 ^ 63) ≤ k ∧ k < 2 ^ 63 ∧ xs.length * k.toNat ≤ sizeLine ∧
  ∀ p, H p = none → Q (.ref p) (upd H p (.lst (List.replicate k.toNat xs).flatten))
theorem len_rep {α : Type} (xs : List α) (k : Nat) : (List.replicate k xs).flatten.length = k * xs.length := by
  induction k with
  | zero => simp
  | succ k ih => rw [List.replicate_succ, List.flatten_cons, List.length_append, ih, Nat.succ_mul, Nat.add_comm]
theorem op_rep : OpR X (binaryOp .Mult) rRep := by
  intro pins s σ H x y v u Q I rx ry h
  obtain ⟨l, k, xs, rfl, rfl, hH, h1, h2, hz, q⟩ := h
  cases rx
  obtain ⟨t, rfl⟩ := ry
  obtain ⟨z, its, n, r, hl, e⟩ := I.lstM hH
  have hlen : its.toArray.size * k.toNat ≤ sizeLine := by rw [List.size_toArray, ← hl]; exact hz
  have hcap : ¬ its.toArray.size * k.toNat > (2 ^ 63 - 1) / 8 := by
    have : (sizeLine : Nat) ≤ (2 ^ 63 - 1) / 8 := by decide
    omega
  have hfit : ¬ (!Builtin.List.listFitsIndex k) = true := by
    rw [fitsIndex_both h1 h2]
    exact Bool.false_ne_true
  have hlong : ¬ Builtin.List.listTooLong (its.toArray.size * k.toNat) = true := by
    rw [notLongL hlen]
    exact Bool.false_ne_true
  have hnew : List.foldl (fun x1 x2 => x1 ++ x2) #[] (List.replicate (if its.toArray.isEmpty = true then 0 else k.toNat) its.toArray) = (List.replicate k.toNat its).flatten.toArray := by
    have f0 : ∀ m : Nat, List.foldl (fun x1 x2 => x1 ++ x2) #[] (List.replicate m its.toArray) = (List.replicate m its).flatten.toArray := fun m => by
      have := foldl_rep its m []
      rw [List.nil_append] at this
      exact this
    rw [f0]
    cases its with
    | nil => simp
    | cons a r' => rw [if_neg (by simp)]
  refine wpAny_binaryOp_repeat_ref (T := "list") (U := "int") (by decide) ⟨_, e, rfl⟩ (fun s' => typeIs_int s' k t) noFill_list_mul F.fills_int_mul F.slot_int_rmul repeat_list F.slot_int_index.lookup
    (call_meets F.slot_int_rmul (typeIs_int s k t) F.entry_int_rmul (F.args_int_rmul_2 _ _) (int___rmul___int_list k t l its.toArray n)
      ⟨e, rfl, ⟨_, e, rfl⟩, call_meets F.slot_list_mul ⟨_, e, rfl⟩ F.entry_list_mul (F.args_list_mul_2 _ _) (AutoListH.list___mul___list_int_3 l its.toArray n k t hfit hcap hlong) ⟨e, ?_⟩⟩)
  rw [hnew]
  exact ⟨.ref _, _, I.lnew (t' := s.toks) (r.rep k.toNat) (by rw [len_rep, Nat.mul_comm]; exact hz), rfl, q _ I.fresh⟩

/-! ### del xs[i] -/
end

/-! ### xs[a:b] = ys -/
section
variable {prog : Program} {w : World} {A : Around} {E : Value → Shared → Prop} {s : Shared}
end

section
variable {X : Cx}
end
end L2

namespace L2
open PySem PySem.Spec PyProof.Rows

theorem Vals.ints : ∀ {ns : List Int} {us : List Value}, Vals (ns.map V.int) us → IntsAre us ns
  | [], us, h => by
    rw [List.map_nil] at h
    cases h
    exact IntsAre.nil
  | n :: ns, us, h => by
    rw [List.map_cons] at h
    cases h with
    | cons r t =>
      obtain ⟨k, rfl⟩ := r
      exact IntsAre.cons n k (Vals.ints t)
theorem vals_of_ints : ∀ {us : List Value} {ns : List Int}, IntsAre us ns → Vals (ns.map V.int) us
  | _, _, .nil => by rw [List.map_nil]; exact Paired.nil
  | _, _, .cons n t h => by rw [List.map_cons]; exact Paired.cons (show RelV (V.int n) (Value.int n t) from ⟨t, rfl⟩) (vals_of_ints h)
theorem Vals.strs : ∀ {xs : List Str} {us : List Value}, Vals (xs.map V.str) us → StrsAre us xs
  | [], us, h => by
    rw [List.map_nil] at h
    cases h
    exact StrsAre.nil
  | x :: xs, us, h => by
    rw [List.map_cons] at h
    cases h with
    | cons r t =>
      obtain ⟨k, rfl⟩ := r
      exact StrsAre.cons x k (Vals.strs t)
theorem Vals.bls : ∀ {bs : List Bool} {us : List Value}, Vals (bs.map V.bl) us → us = bs.map Value.bool
  | [], us, h => by
    rw [List.map_nil] at h
    cases h
    rfl
  | b :: bs, us, h => by
    rw [List.map_cons] at h
    cases h with
    | cons r t =>
      cases r
      rw [Vals.bls t, List.map_cons]
theorem Vals.ref1 {a : Addr} {us : List Value} (r : Vals [V.ref a] us) : us = [Value.ref a] := by
  cases r with
  | cons r t =>
    cases t
    cases r
    rfl
/-! ### the library's walks over a list of ints, kept objects alone -/
section
variable {prog : Program} {w : World} {A : Around} {E : Value → Shared → Prop} {s : Shared} {l : Addr} {its : List Value} {ns : List Int} {Q : Value → Shared → Prop}
theorem sum_raw (hh : A.handled = none) (hl : s.heap.IsList l its.toArray) (hi : IntsAre its ns)
    (h : ∀ h' tk t', (∀ b o, s.heap.get? b = some o → h'.get? b = some o) → Q (.int ns.sum t') { s with heap := h', toks := tk }) : wpAny (model prog w) A (call (.builtin "sum") [.ref l]) Q E s := by
  obtain ⟨xs, e⟩ := hi.allInts.items
  have hn : numsOf (intItems xs).toList = ns := by rw [← e]; exact hi.numsOf
  rw [nums_intItems] at hn
  rw [e] at hl
  refine PySem.sum_intListG hh hl fun h' tk t' hk => ?_
  have := h h' tk t' hk
  rw [preSum_eq, List.take_of_length_le (by simp), hn]; exact this
end

/-! ### the calls, by values (CallR of 03t; MtR of 06l) -/
section
variable {X : Cx}
/-- sum(xs) of a list of ints -/
def rSum (K : PySem.W.Frag) : List V → Hp → VK → Prop := fun vs H Q => ∃ (a : Addr) (ns : List Int), vs = [V.ref a] ∧ SqL K H a (ns.map V.int) ∧ Q (.int ns.sum) H
/-- max(xs), min(xs) of a list of ints -/
def rMax (K : PySem.W.Frag) : List V → Hp → VK → Prop := fun vs H Q => ∃ (a : Addr) (ns : List Int), vs = [V.ref a] ∧ SqL K H a (ns.map V.int) ∧ 0 < ns.length ∧ ∀ m, m ∈ ns → (∀ y, y ∈ ns → y ≤ m) → Q (.int m) H
def rMin (K : PySem.W.Frag) : List V → Hp → VK → Prop := fun vs H Q => ∃ (a : Addr) (ns : List Int), vs = [V.ref a] ∧ SqL K H a (ns.map V.int) ∧ 0 < ns.length ∧ ∀ m, m ∈ ns → (∀ y, y ∈ ns → m ≤ y) → Q (.int m) H
theorem cr_sum (hc : X.calm = true) : CallR X (.builtin "sum") (rSum X.K) := by
  intro pins s σ H vs us Q I r h
  obtain ⟨a, ns, rfl, hs, q⟩ := h
  obtain ⟨its, rv, hl, _⟩ := I.list hs
  rw [Vals.ref1 r]
  exact sum_raw (I.ok.hd hc) hl.isList rv.ints fun h' tk t' hk => ⟨.int _, H, I.kept hk, ⟨_, rfl⟩, q⟩
/-! sorted, sort (fewer than 64 items: the library's own bound) -/
def rSorted (K : PySem.W.Frag) : List V → Hp → VK → Prop := fun vs H Q => ∃ (a : Addr) (ns : List Int), vs = [V.ref a] ∧ SqL K H a (ns.map V.int) ∧ ns.length < 64 ∧
  ∀ (ns' : List Int) (p : Addr), ns'.Perm ns → ns'.Pairwise (· ≤ ·) → H p = none → Q (.ref p) (upd H p (.lst (ns'.map V.int)))
def rSortedS (K : PySem.W.Frag) : List V → Hp → VK → Prop := fun vs H Q => ∃ (a : Addr) (xs : List Str), vs = [V.ref a] ∧ SqL K H a (xs.map V.str) ∧ xs.length < 64 ∧
  ∀ (ys : List Str) (p : Addr), ys.Perm xs → sortedS ys = true → H p = none → Q (.ref p) (upd H p (.lst (ys.map V.str)))
/-- xs.sort(), ints -/
def rSort : V → List V → Hp → VK → Prop := fun x xs H Q => ∃ (a : Addr) (ns : List Int), x = V.ref a ∧ xs = [] ∧ H a = some (.lst (ns.map V.int)) ∧ ns.length < 64 ∧
  ∀ ns' : List Int, ns'.Perm ns → ns'.Pairwise (· ≤ ·) → Q .non (upd H a (.lst (ns'.map V.int)))
end

/-! ### list.index, flat items -/
section
variable {X : Cx}
def rIndex (K : PySem.W.Frag) : V → List V → Hp → VK → Prop := fun x xs H Q => ∃ (a : Addr) (ys : List V) (y : V) (j : Nat) (z : V), x = V.ref a ∧ xs = [y] ∧ SqL K H a ys ∧ flatV y = true ∧ ys.all flatV = true ∧ ys[j]? = some z ∧ eqV z y = true ∧
  (∀ (m : Nat) (z' : V), m < j → ys[m]? = some z' → eqV z' y = false) ∧ Q (.int (j : Nat)) H
end

/-! ### type(x) of an own instance; is, is not of a module's class -/
section
variable {X : Cx}
end

/-! ### any(xs), all(xs) of a list of bools -/
theorem iter_any {prog : Program} {w : World} {A : Around} {E : Value → Shared → Prop} {s : Shared} {l : Addr} {items : Array Value} {Q : Value → Shared → Prop} (hl : s.heap.IsList l items)
    (h : ∀ s₂ : Shared, s₂ = { s with heap := s.heap.push { cls := .type "list_iterator", data := .fields #[.ref l, .int 0 0] } } →
      (s₂.heap.IsListIter s.heap.objs.size l 0 ∧ s₂.heap.IsList l items) → l ≠ s.heap.objs.size → Q (.ref s.heap.objs.size) s₂) : wpAny (model prog w) A (pyIter (.ref l)) Q E s := by
  have hlt : l < s.heap.objs.size := by obtain ⟨_, e, _⟩ := hl; exact Heap.lt_size e
  exact wpAny_pyIter_list hl (h _ rfl ⟨⟨_, Heap.get?_push_size _ rfl, rfl, rfl⟩, hl.push _⟩ (Nat.ne_of_lt hlt))
theorem truth_bools {prog : Program} {w : World} {A : Around} {bs : List Bool} {its : List Value} (e : its = bs.map Value.bool) :
    TruthOf prog w A (fun i v => its.toArray[i]? = some v) (fun i => bs.getD i false) := fun i v s Q E hv hq => by
  have hv' : its[i]? = some v := by simpa using hv
  rw [e, List.getElem?_map] at hv'
  obtain ⟨b, hb, rfl⟩ := Option.map_eq_some_iff.mp hv'
  have hg : bs.getD i false = b := by rw [List.getD_eq_getElem?_getD, hb] <;> rfl
  have hq' : Q (bs.getD i false) s := hq
  rw [hg] at hq'
  exact wpAny_truthy_bool hq'
theorem any_range : ∀ bs : List Bool, (List.range bs.length).any (fun i => bs.getD i false) = bs.any id
  | [] => rfl
  | b :: bs => by
    rw [List.length_cons, List.range_succ_eq_map, List.any_cons, List.any_map, List.any_cons, ← any_range bs]
    all_goals rfl
theorem all_range : ∀ bs : List Bool, (List.range bs.length).all (fun i => bs.getD i false) = bs.all id
  | [] => rfl
  | b :: bs => by
    rw [List.length_cons, List.range_succ_eq_map, List.all_cons, List.all_map, List.all_cons, ← all_range bs]
    all_goals rfl
section
variable {X : Cx}
def rAny (K : PySem.W.Frag) : List V → Hp → VK → Prop := fun vs H Q => ∃ (a : Addr) (bs : List Bool), vs = [V.ref a] ∧ SqL K H a (bs.map V.bl) ∧ Q (.bl (bs.any id)) H
def rAll (K : PySem.W.Frag) : List V → Hp → VK → Prop := fun vs H Q => ∃ (a : Addr) (bs : List Bool), vs = [V.ref a] ∧ SqL K H a (bs.map V.bl) ∧ Q (.bl (bs.all id)) H
theorem cr_all (hc : X.calm = true) : CallR X (.builtin "all") (rAll X.K) := by
  intro pins s σ H vs us Q I r h
  obtain ⟨a, bs, rfl, hs, q⟩ := h
  obtain ⟨its, rv, hl, _⟩ := I.list hs
  rw [Vals.ref1 r]
  have hb := rv.bls
  refine call_all_walk (iter_any hl.isList fun s₂ e2 st hne => ?_)
  subst e2
  refine ⟨_, _, _, _, _, _, _, rfl, Walks.list (A := X.A.in1) (I.ok.hd hc) _ a hne its.toArray, st, truth_bools hb, fun h' tk hk => ?_⟩
  refine ⟨.bl _, H, I.kept fun b o eo => hk b o (fun hmem => ?_) (Heap.get?_push_of_some _ eo), ?_, q⟩
  · rcases List.mem_cons.mp hmem with e1 | hmem
    · exact absurd (e1 ▸ Heap.lt_size eo) (Nat.lt_irrefl _)
    · cases hmem
  · show Value.bool _ = Value.bool _
    rw [← all_range, hb, List.size_toArray, List.length_map]
end

/-! ### == and != of data at any depth: none, bools, ints, texts, lists, tuples -/
mutual
inductive Dp (K : PySem.W.Frag) (H : Hp) : V → PyData → Prop
  | non : Dp K H .non .none
  | bl (b : Bool) : Dp K H (.bl b) (.bool b)
  | int (i : Int) : Dp K H (.int i) (.int i)
  | str (x : Str) : Dp K H (.str x) (.str x)
  | lst {a : Addr} {xs : List V} {ds : List PyData} : SqL K H a xs → DpAll K H xs ds → Dp K H (.ref a) (.list ds)
  | tup {a : Addr} {xs : List V} {ds : List PyData} : SqT K H a xs → DpAll K H xs ds → Dp K H (.ref a) (.tuple ds)
inductive DpAll (K : PySem.W.Frag) (H : Hp) : List V → List PyData → Prop
  | nil : DpAll K H [] []
  | cons {v : V} {vs : List V} {d : PyData} {ds : List PyData} : Dp K H v d → DpAll K H vs ds → DpAll K H (v :: vs) (d :: ds)
end
section
variable {X : Cx} {pins : List (Addr × Obj)} {σ : St} {H : Hp} {s : Shared}
mutual
theorem Dp.reads (I : Inv X pins σ H s) : ∀ (d : PyData) (v : V) (u : Value), Dp X.K H v d → RelV v u → ∃ as, Reads s.heap u d as
  | .none, _, _, h, r => by
    cases h
    cases r
    exact ⟨_, Reads.none⟩
  | .bool b, _, _, h, r => by
    cases h
    cases r
    exact ⟨_, Reads.bool b⟩
  | .int i, _, _, h, r => by
    cases h
    obtain ⟨t, rfl⟩ := r
    exact ⟨_, Reads.int i t⟩
  | .str x, _, _, h, r => by
    cases h
    obtain ⟨t, rfl⟩ := r
    exact ⟨_, Reads.str x t⟩
  | .list ds, _, _, h, r => by
    cases h with
    | lst hs ha =>
      cases r
      obtain ⟨its, rv, ⟨o, n, ho, hc, _, hd⟩, _⟩ := I.list hs
      obtain ⟨as, hr⟩ := Dp.readsAll I ds _ its ha rv
      exact ⟨_, Reads.list ho hc hd hr⟩
  | .tuple ds, _, _, h, r => by
    cases h with
    | tup hs ha =>
      cases r
      obtain ⟨its, rv, ⟨o, ho, hc, n, hd⟩, _⟩ := I.tuple hs
      obtain ⟨as, hr⟩ := Dp.readsAll I ds _ its ha rv
      exact ⟨_, Reads.tuple ho hc hd hr⟩
  | .dict _, _, _, h, _ => by cases h
theorem Dp.readsAll (I : Inv X pins σ H s) : ∀ (ds : List PyData) (vs : List V) (us : List Value), DpAll X.K H vs ds → Vals vs us → ∃ as, ReadsAll s.heap us ds as
  | [], _, _, h, r => by
    cases h
    cases r
    exact ⟨_, ReadsAll.nil⟩
  | d :: ds, _, _, h, r => by
    cases h with
    | cons h1 h2 =>
      cases r with
      | cons r1 r2 =>
        obtain ⟨as, q1⟩ := Dp.reads I d _ _ h1 r1
        obtain ⟨bs, q2⟩ := Dp.readsAll I ds _ _ h2 r2
        exact ⟨_, ReadsAll.cons q1 q2⟩
end
end
section
variable {X : Cx}
def rEqD (K : PySem.W.Frag) : R2 := fun x y H Q => ∃ d e, Dp K H x d ∧ Dp K H y e ∧ SeqAt.shaped d = true ∧ SeqAt.shaped e = true ∧ Q (.bl (PyData.eqv d e)) H
def rNeD (K : PySem.W.Frag) : R2 := fun x y H Q => ∃ d e, Dp K H x d ∧ Dp K H y e ∧ SeqAt.shaped d = true ∧ SeqAt.shaped e = true ∧ Q (.bl (!PyData.eqv d e)) H
theorem op_eqD (hu : X.A.units + 64 < cLine) : OpR X (compareOp .Eq) (rEqD X.K) := by
  intro pins s σ H x y v u Q I rx ry h
  obtain ⟨d, e, hd, he, sd, se, q⟩ := h
  obtain ⟨as, r1⟩ := Dp.reads I d x v hd rx
  obtain ⟨bs, r2⟩ := Dp.reads I e y u he ry
  exact SeqAt.compareEq_shaped r1 r2 sd se hu ⟨.bl _, H, I, rfl, q⟩
theorem op_neD (hu : X.A.units + 64 < cLine) : OpR X (compareOp .NotEq) (rNeD X.K) := by
  intro pins s σ H x y v u Q I rx ry h
  obtain ⟨d, e, hd, he, sd, se, q⟩ := h
  obtain ⟨as, r1⟩ := Dp.reads I d x v hd rx
  obtain ⟨bs, r2⟩ := Dp.reads I e y u he ry
  exact SeqAt.compareNe_shaped r1 r2 sd se hu ⟨.bl _, H, I, rfl, q⟩
end
end L2

namespace L2
open PySem PySem.Spec PyProof.Rows
abbrev CellAt (h : Heap) (c : Addr) (v : Option Value) : Prop := h.IsCell c v
def relS (scope sc : Scope) : Scope :=
  { scope with names := scope.names.map fun (n, k) => if (k == .free && sc.kind == .function && sc.names.lookup n == some .cell) then (n, .cell) else (n, k) }

def cloFrom (cells : List (Str × Addr)) : List (Str × NameKind) → List (Str × Addr) → List (Str × Addr)
  | [], acc => acc
  | (n, k) :: r, acc => if k == .free then cloFrom cells r ((n, (cells.lookup n).getD 0) :: acc) else cloFrom cells r acc

theorem closure_loop (env : Env) (f : Str × NameKind → List (Str × Addr) → Sem (ForInStep (List (Str × Addr))))
    (hf : ∀ n k c, f (n, k) c = if k == .free then (do let a ← cellOf env n; pure (.yield ((n, a) :: c))) else pure (.yield c)) :
    ∀ (names : List (Str × NameKind)) (acc : List (Str × Addr)), (∀ y ∈ names, y.2 = .free → ∃ c, env.cells.lookup y.1 = some c) → forIn names acc f = pure (cloFrom env.cells names acc)
  | [], acc, _ => by rw [List.forIn_nil]; rfl
  | (n, k) :: r, acc, h => by
    rw [List.forIn_cons, hf]
    have ih := fun acc => closure_loop env f hf r acc fun y hy => h y (List.mem_cons_of_mem _ hy)
    unfold cloFrom
    by_cases hk : (k == NameKind.free) = true
    · rw [if_pos hk, if_pos hk]
      obtain ⟨c, hc⟩ := h (n, k) List.mem_cons_self (by simpa using hk)
      have e : cellOf env n = pure c := by unfold cellOf; rw [hc]
      rw [e]
      have e2 : (env.cells.lookup n).getD 0 = c := by rw [hc]; rfl
      rw [e2]
      exact ih _
    · rw [if_neg hk, if_neg hk]
      exact ih _
theorem closure_ok {scope : Scope} {env : Env} (h : ∀ y ∈ scope.names, y.2 = .free → ∃ c, env.cells.lookup y.1 = some c) : closureFor scope env = pure (cloFrom env.cells scope.names []) := by
  simp only [closureFor]
  rw [closure_loop env _ (fun n k c => rfl) scope.names [] h]
  rfl

theorem mem_lookup {α : Type} : ∀ {l : List (Str × α)} {n : Str} {c : α}, (n, c) ∈ l → ∃ c', l.lookup n = some c'
  | (k, v) :: r, n, c, h => by
    rw [List.lookup_cons]
    cases hb : n == k with
    | true => exact ⟨_, rfl⟩
    | false =>
      rcases List.mem_cons.mp h with e | h
      · cases e; simp at hb
      · exact mem_lookup h

theorem cloFrom_mem {cells : List (Str × Addr)} : ∀ {names : List (Str × NameKind)} {acc : List (Str × Addr)} {n : Str} {c : Addr}, (n, c) ∈ cloFrom cells names acc → (n, c) ∈ acc ∨ ((n, .free) ∈ names ∧ c = (cells.lookup n).getD 0)
  | [], _, _, _, h => .inl h
  | (m, k) :: r, acc, n, c, h => by
    unfold cloFrom at h
    split at h
    · rename_i hk
      have hk : k = .free := by simpa using hk
      rcases cloFrom_mem h with h | ⟨h1, h2⟩
      · rcases List.mem_cons.mp h with e | h
        · cases e; exact .inr ⟨hk ▸ List.mem_cons_self, rfl⟩
        · exact .inl h
      · exact .inr ⟨List.mem_cons_of_mem _ h1, h2⟩
    · rcases cloFrom_mem h with h | ⟨h1, h2⟩
      · exact .inl h
      · exact .inr ⟨List.mem_cons_of_mem _ h1, h2⟩
theorem cloFrom_acc {cells : List (Str × Addr)} : ∀ {names : List (Str × NameKind)} {acc : List (Str × Addr)} {p : Str × Addr}, p ∈ acc → p ∈ cloFrom cells names acc
  | [], _, _, h => h
  | (m, k) :: r, acc, p, h => by
    unfold cloFrom
    split
    · exact cloFrom_acc (List.mem_cons_of_mem _ h)
    · exact cloFrom_acc h
theorem cloFrom_has {cells : List (Str × Addr)} : ∀ {names : List (Str × NameKind)} {acc : List (Str × Addr)} {n : Str}, (n, .free) ∈ names → (n, (cells.lookup n).getD 0) ∈ cloFrom cells names acc
  | (m, k) :: r, acc, n, h => by
    unfold cloFrom
    rcases List.mem_cons.mp h with e | h
    · cases e
      exact cloFrom_acc List.mem_cons_self
    · split
      · exact cloFrom_has h
      · exact cloFrom_has h

theorem cells_mem : ∀ {names : List (Str × NameKind)} {h : Heap} {acc : List (Str × Addr)} {x : Str} {c : Addr}, (x, c) ∈ cellsFrom h.objs.size names acc →
    (x, c) ∈ acc ∨ ((x, .cell) ∈ names ∧ h.objs.size ≤ c ∧ CellAt (pushCells h names) c none)
  | [], _, _, _, _, h => .inl h
  | (n, k) :: r, h, acc, x, c, hm => by
    unfold cellsFrom at hm
    unfold pushCells
    split at hm
    · rename_i hk
      rw [if_pos hk]
      have hk : k = .cell := by simpa using hk
      rw [← Heap.size_push h { cls := .type "cell", data := .cell none }] at hm
      rcases cells_mem hm with hm | ⟨h1, h2, h3⟩
      · rcases List.mem_cons.mp hm with e | hm
        · cases e
          exact .inr ⟨hk ▸ List.mem_cons_self, Nat.le_refl _, _, pushCells_keeps r _ _ _ (Heap.get?_push_size _ rfl), rfl⟩
        · exact .inl hm
      · rw [Heap.size_push] at h2
        exact .inr ⟨List.mem_cons_of_mem _ h1, Nat.le_of_succ_le h2, h3⟩
    · rename_i hk
      rw [if_neg hk]
      rcases cells_mem hm with hm | ⟨h1, h2, h3⟩
      · exact .inl hm
      · exact .inr ⟨List.mem_cons_of_mem _ h1, h2, h3⟩
theorem cells_acc : ∀ {names : List (Str × NameKind)} {n : Nat} {acc : List (Str × Addr)} {p : Str × Addr}, p ∈ acc → p ∈ cellsFrom n names acc
  | [], _, _, _, h => h
  | (m, k) :: r, n, acc, p, h => by
    unfold cellsFrom
    split
    · exact cells_acc (List.mem_cons_of_mem _ h)
    · exact cells_acc h
theorem cells_has : ∀ {names : List (Str × NameKind)} {n : Nat} {acc : List (Str × Addr)} {x : Str}, (x, .cell) ∈ names → ∃ c, (x, c) ∈ cellsFrom n names acc
  | (m, k) :: r, n, acc, x, h => by
    unfold cellsFrom
    rcases List.mem_cons.mp h with e | h
    · cases e
      exact ⟨n, cells_acc List.mem_cons_self⟩
    · split
      · exact cells_has h
      · exact cells_has h
theorem cells_inj : ∀ {names : List (Str × NameKind)} {h : Heap} {acc : List (Str × Addr)} {x y : Str} {c : Addr}, (∀ p ∈ acc, p.2 < h.objs.size) → (∀ x y c, (x, c) ∈ acc → (y, c) ∈ acc → x = y) →
    (x, c) ∈ cellsFrom h.objs.size names acc → (y, c) ∈ cellsFrom h.objs.size names acc → x = y
  | [], _, _, _, _, _, _, hi, h1, h2 => hi _ _ _ h1 h2
  | (n, k) :: r, h, acc, x, y, c, hl, hi, h1, h2 => by
    unfold cellsFrom at h1 h2
    split at h1
    · rename_i hk
      rw [if_pos hk] at h2
      rw [← Heap.size_push h { cls := .type "cell", data := .cell none }] at h1 h2
      refine cells_inj (h := h.push _) (fun p hp => ?_) (fun x y c a b => ?_) h1 h2
      · rw [Heap.size_push]
        rcases List.mem_cons.mp hp with rfl | hp
        · exact Nat.lt_succ_self _
        · exact Nat.lt_succ_of_lt (hl p hp)
      · rcases List.mem_cons.mp a with e | a <;> rcases List.mem_cons.mp b with e' | b
        · cases e; cases e'; rfl
        · cases e; exact absurd (hl _ b) (Nat.lt_irrefl _)
        · cases e'; exact absurd (hl _ a) (Nat.lt_irrefl _)
        · exact hi _ _ _ a b
    · rename_i hk
      rw [if_neg hk] at h2
      exact cells_inj hl hi h1 h2

theorem newEnv_comp {M : Model} {A : Around} {E : Value → Shared → Prop} {s : Shared} {scope : Scope} {globals : Addr} {closure : List (Str × Addr)} {qual : Str} {func : Option Addr} {code : Value} {around : Env} {builtins : Addr} {Q : Env → Shared → Prop}
    (h : Q (newEnv scope s.heap.objs.size globals (cellsFrom (s.heap.objs.size + 1) scope.names closure) qual func code (some around) builtins)
      { s with heap := pushCells (s.heap.push { cls := .type "dict", data := .dict #[] }) scope.names }) :
    wpAny M A (newFunctionEnv scope globals closure [] qual func code (some around) builtins) Q E s := by
  simp only [newFunctionEnv, Option.isSome_some, if_true]
  refine wpAny_bind (wpAny_alloc ?_)
  refine wpAny_bind (wpAny_layCells _ (fun n k c => rfl) scope.names closure _ _ ?_)
  rw [show ({ s with heap := s.heap.push { cls := .type "dict", data := .dict #[] } } : Shared).heap.objs.size = s.heap.objs.size + 1 from Heap.size_push ..]
  rw [List.forIn_nil]
  exact wpAny_bind (wpAny_pure (wpAny_pure h))

/-- every name of the written scope, in the scope that runs -/
theorem lookup_relS {sc : Scope} : ∀ {names : List (Str × NameKind)} {x : Str} {k : NameKind},
    (names.map fun (n, k) => if (k == NameKind.free && sc.kind == .function && sc.names.lookup n == some .cell) then (n, NameKind.cell) else (n, k)).lookup x = some k →
    ∃ k', names.lookup x = some k' ∧ (k = k' ∨ (k' = .free ∧ k = .cell))
  | [], _, _, h => by simp at h
  | (n, k₀) :: r, x, k, h => by
    have ih := @lookup_relS sc r x k
    have h' : List.lookup x ((if (k₀ == NameKind.free && sc.kind == .function && sc.names.lookup n == some .cell) = true then (n, NameKind.cell) else (n, k₀)) :: (r.map _)) = some k := h
    cases hx : x == n with
    | true =>
      simp only [List.lookup_cons, hx]
      by_cases hc : (k₀ == NameKind.free && sc.kind == .function && sc.names.lookup n == some .cell) = true
      · rw [if_pos hc] at h'
        simp only [List.lookup_cons, hx] at h'
        cases h'
        simp only [Bool.and_eq_true, beq_iff_eq] at hc
        exact ⟨k₀, rfl, .inr ⟨hc.1.1, rfl⟩⟩
      · rw [if_neg hc] at h'
        simp only [List.lookup_cons, hx] at h'
        cases h'
        exact ⟨_, rfl, .inl rfl⟩
    | false =>
      simp only [List.lookup_cons, hx]
      by_cases hc : (k₀ == NameKind.free && sc.kind == .function && sc.names.lookup n == some .cell) = true
      · rw [if_pos hc] at h'
        simp only [List.lookup_cons, hx] at h'
        exact ih h'
      · rw [if_neg hc] at h'
        simp only [List.lookup_cons, hx] at h'
        exact ih h'
/-- the names of a comprehension's block: its own (with their places in N), or captured -/
structure BlkOk (N : List Str) (sc scope : Scope) (own : List (Str × Nat)) : Prop where
  kind : scope.kind = .function
  uniq : ∀ y ∈ scope.names, scope.names.lookup y.1 = some y.2
  ix : ∀ p ∈ own, N[p.2]? = some p.1
  free : ∀ y ∈ scope.names, y.2 = .free → sc.names.lookup y.1 = some .cell ∨ sc.names.lookup y.1 = some .free
  own : ∀ y ∈ scope.names, y.2 = .local ∨ y.2 = .cell → y.1 ∈ own.map (·.1) ∨ y.1 ∉ N
/-- the slots of the block's own names forgotten -/
def wipe (σ : St) : List Nat → St
  | [] => σ
  | v :: vs => (wipe σ vs).set v none
theorem wipe_length (σ : St) : ∀ vs : List Nat, (wipe σ vs).length = σ.length
  | [] => rfl
  | v :: vs => by unfold wipe; rw [List.length_set, wipe_length σ vs]
theorem wipe_some {σ : St} {i : Nat} {x : V} : ∀ {vs : List Nat}, (wipe σ vs)[i]? = some (some x) → σ[i]? = some (some x) ∧ i ∉ vs
  | [], h => ⟨h, by simp⟩
  | v :: vs, h => by
    unfold wipe at h
    by_cases hi : v = i
    · subst hi
      by_cases hv : v < (wipe σ vs).length
      · rw [List.getElem?_set_self hv] at h; cases h
      · rw [List.getElem?_eq_none (by simpa using hv)] at h; cases h
    · rw [List.getElem?_set_ne hi] at h
      obtain ⟨h1, h2⟩ := wipe_some h
      exact ⟨h1, by simp only [List.mem_cons, not_or]; exact ⟨fun e => hi e.symm, h2⟩⟩

/-- the context of a block that starts at s, its iterator's objects at fp -/
abbrev Cx.blk (X : Cx) (s : Shared) (H : Hp) (scope : Scope) (cenv : Env) (fp : List Addr) : Cx := { X with s_0 := s, H_0 := H, env := cenv, outer := X.stack, ex := fp, fn := fun x => scope.names.lookup x == some .cell, pn := [], xe := fun _ _ => False }
section
variable {X : Cx} {pins : List (Addr × Obj)} {σ : St} {H : Hp} {s : Shared}
theorem block_start {scope : Scope} {own : List (Str × Nat)} {fp : List Addr} (I : Inv X pins σ H s) (ok : BlkOk X.N X.env.scope scope own) (hN : X.N.Nodup) (hfp : ∀ b ∈ fp, FpOk X pins H b ∧ b < s.heap.objs.size) :
    Inv (X.blk s H scope (compEnvC scope (cellsFrom (s.heap.objs.size + 1) scope.names (cloFrom X.env.cells scope.names [])) s.heap.objs.size X.env) fp) [] (wipe σ (own.map (·.2))) H { s with heap := pushCells (s.heap.push { cls := .type "dict", data := .dict #[] }) scope.names } := by
  have hfree : ∀ y ∈ scope.names, y.2 = .free → ∃ c, X.env.cells.lookup y.1 = some c := fun y hy e => by
    rcases ok.free y hy e with k | k
    · exact I.ok.has _ (.inl k)
    · exact I.ok.has _ (.inr k)
  generalize hcenv : compEnvC scope (cellsFrom (s.heap.objs.size + 1) scope.names (cloFrom X.env.cells scope.names [])) s.heap.objs.size X.env = cenv
  have kp : ∀ b o, s.heap.get? b = some o → (pushCells (s.heap.push { cls := .type "dict", data := .dict #[] }) scope.names).get? b = some o := fun b o e => pushCells_keeps _ _ _ _ (Heap.get?_push_of_some _ e)
  have hL : cenv.locals = s.heap.objs.size := by rw [← hcenv]; rfl
  have hcl : cenv.cells = cellsFrom (s.heap.objs.size + 1) scope.names (cloFrom X.env.cells scope.names []) := by rw [← hcenv]; rfl
  have hsc : cenv.scope = relS scope X.env.scope := by rw [← hcenv]; rfl
  rw [← Heap.size_push s.heap { cls := .type "dict", data := .dict #[] }] at hcl
  have cm : ∀ {y c}, (y, c) ∈ cloFrom X.env.cells scope.names [] → X.env.cells.lookup y = some c ∧ c < s.heap.objs.size := fun {y c} hm => by
    rcases cloFrom_mem hm with hm | ⟨h1, rfl⟩
    · cases hm
    · obtain ⟨c, hc⟩ := hfree _ h1 rfl
      rw [hc]
      obtain ⟨w, z⟩ := I.cell _ _ hc
      exact ⟨rfl, z.lt⟩
  have mem : ∀ {y c}, cenv.cells.lookup y = some c → (X.env.cells.lookup y = some c ∧ c < s.heap.objs.size) ∨ (s.heap.objs.size + 1 ≤ c ∧ CellAt (pushCells (s.heap.push { cls := .type "dict", data := .dict #[] }) scope.names) c none) := fun {y c} e => by
    rw [hcl] at e
    rcases cells_mem (PySem.mem_of_lookup e) with hm | ⟨_, h2, h3⟩
    · exact .inl (cm hm)
    · rw [Heap.size_push] at h2; exact .inr ⟨h2, h3⟩
  have look : ∀ {y}, scope.names.lookup y = some .free → ∃ c, cenv.cells.lookup y = some c ∧ X.env.cells.lookup y = some c := fun {y} hl => by
    have hy : (y, NameKind.free) ∈ scope.names := PySem.mem_of_lookup hl
    obtain ⟨c', e'⟩ := mem_lookup (cells_acc (names := scope.names) (n := (s.heap.push { cls := .type "dict", data := .dict #[] }).objs.size) (cloFrom_has (cells := X.env.cells) (acc := []) hy))
    rw [← hcl] at e'
    refine ⟨c', e', ?_⟩
    rw [hcl] at e'
    rcases cells_mem (PySem.mem_of_lookup e') with hm | ⟨h1, _, _⟩
    · exact (cm hm).1
    · have := ok.uniq _ h1
      rw [hl] at this; cases this
  have okB : (X.blk s H scope cenv fp).Ok := by
    refine ⟨I.ok.mod, by show cenv.scope.kind = _; rw [hsc]; exact ok.kind, by show cenv.globals = _; rw [← hcenv]; exact I.ok.glob, by show cenv.builtins = _; rw [← hcenv]; exact I.ok.blt, by show s.heap.objs.size ≤ cenv.locals; rw [hL]; exact Nat.le_refl _,
      fun y z c e1 e2 => ?_, fun y hy => ?_, fun y c z e => ?_, I.ok.hd, I.ok.frames, .inl rfl, fun b hb => ⟨?_, fun y c e z => ?_⟩, I.bs, Nat.le_trans I.ok.bsz I.sz, fun b o e hb => ?_, fun b hb z => ?_, I.stack, I.stkFree⟩
    · have e1 : cenv.cells.lookup y = some c := e1
      have e2 : cenv.cells.lookup z = some c := e2
      rw [hcl] at e1 e2
      refine cells_inj (fun p hp => ?_) (fun y z c a b => I.ok.inj y z c (cm a).1 (cm b).1) (PySem.mem_of_lookup e1) (PySem.mem_of_lookup e2)
      rw [Heap.size_push]
      exact Nat.lt_succ_of_lt (cm (y := p.1) (c := p.2) hp).2
    · show ∃ c, cenv.cells.lookup y = some c
      have key : ∀ k, cenv.kindOf y = some k → (k = .cell ∨ k = .free) → ∃ c, cenv.cells.lookup y = some c := fun k hk hk' => by
        unfold Env.kindOf at hk
        rw [hsc] at hk
        obtain ⟨k', e, r⟩ := lookup_relS hk
        have : k' = .cell ∨ k' = .free := by
          rcases r with rfl | ⟨rfl, _⟩
          · exact hk'
          · exact .inr rfl
        rcases this with rfl | rfl
        · obtain ⟨c, hm⟩ := cells_has (n := (s.heap.push { cls := .type "dict", data := .dict #[] }).objs.size) (acc := cloFrom X.env.cells scope.names []) (PySem.mem_of_lookup e)
          obtain ⟨c', e'⟩ := mem_lookup hm
          exact ⟨c', by rw [hcl]; exact e'⟩
        · obtain ⟨c, h1, _⟩ := look e
          exact ⟨c, h1⟩
      rcases hy with hy | hy
      · exact key _ hy (.inl rfl)
      · exact key _ hy (.inr rfl)
    · have z : (scope.names.lookup y == some NameKind.cell) = true := z
      have z : scope.names.lookup y = some .cell := by simpa using z
      have e : cenv.cells.lookup y = some c := e
      rw [hcl] at e
      rcases cells_mem (PySem.mem_of_lookup e) with hm | ⟨_, h2, _⟩
      · rcases cloFrom_mem hm with hm | ⟨h1, _⟩
        · cases hm
        · have q := ok.uniq _ h1
          rw [z] at q; cases q
      · rw [Heap.size_push] at h2
        exact Nat.le_of_succ_le h2
    · show b ≠ cenv.locals
      rw [hL]; exact Nat.ne_of_lt (hfp b hb).2
    · have e : cenv.cells.lookup y = some c := e
      rcases mem e with ⟨h1, _⟩ | ⟨h1, _⟩
      · exact (hfp b hb).1.2.2.2.2.1 y c h1 z
      · have h2 : s.heap.objs.size + 1 ≤ b := by rw [← z]; exact h1
        exact absurd (Nat.lt_of_lt_of_le (hfp b hb).2 (Nat.le_of_succ_le h2)) (Nat.lt_irrefl _)
    · rcases (hfp b hb).1.2.2.2.1 with z | z
      · exact I.ok.noex b o e z
      · exact absurd (Nat.lt_of_lt_of_le (Heap.lt_size e) (Nat.le_trans I.ok.bsz z)) (Nat.lt_irrefl _)
    · rcases List.mem_cons.mp (I.stkSub b z) with z | z
      · exact (hfp b hb).1.2.1 z
      · exact (hfp b hb).1.2.2.1 z
  refine ⟨okB, rfl, I.bare, Un.kept kp, ⟨fun _ => none, ?_, fun i y av e1 e2 e3 => ?_⟩, fun y c e => ?_, ?_, fun y c e => ?_, fun p hp => ?_, I.hok.kept kp, by rw [wipe_length]; exact I.len⟩
  · show Heap.Ns _ cenv.locals _
    rw [hL]
    exact Heap.Ns.keeps (Heap.Ns.new ..) fun b o e => pushCells_keeps _ _ _ _ e
  · obtain ⟨e2, hne⟩ := wipe_some e2
    have hfr : scope.names.lookup y = some .free ∧ (cenv.kindOf y = some .cell ∨ cenv.kindOf y = some .free) := by
      have key : ∀ k, cenv.scope.names.lookup y = some k → k = .local ∨ k = .cell ∨ k = .free → scope.names.lookup y = some .free ∧ (cenv.kindOf y = some .cell ∨ cenv.kindOf y = some .free) := fun k hk hk' => by
        have hk0 := hk
        rw [hsc] at hk
        obtain ⟨k', e, r⟩ := lookup_relS hk
        have no : ¬ (k' = .local ∨ k' = .cell) := fun hh => by
          rcases ok.own _ (PySem.mem_of_lookup e) hh with e' | e'
          · obtain ⟨p, hp, hpy⟩ := List.mem_map.mp e'
            have e3 := ok.ix p hp
            have : p.1 = y := hpy
            rw [this] at e3
            exact hne (List.mem_map.mpr ⟨p, hp, nodup_ix hN e3 e1⟩)
          · exact e' (List.mem_of_getElem? e1)
        rcases r with rfl | ⟨rfl, rfl⟩
        · rcases hk' with rfl | rfl | rfl
          · exact absurd (.inl rfl) no
          · exact absurd (.inr rfl) no
          · exact ⟨e, .inr hk0⟩
        · exact ⟨e, .inl hk0⟩
      have e3 : Vis cenv.scope y := e3
      rcases e3 with e3 | e3 | e3
      · exact key _ e3 (.inl rfl)
      · exact key _ e3 (.inr (.inl rfl))
      · exact key _ e3 (.inr (.inr rfl))
    obtain ⟨m, hn, hl⟩ := I.loc
    have hvis : Vis X.env.scope y := (ok.free _ (PySem.mem_of_lookup hfr.1) rfl).elim (fun k => .inr (.inl k)) (fun k => .inr (.inr k))
    obtain ⟨w, r, q⟩ := hl i y av e1 e2 hvis
    refine ⟨w, r, .inr ⟨hfr.2, ?_⟩⟩
    obtain ⟨c, h1, h2⟩ := look hfr.1
    rcases q with ⟨k, _⟩ | ⟨_, c', e', z⟩
    · have k : X.env.scope.names.lookup y = some .local := k
      rcases ok.free _ (PySem.mem_of_lookup hfr.1) rfl with k' | k' <;> rw [show X.env.scope.names.lookup y = _ from k'] at k <;> cases k
    · rw [h2] at e'; cases e'
      exact ⟨c, h1, z.keeps kp⟩
  · have e : cenv.cells.lookup y = some c := e
    rcases mem e with ⟨h1, _⟩ | ⟨_, z⟩
    · obtain ⟨w, z⟩ := I.cell y c h1
      exact ⟨w, z.keeps kp⟩
    · exact ⟨_, z⟩
  · show H cenv.locals = none
    rw [hL]; exact I.hok.fresh (Nat.le_refl _)
  · have e : cenv.cells.lookup y = some c := e
    rcases mem e with ⟨h1, _⟩ | ⟨h1, _⟩
    · exact I.freeC y c h1
    · exact I.hok.fresh (Nat.le_of_succ_le h1)
  · exact absurd (show p ∈ ([] : List (Addr × Obj)) ++ [] from hp) (by simp)

/-- an item appended to a tracked list -/
theorem app_ok {E : Value → Shared → Prop} {D : Addr} {xs : List V} {y : V} {v : Value} {Q : Value → Shared → Prop} (I : Inv X pins σ H s) (hD : H D = some (.lst xs)) (hz : xs.length < sizeLine) (r : RelV y v)
    (h : ∀ s', Inv X pins σ (upd H D (.lst (xs ++ [y]))) s' → Q .none s') : wpAny (model X.prog X.w) X.A (call (.builtin "list.append") [.ref D, v]) Q E s := by
  obtain ⟨hz', its, n, ri, e⟩ := I.hok D _ hD
  have hl := ri.length
  refine append_at (hsz := by rw [List.size_toArray]; omega) e fun h' sb ho' => ?_
  refine h { s with heap := h' } (I.write (t' := s.toks) (by rw [hD]; trivial) (.inl rfl) (fun b u hb q => (sb.2 b hb).trans q) ⟨_, ho'⟩ ⟨by rw [List.length_append]; exact hz, its ++ [v], n + 1, ri.append (.cons r .nil), ?_⟩)
  rw [ho']
  simp

/-- a clause's tests -/
def PTs (X : Cx) (ifs : List Expr) (t : TT) : Prop :=
  ∀ (pins : List (Addr × Obj)) (s : Shared) (σ : St) (H : Hp) (Q : Bool → Hp → Prop), Inv X pins σ H s → t σ H Q →
    wpAny (model X.prog X.w) X.A (forIn ifs true fun c r => if r = true then do let ok ← isTrue c X.env (eval c X.env); pure (ForInStep.yield ok) else pure (ForInStep.yield r)) (TP X pins σ Q) X.xe s
def tYes : TT := fun _ H Q => Q true H
theorem pts_nil : PTs X [] tYes := fun _ _ _ H _ I h => wpAny_tests_nil ⟨H, I, h⟩
end

theorem thnF {α : Type} {t : Sem α} {Q Q' : α → Shared → Prop} {M : Model} {A : Around} {E : Value → Shared → Prop} {s : Shared} (h : wpAny M A t Q (fun _ _ => False) s) (hQ : ∀ a s, Q a s → Q' a s) : wpAny M A t Q' E s := wpAny_mono h hQ fun _ _ z => False.elim z

/-- the loop of a list comprehension's block, the target of any form (codeAny_compLoop_tests asks a target that no tuple goes to; statement and proof follow it, PyProof/CompMap.lean:41-61, with the step letOwnedTupleGo kept) -/
theorem compLoop_any {prog : Program} {w : World} {A : Around} {R : Result → Shared → Prop} {s : Shared} {elt target iter : Expr} {ifs : List Expr} {scope : Scope} {pos : Pos} {it acc : Value} {env : Env} (I : Nat → Shared → Prop)
    (turn : ∀ n s, I n s → wpAny (model prog w) A (pyNext it) (fun r s₁ => match r with
      | none => R (.ok .next) s₁
      | some v => wpAny (model prog w) A (letOwnedTupleGo target it v) (fun _ s₁' => wpAny (model prog w) A (assign target env v) (fun _ s₂ =>
          wpAny (model prog w) A (forIn ifs true fun c r => if r = true then do let ok ← isTrue c env (eval c env); pure (ForInStep.yield ok) else pure (ForInStep.yield r)) (fun ok s₃ =>
            if ok = true then wpAny (model prog w) A (eval elt env) (fun x s₄ =>
              wpAny (model prog w) A (call (.builtin "list.append") [acc, x]) (fun _ s₅ => ∃ m, m < n ∧ I m s₅) (notedBy (model prog w) A env fun e s' => R (.error e) s') s₄) (notedBy (model prog w) A env fun e s' => R (.error e) s') s₃
            else ∃ m, m < n ∧ I m s₃) (notedBy (model prog w) A env fun e s' => R (.error e) s') s₂) (notedBy (model prog w) A env fun e s' => R (.error e) s') s₁') (notedBy (model prog w) A env fun e s' => R (.error e) s') s₁) (notedBy (model prog w) A env fun e s' => R (.error e) s') s)
    (n : Nat) (h : I n s) :
    codeAny (model prog w) A (.compLoop (.ListComp elt [⟨target, iter, ifs, 0⟩] scope pos) 0 it acc env) R s := by
  refine codeAny_loop rfl I (fun n s hI => ?_) n h
  show wpAny _ A ((compTurn (.ListComp elt [⟨target, iter, ifs, 0⟩] scope pos) 0 it acc env).onRaise (fun x => do noteFrame x env; theTreesLotGoes x)) _ _ s
  refine wpAny_noted ?_
  rw [compTurn_list]
  refine wpAny_bind (wpAny_standAt (wpAny_bind (wpAny_mono (turn n s hI) (fun r s₁ h₁ => ?_) fun _ _ h' => h')))
  cases r with
  | none => exact wpAny_pure h₁
  | some v =>
    refine wpAny_bind (wpAny_mono h₁ (fun _ s₁' h₁' => ?_) fun _ _ h' => h')
    refine wpAny_bind (wpAny_mono h₁' (fun _ s₂ h₂ => wpAny_bind (wpAny_mono h₂ (fun ok s₃ h₃ => ?_) fun _ _ h' => h')) fun _ _ h' => h')
    cases ok with
    | false => exact wpAny_pure ⟨rfl, h₃⟩
    | true =>
      exact wpAny_bind (wpAny_bind (wpAny_mono h₃ (fun x s₄ h₄ => wpAny_bind (wpAny_mono h₄ (fun _ s₅ h₅ => wpAny_pure (wpAny_pure ⟨rfl, h₅⟩)) fun _ _ h' => h')) fun _ _ h' => h'))

section
variable {X : Cx}
/-- [elt for target in iter if ..]: D the new list; W by the turn and a measure, Nx what a turn is to reach -/
def tLc (wi : TI) (g : TG) (tt : TT) (te : TE) (vs : List Nat) : TE := fun σ H Q => wi σ H fun J H1 => ∀ D, H1 D = none → ∃ W : Nat → Nat → Hp → Prop, (∃ m, W 0 m (upd H1 D (.lst []))) ∧ ∀ i m H, W i m H →
  (J.stop i H ∧ Q (.ref D) H) ∨ (J.go i H ∧ ∃ Nx : Hp → Prop, (∀ H', Nx H' → ∃ m', m' < m ∧ W (i + 1) m' H') ∧ ∀ x H', J.yld i H x H' → g x (wipe σ vs) H' fun σ2 H2 => wipe σ2 vs = wipe σ vs ∧ tt σ2 H2 fun b H3 =>
    if b = true then te σ2 H3 fun y H4 => ∃ acc, H4 D = some (.lst acc) ∧ acc.length < sizeLine ∧ Nx (upd H4 D (.lst (acc ++ [y]))) else Nx H3)
theorem lc_core {pins : List (Addr × Obj)} {s : Shared} {σ : St} {H : Hp} {Q : VK} {elt tg iter : Expr} {ifs : List Expr} {scope : Scope} {own : List (Str × Nat)} {pos pos' : Pos} {wi : TI} {g : TG} {tt : TT} {te : TE} {use : Option (Value → Sem Unit)} {Qf : Value → Shared → Prop}
    (hc : X.calm = true) (hN : X.N.Nodup) (I : Inv X pins σ H s) (hi : PI X tg iter wi) (ok : BlkOk X.N X.env.scope scope own)
    (hg : ∀ (s : Shared) (H : Hp) (C : Addr) (cl : List (Str × Addr)) (fp : List Addr), PG (X.blk s H scope (compEnvC scope cl C X.env) fp) tg g) (ht : ∀ (s : Shared) (H : Hp) (C : Addr) (cl : List (Str × Addr)) (fp : List Addr), PTs (X.blk s H scope (compEnvC scope cl C X.env) fp) ifs tt)
    (he : ∀ (s : Shared) (H : Hp) (C : Addr) (cl : List (Str × Addr)) (fp : List Addr), PE (X.blk s H scope (compEnvC scope cl C X.env) fp) elt te) (hs : ∀ x, foldedSetIterable iter X.env x = pure x)
    (h : tLc wi g tt te (own.map (·.2)) σ H Q)
    (hRR : ∀ D C s' m H', Inv X pins σ H' s' → Q (.ref D) H' → s'.heap.Ns C m → FpOk X pins H' C → compPost (model X.prog X.w) X.A X.xe use Qf (.ref D) C (.ok .next) s') :
    wpAny (model X.prog X.w) X.A (comprehension (.ListComp elt [⟨tg, iter, ifs, 0⟩] scope pos) scope X.env pos' (newList []) false (eval iter X.env) use) Qf X.xe s := by
  have hfree : ∀ y ∈ scope.names, y.2 = .free → ∃ c, X.env.cells.lookup y.1 = some c := fun y hy e => by
    rcases ok.free y hy e with k | k
    · exact I.ok.has _ (.inl k)
    · exact I.ok.has _ (.inr k)
  refine wpAny_comprehension_free (use := use) rfl hs (closure_ok hfree) ok.kind (fun y hy e => by rw [ok.uniq y hy, e])
    (thn (hi pins s σ H _ I h) fun xv s1 hx => thn hx fun itv s2 h2 => ?_)
  obtain ⟨it, fp, tn, J, H2, e, I2, T, st2, f2, q⟩ := h2
  subst e
  refine wpAny_newObj_type (newEnv_comp ?_) (by show 0 ≤ sizeLine; decide)
  generalize hD : s2.heap.objs.size = D
  have hDn : H2 D = none := I2.hok.fresh (Nat.le_of_eq hD)
  obtain ⟨W, ⟨m0, w0⟩, turn⟩ := q D hDn
  -- the new list
  generalize hs3 : ({ s2 with heap := s2.heap.push { cls := .type "list", data := .seq ([] : List Value).toArray } } : Shared) = s3
  have I3 : Inv X pins σ (upd H2 D (.lst [])) s3 := by
    rw [← hs3]
    refine I2.laid (t' := s2.toks) (fun b o e => Heap.get?_push_of_some _ e) (Nat.le_of_eq hD) ⟨Nat.zero_le _, [], 0, .nil, ?_⟩
    rw [← hD]
    exact Heap.get?_push_size _ rfl
  have h3 : s3.heap = s2.heap.push { cls := .type "list", data := .seq ([] : List Value).toArray } := by rw [← hs3]
  have sz : ∀ b ∈ fp, b < s2.heap.objs.size := fun b hb => by
    obtain ⟨o, e, _⟩ := T.obj _ _ st2 b hb
    exact Heap.lt_size e
  have f3 : ∀ b ∈ fp, FpOk X pins (upd H2 D (.lst [])) b ∧ b < s3.heap.objs.size := fun b hb => by
    have hlt := sz b hb
    refine ⟨⟨?_, (f2 b hb).2⟩, by rw [h3, Heap.size_push]; exact Nat.lt_succ_of_lt hlt⟩
    rw [upd_ne (by rw [← hD]; exact Nat.ne_of_lt hlt)]
    exact (f2 b hb).1
  have st3 : tn 0 s3.heap := T.keep _ _ _ st2 fun b _ o e => by rw [h3]; exact Heap.get?_push_of_some _ e
  have I4 := block_start I3 ok hN f3
  have pg := hg s3 (upd H2 D (.lst [])) s3.heap.objs.size (cellsFrom (s3.heap.objs.size + 1) scope.names (cloFrom X.env.cells scope.names [])) fp
  have pt := ht s3 (upd H2 D (.lst [])) s3.heap.objs.size (cellsFrom (s3.heap.objs.size + 1) scope.names (cloFrom X.env.cells scope.names [])) fp
  have pe := he s3 (upd H2 D (.lst [])) s3.heap.objs.size (cellsFrom (s3.heap.objs.size + 1) scope.names (cloFrom X.env.cells scope.names [])) fp
  show codeAny _ _ (.compStart (.ListComp elt [⟨tg, iter, ifs, 0⟩] scope pos) 0 (.ref it) (.ref D) (compEnvC scope (cellsFrom (s3.heap.objs.size + 1) scope.names (cloFrom X.env.cells scope.names [])) s3.heap.objs.size X.env)) (compPost (model X.prog X.w) X.A X.xe use Qf (.ref D) s3.heap.objs.size) { s3 with heap := pushCells (s3.heap.push { cls := .type "dict", data := .dict #[] }) scope.names }
  have nfp : ∀ b ∈ fp, (upd H2 D (.lst [])) b = none := fun b hb => (f3 b hb).1.1
  generalize hce : compEnvC scope (cellsFrom (s3.heap.objs.size + 1) scope.names (cloFrom X.env.cells scope.names [])) s3.heap.objs.size X.env = ce at I4 pg pt pe ⊢
  have cL : ce.locals = s3.heap.objs.size := by subst hce; rfl
  generalize hH3 : upd H2 D (.lst []) = H3 at I3 I4 pg pt pe w0 nfp f3
  generalize hs4 : ({ s3 with heap := pushCells (s3.heap.push { cls := .type "dict", data := .dict #[] }) scope.names } : Shared) = s4 at I4 ⊢
  have st4 : tn 0 s4.heap := T.keep _ _ _ st3 fun b _ o e => by rw [← hs4]; exact pushCells_keeps _ _ _ _ (Heap.get?_push_of_some _ e)
  have stat : ∀ {σ' : St} {H' : Hp} {s' : Shared}, Inv (X.blk s3 H3 scope ce fp) [] σ' H' s' → (∀ b ∈ fp, H' b = none) → ∀ b ∈ fp, FpOk (X.blk s3 H3 scope ce fp) [] H' b := fun {σ' H' s'} I' hn b hb =>
    ⟨hn b hb, (I'.ok.exf b hb).1, I'.ok.exfs b hb, .inl hb, fun x c e => (I'.ok.exf b hb).2 x c e, fun p hp => absurd (show p ∈ ([] : List (Addr × Obj)) ++ [] from hp) (by simp)⟩
  have loop : codeAny (model X.prog X.w) X.A (.compLoop (.ListComp elt [⟨tg, iter, ifs, 0⟩] scope pos) 0 (.ref it) (.ref D) ce) (compPost (model X.prog X.w) X.A X.xe use Qf (.ref D) s3.heap.objs.size) s4 := by
    refine compLoop_any (fun n s' => ∃ i H', Inv (X.blk s3 H3 scope ce fp) [] (wipe σ (own.map (·.2))) H' s' ∧ tn i s'.heap ∧ (∀ b ∈ fp, H' b = none) ∧ W i n H') ?_ m0 ⟨0, H3, I4, st4, nfp, w0⟩
    rintro n s5 ⟨i, H5, I5, st5, n5, w5⟩
    rcases turn i n H5 w5 with ⟨stop, qq⟩ | ⟨go, Nx, hNx, step⟩
    · have td := T.done (X.blk s3 H3 scope ce fp) rfl rfl rfl hc i [] s5 _ H5 (fun _ _ => False) I5 (stat I5 n5) st5 stop
      refine thnF td fun r s6 ⟨hr, I6⟩ => ?_
      subst hr
      -- back in the def's context
      have I7 : Inv X pins σ H5 s6 := I3.call' (ch := fp) I6.os I6.base I6.hok I6.bare fun b hb => ⟨(f3 b hb).1.2.2.2.1, (f3 b hb).1.2.1, (f3 b hb).1.2.2.2.2.1, (f3 b hb).1.2.2.2.2.2⟩
      have nC : H5 s3.heap.objs.size = none := by
        have z : H5 ce.locals = none := I6.free
        rw [cL] at z
        exact z
      obtain ⟨m, hn, _⟩ := I6.loc
      have hn : s6.heap.Ns ce.locals m := hn
      rw [cL] at hn
      exact hRR D s3.heap.objs.size s6 m H5 I7 qq hn (I3.fpOk (Nat.le_refl _) nC)
    · have ti := T.item (X.blk s3 H3 scope ce fp) rfl rfl rfl hc i [] s5 _ H5 (fun _ _ => False) I5 (stat I5 n5) st5 go
      refine thnF ti fun r s6 ⟨u, hr, h6⟩ => ?_
      subst hr
      refine thnF h6 fun _ s7 ⟨x, H7, I7, r7, y7, st7, n7⟩ => ?_
      have I7' := I7.pinned (stat I7 n7) (T.obj _ _ st7)
      refine thnF (pg _ s7 _ H7 x u _ I7' r7 (step x H7 y7)) fun _ s8 ⟨σ8, H8, I8, hw8, q8⟩ => ?_
      refine thnF (pt _ s8 σ8 H8 _ I8 q8) fun b s9 ⟨H9, I9, q9⟩ => ?_
      -- the turn's end
      have fin : ∀ {s' : Shared} {H' : Hp}, Inv (X.blk s3 H3 scope ce fp) ([] ++ pinsAt fp s7.heap) σ8 H' s' → Nx H' → ∃ m, m < n ∧ ∃ i H', Inv (X.blk s3 H3 scope ce fp) [] (wipe σ (own.map (·.2))) H' s' ∧ tn i s'.heap ∧ (∀ b ∈ fp, H' b = none) ∧ W i m H' := fun {s' H'} I' nx => by
        obtain ⟨m', hm, w'⟩ := hNx H' nx
        have pin' : ∀ b ∈ fp, ∀ o, s7.heap.get? b = some o → s'.heap.get? b = some o ∧ H' b = none := fun b hb o e =>
          let z := I'.pin (b, o) (List.mem_append_right _ (List.mem_append_right _ (mem_pinsAt hb e)))
          ⟨z.1, z.2.1⟩
        have hl : (wipe σ (own.map (·.2))).length = σ8.length := by rw [← hw8, wipe_length]
        refine ⟨m', hm, i + 1, H', (I'.unpinned (pins := [])).weak hl (fun j v e => ?_), T.keep _ _ _ st7 fun b hb o e => (pin' b hb o e).1, fun b hb => ?_, w'⟩
        · rw [← hw8] at e
          exact (wipe_some e).1
        · obtain ⟨o, e, _⟩ := T.obj _ _ st7 b hb
          exact (pin' b hb o e).2
      cases b with
      | false =>
        simp only [Bool.false_eq_true, if_false] at q9 ⊢
        exact fin I9 q9
      | true =>
        simp only [if_true] at q9 ⊢
        refine thnF (pe _ s9 σ8 H9 _ I9 q9) fun z s10 ⟨yv, H10, I10, r10, acc, hD10, hz10, nx⟩ => ?_
        exact app_ok (X := X.blk s3 H3 scope ce fp) I10 hD10 hz10 r10 fun s11 I11 => fin I11 nx
  exact codeAny_compStart_list loop (T.self X.A 0 _ _ _ st4 loop)
/-- as a value -/
theorem pe_lc {elt tg iter : Expr} {ifs : List Expr} {scope : Scope} {own : List (Str × Nat)} {pos : Pos} {wi : TI} {g : TG} {tt : TT} {te : TE} (hc : X.calm = true) (hN : X.N.Nodup) (hi : PI X tg iter wi) (ok : BlkOk X.N X.env.scope scope own)
    (hg : ∀ (s : Shared) (H : Hp) (C : Addr) (cl : List (Str × Addr)) (fp : List Addr), PG (X.blk s H scope (compEnvC scope cl C X.env) fp) tg g) (ht : ∀ (s : Shared) (H : Hp) (C : Addr) (cl : List (Str × Addr)) (fp : List Addr), PTs (X.blk s H scope (compEnvC scope cl C X.env) fp) ifs tt)
    (he : ∀ (s : Shared) (H : Hp) (C : Addr) (cl : List (Str × Addr)) (fp : List Addr), PE (X.blk s H scope (compEnvC scope cl C X.env) fp) elt te) (hs : ∀ x, foldedSetIterable iter X.env x = pure x := by intro _; rfl) :
    PE X (.ListComp elt [⟨tg, iter, ifs, 0⟩] scope pos) (tLc wi g tt te (own.map (·.2))) := by
  intro pins s σ H Q I h
  rw [eval_ListComp]
  refine lc_core hc hN I hi ok hg ht he hs h fun D C s' m H' I' q hn f => ⟨m, hn, fun h'' sb => ?_⟩
  obtain ⟨f0, f1, f2, f3, f4, f5⟩ := f
  exact ⟨.ref D, H', I'.turned (t' := s'.toks) (fun b o hb e => (sb.2 b hb).trans e) f0 f1 f3 f4 f5, rfl, q⟩
end

/-! ### the forms one uses -/
def blkC (N : List Str) (sc scope : Scope) (own : List (Str × Nat)) : Bool :=
  (match scope.kind with | .function => true | _ => false) && (scope.names.all fun y => decide (scope.names.lookup y.1 = some y.2)) && (own.all fun p => decide (N[p.2]? = some p.1)) &&
    (scope.names.all fun y => match y.2 with
      | .free => (match sc.names.lookup y.1 with | some .cell => true | some .free => true | _ => false)
      | .local => decide (y.1 ∈ own.map (·.1)) || decide (y.1 ∉ N)
      | .cell => decide (y.1 ∈ own.map (·.1)) || decide (y.1 ∉ N)
      | _ => true)
theorem blkOk_by {N : List Str} {sc scope : Scope} {own : List (Str × Nat)} (h : blkC N sc scope own = true) : BlkOk N sc scope own := by
  unfold blkC at h
  simp only [Bool.and_eq_true, List.all_eq_true, decide_eq_true_eq] at h
  obtain ⟨⟨⟨h1, h2⟩, h3⟩, h4⟩ := h
  refine ⟨?_, h2, h3, fun y hy e => ?_, fun y hy e => ?_⟩
  · split at h1
    · assumption
    · cases h1
  · have q := h4 y hy
    simp only [e] at q
    split at q <;> first | exact .inl (by assumption) | exact .inr (by assumption) | cases q
  · have q := h4 y hy
    rcases e with e | e <;> (simp only [e, Bool.or_eq_true, decide_eq_true_eq] at q; exact q)
end L2

namespace L2
open PySem PySem.Spec PyProof.Rows

theorem compTurn2_out (elt t0 i0 t1 i1 : Expr) (ifs0 ifs1 : List Expr) (scope : Scope) (pos : Pos) (it acc : Value) (env : Env) :
    compTurn (.ListComp elt [⟨t0, i0, ifs0, 0⟩, ⟨t1, i1, ifs1, 0⟩] scope pos) 0 it acc env = (do
      standAt i0.pos
      match ← pyNext it with
      | none => pure (.done .next)
      | some v =>
        letOwnedTupleGo t0 it v
        assign t0 env v
        let mut ok := true
        for c in ifs0 do
          if ok then ok ← isTrue c env (eval c env)
        if ok then
          let x ← eval i1 env
          standAt i1.pos
          let x ← foldedSetIterable i1 env x
          let _ ← runOwn (.compStart (.ListComp elt [⟨t0, i0, ifs0, 0⟩, ⟨t1, i1, ifs1, 0⟩] scope pos) 1 (← holding [x] (pyIter x)) acc env) env
        again (.compLoop (.ListComp elt [⟨t0, i0, ifs0, 0⟩, ⟨t1, i1, ifs1, 0⟩] scope pos) 0 it acc env)) := by rfl
theorem compTurn2_in (elt t0 i0 t1 i1 : Expr) (ifs0 ifs1 : List Expr) (scope : Scope) (pos : Pos) (it acc : Value) (env : Env) :
    compTurn (.ListComp elt [⟨t0, i0, ifs0, 0⟩, ⟨t1, i1, ifs1, 0⟩] scope pos) 1 it acc env = (do
      standAt i1.pos
      match ← pyNext it with
      | none => pure (.done .next)
      | some v =>
        letOwnedTupleGo t1 it v
        assign t1 env v
        let mut ok := true
        for c in ifs1 do
          if ok then ok ← isTrue c env (eval c env)
        if ok then
          (do let _ ← call (.builtin "list.append") [acc, ← eval elt env])
        again (.compLoop (.ListComp elt [⟨t0, i0, ifs0, 0⟩, ⟨t1, i1, ifs1, 0⟩] scope pos) 1 it acc env)) := by rfl

section
variable {prog : Program} {w : World} {A : Around} {R : Result → Shared → Prop} {s : Shared} {elt t0 i0 t1 i1 : Expr} {ifs0 ifs1 : List Expr} {scope : Scope} {pos : Pos} {it acc : Value} {env : Env}
/-- the loop of the first clause -/
theorem compLoop2_out (hs : ∀ x, foldedSetIterable i1 env x = pure x) (I : Nat → Shared → Prop)
    (turn : ∀ n s, I n s → wpAny (model prog w) A (pyNext it) (fun r s₁ => match r with
      | none => R (.ok .next) s₁
      | some v => wpAny (model prog w) A (letOwnedTupleGo t0 it v) (fun _ s₁' => wpAny (model prog w) A (assign t0 env v) (fun _ s₂ =>
          wpAny (model prog w) A (forIn ifs0 true fun c r => if r = true then do let ok ← isTrue c env (eval c env); pure (ForInStep.yield ok) else pure (ForInStep.yield r)) (fun ok s₃ =>
            if ok = true then wpAny (model prog w) A (eval i1 env) (fun x s₄ => wpAny (model prog w) A (pyIter x) (fun it1 s₅ =>
              codeAny (model prog w) A (.compStart (.ListComp elt [⟨t0, i0, ifs0, 0⟩, ⟨t1, i1, ifs1, 0⟩] scope pos) 1 it1 acc env) (fun r s' => match r with
                | .ok _ => ∃ m, m < n ∧ I m s'
                | .error _ => False) s₅) (notedBy (model prog w) A env fun e s' => R (.error e) s') s₄) (notedBy (model prog w) A env fun e s' => R (.error e) s') s₃
            else ∃ m, m < n ∧ I m s₃) (notedBy (model prog w) A env fun e s' => R (.error e) s') s₂) (notedBy (model prog w) A env fun e s' => R (.error e) s') s₁') (notedBy (model prog w) A env fun e s' => R (.error e) s') s₁) (notedBy (model prog w) A env fun e s' => R (.error e) s') s)
    (n : Nat) (h : I n s) :
    codeAny (model prog w) A (.compLoop (.ListComp elt [⟨t0, i0, ifs0, 0⟩, ⟨t1, i1, ifs1, 0⟩] scope pos) 0 it acc env) R s := by
  refine codeAny_loop rfl I (fun n s hI => ?_) n h
  show wpAny _ A ((compTurn (.ListComp elt [⟨t0, i0, ifs0, 0⟩, ⟨t1, i1, ifs1, 0⟩] scope pos) 0 it acc env).onRaise (fun x => do noteFrame x env; theTreesLotGoes x)) _ _ s
  refine wpAny_noted ?_
  rw [compTurn2_out]
  refine wpAny_bind (wpAny_standAt (wpAny_bind (wpAny_mono (turn n s hI) (fun r s₁ h₁ => ?_) fun _ _ h' => h')))
  cases r with
  | none => exact wpAny_pure h₁
  | some v =>
    refine wpAny_bind (wpAny_mono h₁ (fun _ s₁' h₁' => ?_) fun _ _ h' => h')
    refine wpAny_bind (wpAny_mono h₁' (fun _ s₂ h₂ => wpAny_bind (wpAny_mono h₂ (fun ok s₃ h₃ => ?_) fun _ _ h' => h')) fun _ _ h' => h')
    cases ok with
    | false => exact wpAny_pure ⟨rfl, h₃⟩
    | true =>
      refine wpAny_bind (wpAny_mono h₃ (fun x s₄ h₄ => ?_) fun _ _ h' => h')
      refine wpAny_bind (wpAny_standAt (wpAny_bind (wpAny_of_eq (hs x) (wpAny_bind (wpAny_holding (wpAny_mono h₄ (fun it1 s₅ h₅ => ?_) fun _ _ h' => h'))))))
      refine wpAny_bind (wpAny_runOwn ?_)
      rw [Around.mark_none]
      refine codeAny_mono h₅ fun r s' hr => ?_
      cases r with
      | ok f =>
        first
          | exact wpAny_pure ⟨rfl, hr⟩
          | exact wpAny_bind (wpAny_pure (wpAny_pure ⟨rfl, hr⟩))
      | error e => exact hr.elim
/-- the loop of the second -/
theorem compLoop2_in (I : Nat → Shared → Prop)
    (turn : ∀ n s, I n s → wpAny (model prog w) A (pyNext it) (fun r s₁ => match r with
      | none => R (.ok .next) s₁
      | some v => wpAny (model prog w) A (letOwnedTupleGo t1 it v) (fun _ s₁' => wpAny (model prog w) A (assign t1 env v) (fun _ s₂ =>
          wpAny (model prog w) A (forIn ifs1 true fun c r => if r = true then do let ok ← isTrue c env (eval c env); pure (ForInStep.yield ok) else pure (ForInStep.yield r)) (fun ok s₃ =>
            if ok = true then wpAny (model prog w) A (eval elt env) (fun x s₄ =>
              wpAny (model prog w) A (call (.builtin "list.append") [acc, x]) (fun _ s₅ => ∃ m, m < n ∧ I m s₅) (notedBy (model prog w) A env fun e s' => R (.error e) s') s₄) (notedBy (model prog w) A env fun e s' => R (.error e) s') s₃
            else ∃ m, m < n ∧ I m s₃) (notedBy (model prog w) A env fun e s' => R (.error e) s') s₂) (notedBy (model prog w) A env fun e s' => R (.error e) s') s₁') (notedBy (model prog w) A env fun e s' => R (.error e) s') s₁) (notedBy (model prog w) A env fun e s' => R (.error e) s') s)
    (n : Nat) (h : I n s) :
    codeAny (model prog w) A (.compLoop (.ListComp elt [⟨t0, i0, ifs0, 0⟩, ⟨t1, i1, ifs1, 0⟩] scope pos) 1 it acc env) R s := by
  refine codeAny_loop rfl I (fun n s hI => ?_) n h
  show wpAny _ A ((compTurn (.ListComp elt [⟨t0, i0, ifs0, 0⟩, ⟨t1, i1, ifs1, 0⟩] scope pos) 1 it acc env).onRaise (fun x => do noteFrame x env; theTreesLotGoes x)) _ _ s
  refine wpAny_noted ?_
  rw [compTurn2_in]
  refine wpAny_bind (wpAny_standAt (wpAny_bind (wpAny_mono (turn n s hI) (fun r s₁ h₁ => ?_) fun _ _ h' => h')))
  cases r with
  | none => exact wpAny_pure h₁
  | some v =>
    refine wpAny_bind (wpAny_mono h₁ (fun _ s₁' h₁' => ?_) fun _ _ h' => h')
    refine wpAny_bind (wpAny_mono h₁' (fun _ s₂ h₂ => wpAny_bind (wpAny_mono h₂ (fun ok s₃ h₃ => ?_) fun _ _ h' => h')) fun _ _ h' => h')
    cases ok with
    | false => exact wpAny_pure ⟨rfl, h₃⟩
    | true =>
      exact wpAny_bind (wpAny_bind (wpAny_mono h₃ (fun x s₄ h₄ => wpAny_bind (wpAny_mono h₄ (fun _ s₅ h₅ => wpAny_pure (wpAny_pure ⟨rfl, h₅⟩)) fun _ _ h' => h')) fun _ _ h' => h'))
/-- the second clause's start -/
theorem compStart1_ok (h0 : codeAny (model prog w) A (.compLoop (.ListComp elt [⟨t0, i0, ifs0, 0⟩, ⟨t1, i1, ifs1, 0⟩] scope pos) 1 it acc env) R s)
    (h : wpAny (model prog w) A (pyIter it) (fun it' s' => codeAny (model prog w) A (.compLoop (.ListComp elt [⟨t0, i0, ifs0, 0⟩, ⟨t1, i1, ifs1, 0⟩] scope pos) 1 it' acc env) R s')
      (notedBy (model prog w) A env fun x s' => R (.error x) s') s) :
    codeAny (model prog w) A (.compStart (.ListComp elt [⟨t0, i0, ifs0, 0⟩, ⟨t1, i1, ifs1, 0⟩] scope pos) 1 it acc env) R s := by
  refine codeAny_of_tree ?_
  show wpAny _ _ ((compStart (.ListComp elt [⟨t0, i0, ifs0, 0⟩, ⟨t1, i1, ifs1, 0⟩] scope pos) 1 it acc env).onRaise (fun x => do noteFrame x env; standAt theWindowsPlace)) _ _ s
  refine wpAny_notedAt ?_
  unfold compStart
  show wpAny _ _ (ask >>= _) _ _ s
  refine wpAny_bind (wpAny_askSetting (wpAny_ite ?_))
  split
  · first
      | exact wpAny_bind (wpAny_pure (wpAny_pure (And.intro rfl h0)))
      | exact wpAny_pure (And.intro rfl h0)
  · first
      | exact wpAny_bind (wpAny_rule (wpAny_bind (wpAny_standAt (wpAny_bind (wpAny_mono h (fun it' s' h' => wpAny_pure (And.intro rfl h')) fun _ _ x => x)))))
      | (refine wpAny_bind (wpAny_rule ?_); show wpAny _ _ (standAt i1.pos >>= _) _ _ s; exact wpAny_bind (wpAny_standAt (wpAny_bind (wpAny_mono h (fun it' s' h' => wpAny_pure (And.intro rfl h')) fun _ _ x => x))))
end

theorem wipe_out {σ : St} {i : Nat} : ∀ {vs : List Nat}, i ∉ vs → (wipe σ vs)[i]? = σ[i]?
  | [], _ => rfl
  | v :: vs, h => by
    have h1 : v ≠ i := fun e => h (by rw [e]; exact List.mem_cons_self)
    have h2 : i ∉ vs := fun m => h (List.mem_cons_of_mem _ m)
    unfold wipe
    rw [List.getElem?_set_ne h1]
    exact wipe_out h2
section
variable {X : Cx}
/-- [elt for tg in iter if .. for tg1 in iter1 if ..]: behind the first clause's store and tests the second source's own loop, from which Nx is reached. vs: the block's names; vs1: those of the second target -/
def tLc2 (wi : TI) (g : TG) (tt : TT) (wi1 : TI) (g1 : TG) (tt1 : TT) (te : TE) (vs vs1 : List Nat) : TE := fun σ H Q => wi σ H fun J H1 => ∀ D, H1 D = none → ∃ W : Nat → Nat → Hp → Prop, (∃ m, W 0 m (upd H1 D (.lst []))) ∧ ∀ i m H, W i m H →
  (J.stop i H ∧ Q (.ref D) H) ∨ (J.go i H ∧ ∃ Nx : Hp → Prop, (∀ H', Nx H' → ∃ m', m' < m ∧ W (i + 1) m' H') ∧ ∀ x H', J.yld i H x H' → g x (wipe σ vs) H' fun σ2 H2 => wipe σ2 vs = wipe σ vs ∧ tt σ2 H2 fun b H3 =>
    if b = true then wi1 σ2 H3 fun J1 H4 => ∃ W1 : Nat → Nat → Hp → Prop, (∃ m, W1 0 m H4) ∧ ∀ j k H, W1 j k H →
      (J1.stop j H ∧ Nx H) ∨ (J1.go j H ∧ ∃ Nx1 : Hp → Prop, (∀ H', Nx1 H' → ∃ k', k' < k ∧ W1 (j + 1) k' H') ∧ ∀ x H', J1.yld j H x H' → g1 x (wipe σ2 vs1) H' fun σ3 H5 => wipe σ3 vs1 = wipe σ2 vs1 ∧ tt1 σ3 H5 fun b H6 =>
        if b = true then te σ3 H6 fun y H7 => ∃ acc, H7 D = some (.lst acc) ∧ acc.length < sizeLine ∧ Nx1 (upd H7 D (.lst (acc ++ [y]))) else Nx1 H6)
    else Nx H3)
theorem lc2_core {pins : List (Addr × Obj)} {s : Shared} {σ : St} {H : Hp} {Q : VK} {elt tg iter tg1 iter1 : Expr} {ifs ifs1 : List Expr} {scope : Scope} {own : List (Str × Nat)} {vs1 : List Nat} {pos pos' : Pos} {wi wi1 : TI} {g g1 : TG} {tt tt1 : TT} {te : TE} {use : Option (Value → Sem Unit)} {Qf : Value → Shared → Prop}
    (hc : X.calm = true) (hN : X.N.Nodup) (I : Inv X pins σ H s) (hi : PI X tg iter wi) (ok : BlkOk X.N X.env.scope scope own) (hv : ∀ i ∈ vs1, i ∈ own.map (·.2))
    (hg : ∀ (s : Shared) (H : Hp) (C : Addr) (cl : List (Str × Addr)) (fp : List Addr), PG (X.blk s H scope (compEnvC scope cl C X.env) fp) tg g) (ht : ∀ (s : Shared) (H : Hp) (C : Addr) (cl : List (Str × Addr)) (fp : List Addr), PTs (X.blk s H scope (compEnvC scope cl C X.env) fp) ifs tt)
    (he : ∀ (s : Shared) (H : Hp) (C : Addr) (cl : List (Str × Addr)) (fp : List Addr), PE (X.blk s H scope (compEnvC scope cl C X.env) fp) elt te) (hs : ∀ x, foldedSetIterable iter X.env x = pure x)
    (hi1 : ∀ (s : Shared) (H : Hp) (C : Addr) (cl : List (Str × Addr)) (fp : List Addr), PI (X.blk s H scope (compEnvC scope cl C X.env) fp) tg1 iter1 wi1)
    (hg1 : ∀ (s : Shared) (H : Hp) (C : Addr) (cl : List (Str × Addr)) (fp : List Addr), PG (X.blk s H scope (compEnvC scope cl C X.env) fp) tg1 g1)
    (ht1 : ∀ (s : Shared) (H : Hp) (C : Addr) (cl : List (Str × Addr)) (fp : List Addr), PTs (X.blk s H scope (compEnvC scope cl C X.env) fp) ifs1 tt1)
    (hs1 : ∀ env x, foldedSetIterable iter1 env x = pure x)
    (h : tLc2 wi g tt wi1 g1 tt1 te (own.map (·.2)) vs1 σ H Q)
    (hRR : ∀ D C s' m H', Inv X pins σ H' s' → Q (.ref D) H' → s'.heap.Ns C m → FpOk X pins H' C → compPost (model X.prog X.w) X.A X.xe use Qf (.ref D) C (.ok .next) s') :
    wpAny (model X.prog X.w) X.A (comprehension (.ListComp elt [⟨tg, iter, ifs, 0⟩, ⟨tg1, iter1, ifs1, 0⟩] scope pos) scope X.env pos' (newList []) false (eval iter X.env) use) Qf X.xe s := by
  have hfree : ∀ y ∈ scope.names, y.2 = .free → ∃ c, X.env.cells.lookup y.1 = some c := fun y hy e => by
    rcases ok.free y hy e with k | k
    · exact I.ok.has _ (.inl k)
    · exact I.ok.has _ (.inr k)
  refine wpAny_comprehension_free (use := use) rfl hs (closure_ok hfree) ok.kind (fun y hy e => by rw [ok.uniq y hy, e])
    (thn (hi pins s σ H _ I h) fun xv s1 hx => thn hx fun itv s2 h2 => ?_)
  obtain ⟨it, fp, tn, J, H2, e, I2, T, st2, f2, q⟩ := h2
  subst e
  refine wpAny_newObj_type (newEnv_comp ?_) (by show 0 ≤ sizeLine; decide)
  generalize hD : s2.heap.objs.size = D
  have hDn : H2 D = none := I2.hok.fresh (Nat.le_of_eq hD)
  obtain ⟨W, ⟨m0, w0⟩, turn⟩ := q D hDn
  -- the new list
  generalize hs3 : ({ s2 with heap := s2.heap.push { cls := .type "list", data := .seq ([] : List Value).toArray } } : Shared) = s3
  have I3 : Inv X pins σ (upd H2 D (.lst [])) s3 := by
    rw [← hs3]
    refine I2.laid (t' := s2.toks) (fun b o e => Heap.get?_push_of_some _ e) (Nat.le_of_eq hD) ⟨Nat.zero_le _, [], 0, .nil, ?_⟩
    rw [← hD]
    exact Heap.get?_push_size _ rfl
  have h3 : s3.heap = s2.heap.push { cls := .type "list", data := .seq ([] : List Value).toArray } := by rw [← hs3]
  have sz : ∀ b ∈ fp, b < s2.heap.objs.size := fun b hb => by
    obtain ⟨o, e, _⟩ := T.obj _ _ st2 b hb
    exact Heap.lt_size e
  have f3 : ∀ b ∈ fp, FpOk X pins (upd H2 D (.lst [])) b ∧ b < s3.heap.objs.size := fun b hb => by
    have hlt := sz b hb
    refine ⟨⟨?_, (f2 b hb).2⟩, by rw [h3, Heap.size_push]; exact Nat.lt_succ_of_lt hlt⟩
    rw [upd_ne (by rw [← hD]; exact Nat.ne_of_lt hlt)]
    exact (f2 b hb).1
  have st3 : tn 0 s3.heap := T.keep _ _ _ st2 fun b _ o e => by rw [h3]; exact Heap.get?_push_of_some _ e
  have I4 := block_start I3 ok hN f3
  have pg := hg s3 (upd H2 D (.lst [])) s3.heap.objs.size (cellsFrom (s3.heap.objs.size + 1) scope.names (cloFrom X.env.cells scope.names [])) fp
  have pt := ht s3 (upd H2 D (.lst [])) s3.heap.objs.size (cellsFrom (s3.heap.objs.size + 1) scope.names (cloFrom X.env.cells scope.names [])) fp
  have pe := he s3 (upd H2 D (.lst [])) s3.heap.objs.size (cellsFrom (s3.heap.objs.size + 1) scope.names (cloFrom X.env.cells scope.names [])) fp
  have pi1 := hi1 s3 (upd H2 D (.lst [])) s3.heap.objs.size (cellsFrom (s3.heap.objs.size + 1) scope.names (cloFrom X.env.cells scope.names [])) fp
  have pg1 := hg1 s3 (upd H2 D (.lst [])) s3.heap.objs.size (cellsFrom (s3.heap.objs.size + 1) scope.names (cloFrom X.env.cells scope.names [])) fp
  have pt1 := ht1 s3 (upd H2 D (.lst [])) s3.heap.objs.size (cellsFrom (s3.heap.objs.size + 1) scope.names (cloFrom X.env.cells scope.names [])) fp
  show codeAny _ _ (.compStart (.ListComp elt [⟨tg, iter, ifs, 0⟩, ⟨tg1, iter1, ifs1, 0⟩] scope pos) 0 (.ref it) (.ref D) (compEnvC scope (cellsFrom (s3.heap.objs.size + 1) scope.names (cloFrom X.env.cells scope.names [])) s3.heap.objs.size X.env)) (compPost (model X.prog X.w) X.A X.xe use Qf (.ref D) s3.heap.objs.size) { s3 with heap := pushCells (s3.heap.push { cls := .type "dict", data := .dict #[] }) scope.names }
  have nfp : ∀ b ∈ fp, (upd H2 D (.lst [])) b = none := fun b hb => (f3 b hb).1.1
  generalize hce : compEnvC scope (cellsFrom (s3.heap.objs.size + 1) scope.names (cloFrom X.env.cells scope.names [])) s3.heap.objs.size X.env = ce at I4 pg pt pe pi1 pg1 pt1 ⊢
  have cL : ce.locals = s3.heap.objs.size := by subst hce; rfl
  generalize hH3 : upd H2 D (.lst []) = H3 at I3 I4 pg pt pe pi1 pg1 pt1 w0 nfp f3
  generalize hs4 : ({ s3 with heap := pushCells (s3.heap.push { cls := .type "dict", data := .dict #[] }) scope.names } : Shared) = s4 at I4 ⊢
  have st4 : tn 0 s4.heap := T.keep _ _ _ st3 fun b _ o e => by rw [← hs4]; exact pushCells_keeps _ _ _ _ (Heap.get?_push_of_some _ e)
  have stat : ∀ {σ' : St} {H' : Hp} {s' : Shared}, Inv (X.blk s3 H3 scope ce fp) [] σ' H' s' → (∀ b ∈ fp, H' b = none) → ∀ b ∈ fp, FpOk (X.blk s3 H3 scope ce fp) [] H' b := fun {σ' H' s'} I' hn b hb =>
    ⟨hn b hb, (I'.ok.exf b hb).1, I'.ok.exfs b hb, .inl hb, fun x c e => (I'.ok.exf b hb).2 x c e, fun p hp => absurd (show p ∈ ([] : List (Addr × Obj)) ++ [] from hp) (by simp)⟩
  have loop : codeAny (model X.prog X.w) X.A (.compLoop (.ListComp elt [⟨tg, iter, ifs, 0⟩, ⟨tg1, iter1, ifs1, 0⟩] scope pos) 0 (.ref it) (.ref D) ce) (compPost (model X.prog X.w) X.A X.xe use Qf (.ref D) s3.heap.objs.size) s4 := by
    refine compLoop2_out (hs1 ce) (fun n s' => ∃ i H', Inv (X.blk s3 H3 scope ce fp) [] (wipe σ (own.map (·.2))) H' s' ∧ tn i s'.heap ∧ (∀ b ∈ fp, H' b = none) ∧ W i n H') ?_ m0 ⟨0, H3, I4, st4, nfp, w0⟩
    rintro n s5 ⟨i, H5, I5, st5, n5, w5⟩
    rcases turn i n H5 w5 with ⟨stop, qq⟩ | ⟨go, Nx, hNx, step⟩
    · have td := T.done (X.blk s3 H3 scope ce fp) rfl rfl rfl hc i [] s5 _ H5 (fun _ _ => False) I5 (stat I5 n5) st5 stop
      refine thnF td fun r s6 ⟨hr, I6⟩ => ?_
      subst hr
      -- back in the def's context
      have I7 : Inv X pins σ H5 s6 := I3.call' (ch := fp) I6.os I6.base I6.hok I6.bare fun b hb => ⟨(f3 b hb).1.2.2.2.1, (f3 b hb).1.2.1, (f3 b hb).1.2.2.2.2.1, (f3 b hb).1.2.2.2.2.2⟩
      have nC : H5 s3.heap.objs.size = none := by
        have z : H5 ce.locals = none := I6.free
        rw [cL] at z
        exact z
      obtain ⟨m, hn, _⟩ := I6.loc
      have hn : s6.heap.Ns ce.locals m := hn
      rw [cL] at hn
      exact hRR D s3.heap.objs.size s6 m H5 I7 qq hn (I3.fpOk (Nat.le_refl _) nC)
    · have ti := T.item (X.blk s3 H3 scope ce fp) rfl rfl rfl hc i [] s5 _ H5 (fun _ _ => False) I5 (stat I5 n5) st5 go
      refine thnF ti fun r s6 ⟨u, hr, h6⟩ => ?_
      subst hr
      refine thnF h6 fun _ s7 ⟨x, H7, I7, r7, y7, st7, n7⟩ => ?_
      have I7' := I7.pinned (stat I7 n7) (T.obj _ _ st7)
      refine thnF (pg _ s7 _ H7 x u _ I7' r7 (step x H7 y7)) fun _ s8 ⟨σ8, H8, I8, hw8, q8⟩ => ?_
      refine thnF (pt _ s8 σ8 H8 _ I8 q8) fun b s9 ⟨H9, I9, q9⟩ => ?_
      -- the turn's end, from any slots that know what the block knew at its start
      have fin : ∀ {σ9 : St} {s' : Shared} {H' : Hp}, Inv (X.blk s3 H3 scope ce fp) ([] ++ pinsAt fp s7.heap) σ9 H' s' → (wipe σ (own.map (·.2))).length = σ9.length → (∀ (j : Nat) v, (wipe σ (own.map (·.2)))[j]? = some (some v) → σ9[j]? = some (some v)) → Nx H' →
          ∃ m, m < n ∧ ∃ i H', Inv (X.blk s3 H3 scope ce fp) [] (wipe σ (own.map (·.2))) H' s' ∧ tn i s'.heap ∧ (∀ b ∈ fp, H' b = none) ∧ W i m H' := fun {σ9 s' H'} I' hl hk nx => by
        obtain ⟨m', hm, w'⟩ := hNx H' nx
        have pin' : ∀ b ∈ fp, ∀ o, s7.heap.get? b = some o → s'.heap.get? b = some o ∧ H' b = none := fun b hb o e =>
          let z := I'.pin (b, o) (List.mem_append_right _ (List.mem_append_right _ (mem_pinsAt hb e)))
          ⟨z.1, z.2.1⟩
        refine ⟨m', hm, i + 1, H', (I'.unpinned (pins := [])).weak hl hk, T.keep _ _ _ st7 fun b hb o e => (pin' b hb o e).1, fun b hb => ?_, w'⟩
        obtain ⟨o, e, _⟩ := T.obj _ _ st7 b hb
        exact (pin' b hb o e).2
      have hl8 : (wipe σ (own.map (·.2))).length = σ8.length := by rw [← hw8, wipe_length]
      have hk8 : ∀ (j : Nat) v, (wipe σ (own.map (·.2)))[j]? = some (some v) → σ8[j]? = some (some v) := fun j v e => by
        rw [← hw8] at e
        exact (wipe_some e).1
      have hk9 : ∀ (j : Nat) v, (wipe σ (own.map (·.2)))[j]? = some (some v) → (wipe σ8 vs1)[j]? = some (some v) := fun j v e => by
        rw [← hw8] at e
        obtain ⟨e1, e2⟩ := wipe_some e
        rw [wipe_out fun z => e2 (hv j z)]
        exact e1
      cases b with
      | false =>
        simp only [Bool.false_eq_true, if_false] at q9 ⊢
        exact fin I9 hl8 hk8 q9
      | true =>
        simp only [if_true] at q9 ⊢
        refine thnF (pi1 _ s9 σ8 H9 _ I9 q9) fun xv s10 hx => thnF hx fun itv s11 h11 => ?_
        obtain ⟨it1, fp1, tn1, J1, H11, e1, I11, T1, st11, f11, W1, ⟨m1, w1⟩, turn1⟩ := h11
        subst e1
        -- the inner loop
        have stat1 : ∀ {H' : Hp}, (∀ b ∈ fp1, H' b = none) → ∀ b ∈ fp1, FpOk (X.blk s3 H3 scope ce fp) ([] ++ pinsAt fp s7.heap) H' b := fun hn b hb => ⟨hn b hb, (f11 b hb).2⟩
        have loop1 : codeAny (model X.prog X.w) X.A (.compLoop (.ListComp elt [⟨tg, iter, ifs, 0⟩, ⟨tg1, iter1, ifs1, 0⟩] scope pos) 1 (.ref it1) (.ref D) ce)
            (fun r s' => match r with
              | .ok _ => ∃ m, m < n ∧ ∃ i H', Inv (X.blk s3 H3 scope ce fp) [] (wipe σ (own.map (·.2))) H' s' ∧ tn i s'.heap ∧ (∀ b ∈ fp, H' b = none) ∧ W i m H'
              | .error _ => False) s11 := by
          refine compLoop2_in (fun k s' => ∃ j H', Inv (X.blk s3 H3 scope ce fp) ([] ++ pinsAt fp s7.heap) (wipe σ8 vs1) H' s' ∧ tn1 j s'.heap ∧ (∀ b ∈ fp1, H' b = none) ∧ W1 j k H') ?_ m1 ⟨0, H11, I11.weak (wipe_length _ _) (fun j v e => (wipe_some e).1), st11, fun b hb => (f11 b hb).1, w1⟩
          rintro k s12 ⟨j, H12, I12, st12, n12, w12⟩
          rcases turn1 j k H12 w12 with ⟨stop1, nx1⟩ | ⟨go1, Nx1, hNx1, step1⟩
          · refine thnF (T1.done (X.blk s3 H3 scope ce fp) rfl rfl rfl hc j _ s12 (wipe σ8 vs1) H12 (fun _ _ => False) I12 (stat1 n12) st12 stop1) fun r s13 ⟨hr, I13⟩ => ?_
            subst hr
            exact fin I13 (hl8.trans (wipe_length σ8 vs1).symm) hk9 nx1
          · refine thnF (T1.item (X.blk s3 H3 scope ce fp) rfl rfl rfl hc j _ s12 (wipe σ8 vs1) H12 (fun _ _ => False) I12 (stat1 n12) st12 go1) fun r s13 ⟨u1, hr, h13⟩ => ?_
            subst hr
            refine thnF h13 fun _ s14 ⟨x1, H14, I14, r14, y14, st14, n14⟩ => ?_
            have I14' := I14.pinned (stat1 n14) (T1.obj _ _ st14)
            refine thnF (pg1 _ s14 (wipe σ8 vs1) H14 x1 u1 _ I14' r14 (step1 x1 H14 y14)) fun _ s15 ⟨σ15, H15, I15, hw15, q15⟩ => ?_
            refine thnF (pt1 _ s15 σ15 H15 _ I15 q15) fun b1 s16 ⟨H16, I16, q16⟩ => ?_
            have fin1 : ∀ {s' : Shared} {H' : Hp}, Inv (X.blk s3 H3 scope ce fp) (([] ++ pinsAt fp s7.heap) ++ pinsAt fp1 s14.heap) σ15 H' s' → Nx1 H' → ∃ m, m < k ∧ ∃ j H', Inv (X.blk s3 H3 scope ce fp) ([] ++ pinsAt fp s7.heap) (wipe σ8 vs1) H' s' ∧ tn1 j s'.heap ∧ (∀ b ∈ fp1, H' b = none) ∧ W1 j m H' := fun {s' H'} I' nx => by
              obtain ⟨m', hm, w'⟩ := hNx1 H' nx
              have pin' : ∀ b ∈ fp1, ∀ o, s14.heap.get? b = some o → s'.heap.get? b = some o ∧ H' b = none := fun b hb o e =>
                let z := I'.pin (b, o) (List.mem_append_right _ (List.mem_append_right _ (mem_pinsAt hb e)))
                ⟨z.1, z.2.1⟩
              refine ⟨m', hm, j + 1, H', I'.unpinned.weak (by rw [← hw15, wipe_length]) (fun j v e => by rw [← hw15] at e; exact (wipe_some e).1), T1.keep _ _ _ st14 fun b hb o e => (pin' b hb o e).1, fun b hb => ?_, w'⟩
              obtain ⟨o, e, _⟩ := T1.obj _ _ st14 b hb
              exact (pin' b hb o e).2
            cases b1 with
            | false =>
              simp only [Bool.false_eq_true, if_false] at q16 ⊢
              exact fin1 I16 q16
            | true =>
              simp only [if_true] at q16 ⊢
              refine thnF (pe _ s16 σ15 H16 _ I16 q16) fun z s17 ⟨yv, H17, I17, r17, acc, hD17, hz17, nx⟩ => ?_
              exact app_ok (X := X.blk s3 H3 scope ce fp) I17 hD17 hz17 r17 fun s18 I18 => fin1 I18 nx
        exact compStart1_ok loop1 (T1.self X.A 0 _ _ _ st11 loop1)
  exact codeAny_compStart_list loop (T.self X.A 0 _ _ _ st4 loop)
/-- as a value -/
theorem pe_lc2 {elt tg iter tg1 iter1 : Expr} {ifs ifs1 : List Expr} {scope : Scope} {own : List (Str × Nat)} {vs1 : List Nat} {pos : Pos} {wi wi1 : TI} {g g1 : TG} {tt tt1 : TT} {te : TE} (hc : X.calm = true) (hN : X.N.Nodup) (hi : PI X tg iter wi) (ok : BlkOk X.N X.env.scope scope own) (hv : ∀ i ∈ vs1, i ∈ own.map (·.2))
    (hg : ∀ (s : Shared) (H : Hp) (C : Addr) (cl : List (Str × Addr)) (fp : List Addr), PG (X.blk s H scope (compEnvC scope cl C X.env) fp) tg g) (ht : ∀ (s : Shared) (H : Hp) (C : Addr) (cl : List (Str × Addr)) (fp : List Addr), PTs (X.blk s H scope (compEnvC scope cl C X.env) fp) ifs tt)
    (hi1 : ∀ (s : Shared) (H : Hp) (C : Addr) (cl : List (Str × Addr)) (fp : List Addr), PI (X.blk s H scope (compEnvC scope cl C X.env) fp) tg1 iter1 wi1)
    (hg1 : ∀ (s : Shared) (H : Hp) (C : Addr) (cl : List (Str × Addr)) (fp : List Addr), PG (X.blk s H scope (compEnvC scope cl C X.env) fp) tg1 g1) (ht1 : ∀ (s : Shared) (H : Hp) (C : Addr) (cl : List (Str × Addr)) (fp : List Addr), PTs (X.blk s H scope (compEnvC scope cl C X.env) fp) ifs1 tt1)
    (he : ∀ (s : Shared) (H : Hp) (C : Addr) (cl : List (Str × Addr)) (fp : List Addr), PE (X.blk s H scope (compEnvC scope cl C X.env) fp) elt te) (hs : ∀ x, foldedSetIterable iter X.env x = pure x := by intro _; rfl) (hs1 : ∀ env x, foldedSetIterable iter1 env x = pure x := by intro _ _; rfl) :
    PE X (.ListComp elt [⟨tg, iter, ifs, 0⟩, ⟨tg1, iter1, ifs1, 0⟩] scope pos) (tLc2 wi g tt wi1 g1 tt1 te (own.map (·.2)) vs1) := by
  intro pins s σ H Q I h
  rw [eval_ListComp]
  refine lc2_core hc hN I hi ok hv hg ht he hs hi1 hg1 ht1 hs1 h fun D C s' m H' I' q hn f => ⟨m, hn, fun h'' sb => ?_⟩
  obtain ⟨f0, f1, f2, f3, f4, f5⟩ := f
  exact ⟨.ref D, H', I'.turned (t' := s'.toks) (fun b o hb e => (sb.2 b hb).trans e) f0 f1 f3 f4 f5, rfl, q⟩
end
end L2

namespace L2
open PySem PySem.Spec PyProof.Rows

/-! ### lists of pairs as tables -/
section
variable {κ : Type} [DecidableEq κ]
def valV (kvs : List (κ × V)) (k : κ) : Option V := (kvs.find? fun kv => decide (kv.1 = k)).map (·.2)
/-- in its place, or at the end -/
def putK (kvs : List (κ × V)) (k : κ) (v : V) : List (κ × V) :=
  if (kvs.any fun kv => decide (kv.1 = k)) = true then kvs.map (fun kv => if kv.1 = k then (kv.1, v) else kv) else kvs ++ [(k, v)]
def dropK (kvs : List (κ × V)) (k : κ) : List (κ × V) := kvs.filter fun kv => decide (kv.1 ≠ k)

theorem valV_nil {k : κ} : valV ([] : List (κ × V)) k = none := rfl
theorem valV_pos {p : κ × V} {r : List (κ × V)} {k : κ} (e : p.1 = k) : valV (p :: r) k = some p.2 := by simp [valV, List.find?_cons, e]
theorem valV_neg {p : κ × V} {r : List (κ × V)} {k : κ} (e : ¬ p.1 = k) : valV (p :: r) k = valV r k := by simp [valV, List.find?_cons, e]
theorem RelO.getD {o : Option V} {u : Option Value} {d : V} {d' : Value} (r : RelO o u) (rd : RelV d d') : RelV (o.getD d) (u.getD d') := by
  cases o with
  | none => cases u with
    | none => exact rd
    | some _ => exact (show False from r).elim
  | some _ => cases u with
    | none => exact (show False from r).elim
    | some _ => exact r

/-- raw tables of the same keys -/
theorem KV.val {kvs : List (κ × V)} {vs : List (κ × Value)} (r : KV kvs vs) (k : κ) : RelO (valV kvs k) (valueAt vs k) := by
  unfold KV at r
  induction r with
  | nil => exact True.intro
  | @cons p q ps qs h t ih =>
    obtain ⟨h1, h2⟩ := h
    by_cases e : p.1 = k
    · have e' : q.1 = k := h1.symm.trans e
      have b : valueAt (q :: qs) k = some q.2 := by simp [valueAt, List.find?_cons, e']
      rw [valV_pos e, b]; exact h2
    · have e' : ¬ q.1 = k := fun z => e (h1.trans z)
      have b : valueAt (q :: qs) k = valueAt qs k := by simp [valueAt, List.find?_cons, e']
      rw [valV_neg e, b]; exact ih
theorem KV.any {kvs : List (κ × V)} {vs : List (κ × Value)} (r : KV kvs vs) (k : κ) : (kvs.any fun kv => decide (kv.1 = k)) = vs.any fun kv => decide (kv.1 = k) := by
  unfold KV at r
  induction r with
  | nil => rfl
  | cons h t ih => rw [List.any_cons, List.any_cons, ih, h.1]
theorem KV.drop {kvs : List (κ × V)} {vs : List (κ × Value)} (r : KV kvs vs) (k : κ) : KV (dropK kvs k) (without vs k) := by
  unfold KV at r ⊢
  unfold dropK without
  induction r with
  | nil => exact .nil
  | @cons p q ps qs h t ih =>
    obtain ⟨h1, h2⟩ := h
    rw [List.filter_cons, List.filter_cons]
    by_cases e : p.1 = k
    · have a : ¬ decide (p.1 ≠ k) = true := by simp [e]
      have b : ¬ decide (q.1 ≠ k) = true := by simp [h1.symm.trans e]
      rw [if_neg a, if_neg b]; exact ih
    · have e' : ¬ q.1 = k := fun z => e (h1.trans z)
      have a : decide (p.1 ≠ k) = true := by simp [e]
      have b : decide (q.1 ≠ k) = true := by simp [e']
      rw [if_pos a, if_pos b]; exact .cons ⟨h1, h2⟩ ih
theorem KV.keys {kvs : List (κ × V)} {vs : List (κ × Value)} (r : KV kvs vs) : kvs.map (·.1) = vs.map (·.1) := by
  unfold KV at r
  induction r with
  | nil => rfl
  | cons h t ih => rw [List.map_cons, List.map_cons, ih, h.1]
theorem KV.length {kvs : List (κ × V)} {vs : List (κ × Value)} (r : KV kvs vs) : kvs.length = vs.length := Paired.length r
end


/-! ### a tracked dict, its keys ints and texts or tuples of these -/
/-- raw entries of a dict with tuple keys -/
abbrev KT (H : Hp) : List (List Key × V) → List (List Key × Addr × Value) → Prop := Paired fun p q => p.1 = q.1 ∧ H q.2.1 = some (.tup (p.1.map kV)) ∧ RelV p.2 q.2.2
theorem KT.val {H : Hp} {kvs : List (List Key × V)} {xs : List (List Key × Addr × Value)} (r : KT H kvs xs) (k : List Key) : RelO (valV kvs k) ((atKey xs k).map (·.2)) := by
  induction r with
  | nil => exact True.intro
  | @cons p q ps qs h t ih =>
    obtain ⟨h1, _, h2⟩ := h
    by_cases e : p.1 = k
    · have e' : q.1 = k := h1.symm.trans e
      have b : atKey (q :: qs) k = some q.2 := by simp [atKey, List.find?_cons, e']
      rw [valV_pos e, b]; exact h2
    · have e' : ¬ q.1 = k := fun z => e (h1.trans z)
      have b : atKey (q :: qs) k = atKey qs k := by simp [atKey, List.find?_cons, e']
      rw [valV_neg e, b]; exact ih
section
variable {P : Program} {w : World} {H : Hp} {h : Heap} {a : Addr}
end

/-- what the dict at a holds at the key y -/
def DGet (H : Hp) (a : Addr) (y : V) (r : Option V) : Prop :=
  (∃ kvs k, Rd H a (.dK kvs) ∧ y = kV k ∧ r = valV kvs k) ∨ ∃ kvs k b, Rd H a (.dT kvs) ∧ y = .ref b ∧ H b = some (.tup (k.map kV)) ∧ r = valV kvs k
/-- the heap behind a[y] = v -/
def DPut (H : Hp) (a : Addr) (y v : V) (H' : Hp) : Prop :=
  (∃ kvs k, H a = some (.dK kvs) ∧ y = kV k ∧ kvs.length < sizeLine ∧ H' = upd H a (.dK (putK kvs k v))) ∨
  ∃ kvs k b, H a = some (.dT kvs) ∧ y = .ref b ∧ H b = some (.tup (k.map kV)) ∧ kvs.length < sizeLine ∧ H' = upd H a (.dT (putK kvs k v))
theorem DGet.k {H : Hp} {a : Addr} {kvs : List (Key × V)} {k : Key} (e : H a = some (.dK kvs)) : DGet H a (kV k) (valV kvs k) := .inl ⟨kvs, k, .inl e, rfl, rfl⟩
theorem DGet.t {H : Hp} {a b : Addr} {kvs : List (List Key × V)} {k : List Key} (e : H a = some (.dT kvs)) (eb : H b = some (.tup (k.map kV))) : DGet H a (.ref b) (valV kvs k) := .inr ⟨kvs, k, b, .inl e, rfl, eb, rfl⟩
theorem DPut.k {H : Hp} {a : Addr} {kvs : List (Key × V)} {k : Key} {v : V} (e : H a = some (.dK kvs)) (hl : kvs.length < sizeLine) : DPut H a (kV k) v (upd H a (.dK (putK kvs k v))) := .inl ⟨kvs, k, e, rfl, hl, rfl⟩
theorem DPut.t {H : Hp} {a b : Addr} {kvs : List (List Key × V)} {k : List Key} {v : V} (e : H a = some (.dT kvs)) (eb : H b = some (.tup (k.map kV))) (hl : kvs.length < sizeLine) :
    DPut H a (.ref b) v (upd H a (.dT (putK kvs k v))) := .inr ⟨kvs, k, b, e, rfl, eb, hl, rfl⟩


section
variable {X : Cx} {pins : List (Addr × Obj)} {σ : St} {H : Hp} {s : Shared} {a : Addr} {y v : V} {u r : Value} {o : Option V} {A : Around} {E : Value → Shared → Prop}

theorem Inv.big (I : Inv X pins σ H s) : sysModules < s.heap.objs.size := by
  have h : mainGlobals < s.heap.objs.size := (I.mod.glob.keeps I.bk).lt
  exact Nat.lt_trans (by decide) h

end

section
variable {X : Cx} {pins : List (Addr × Obj)} {σ : St} {H : Hp} {s : Shared} {a : Addr} {kvs : List (Key × V)} {k : Key} {u : Value} {A : Around} {E : Value → Shared → Prop}
end


/-! ### readings and rules -/
/-- the element of a subscription, not a slice -/
def NoSl (i : Expr) : Prop := ∀ ov iv, subscripted i false ov iv = operate [ov, iv] (getItem ov iv)
/-- d[y] -/
def tDGet (td ty : TE) : TE := fun σ H Q => td σ H fun x H1 => ty σ H1 fun y H2 => ∃ a v, x = .ref a ∧ DGet H2 a y (some v) ∧ Q v H2
/-- y in d, y not in d -/
def tDIn (ty td : TE) : TE := fun σ H Q => ty σ H fun y H1 => td σ H1 fun x H2 => ∃ a o, x = .ref a ∧ DGet H2 a y o ∧ Q (.bl o.isSome) H2
def tDNotIn (ty td : TE) : TE := fun σ H Q => ty σ H fun y H1 => td σ H1 fun x H2 => ∃ a o, x = .ref a ∧ DGet H2 a y o ∧ Q (.bl (!o.isSome)) H2
/-- d[y] = v -/
def sDPut (td ty tv : TE) : TS := fun D σ H => tv σ H fun v H1 => td σ H1 fun x H2 => ty σ H2 fun y H3 => ∃ a H4, x = .ref a ∧ DPut H3 a y v H4 ∧ D.nx σ H4
/-- d[y] op= v -/
def sDAug (td ty tv : TE) (rd : V → V → Hp → VK → Prop) : TS := fun D σ H => td σ H fun x H1 => ty σ H1 fun y H2 => ∃ a v, x = .ref a ∧ DGet H2 a y (some v) ∧
  tv σ H2 fun y2 H3 => rd v y2 H3 fun z H4 => ∃ H5, DPut H4 a y z H5 ∧ D.nx σ H5
/-- del d[y] -/
def sDDel (td ty : TE) : TS := fun D σ H => td σ H fun x H1 => ty σ H1 fun y H2 => ∃ a kvs k, x = .ref a ∧ H2 a = some (.dK kvs) ∧ y = kV k ∧ (valV kvs k).isSome = true ∧ D.nx σ (upd H2 a (.dK (dropK kvs k)))

section
variable {X : Cx} {o i e value : Expr} {pos pos' tpos : Pos} {td ty tv : TE}
end


/-! ### displays -/
theorem dt_empty {P : Program} {w : World} {H : Hp} (h : Heap) (hb : sysModules < h.objs.size) : ObjOk P w H (h.push { cls := .type "dict", data := .dict #[] }) h.objs.size (.dT []) :=
  ⟨Nat.zero_le _, beq_eq_false_iff_ne.mpr (Ne.symm (Nat.ne_of_lt hb)), [], .nil, _, #[], 0, Heap.get?_push_size _ rfl, ⟨rfl, rfl, rfl⟩, rfl, rfl, List.nodup_nil⟩
/-- {}, to be a dict of the kind that is wanted -/
def tDNewK : TE := fun _ H Q => ∀ p, H p = none → Q (.ref p) (upd H p (.dK []))
def tDNewT : TE := fun _ H Q => ∀ p, H p = none → Q (.ref p) (upd H p (.dT []))
section
variable {X : Cx} {pos : Pos}
theorem pe_dnewT : PE X (.Dict [] [] pos) tDNewT := fun pins s σ H Q I h =>
  wpAny_Dict_empty ⟨.ref s.heap.objs.size, _, I.laid (a := s.heap.objs.size) (o := .dT []) (t' := s.toks) (fun _ _ q => Heap.get?_push_of_some _ q) (Nat.le_refl _) (dt_empty s.heap I.big), rfl, h _ (I.hok.fresh (Nat.le_refl _))⟩
end

/-- the pairs of a display, from the left -/
def tPairs : List (TE × TE) → St → Hp → (List (V × V) → Hp → Prop) → Prop
  | [], _, H, Q => Q [] H
  | (tk, tv) :: r, σ, H, Q => tk σ H fun x H1 => tv σ H1 fun y H2 => tPairs r σ H2 fun ps H3 => Q ((x, y) :: ps) H3
abbrev VV : List (V × V) → List (Value × Value) → Prop := Paired fun p q => RelV p.1 q.1 ∧ RelV p.2 q.2
def PPs (X : Cx) (pos : Pos) (keys : List (Option Expr)) (values : List Expr) (trs : List (TE × TE)) : Prop :=
  ∀ (pins : List (Addr × Obj)) (s : Shared) (σ : St) (H : Hp) (Q : List (V × V) → Hp → Prop), Inv X pins σ H s → tPairs trs σ H Q →
    wpAny (model X.prog X.w) X.A (evalPairs (pairTrees keys values X.env pos)) (fun vs s' => ∃ ps H', Inv X pins σ H' s' ∧ VV ps vs ∧ Q ps H') X.xe s
def mergeK (kvs more : List (Key × V)) : List (Key × V) := more.foldl (fun acc kv => putK acc kv.1 kv.2) kvs
/-- {k: v, ..} with keys ints and texts; the new dict stands empty while the pairs are made -/
def tDisp (trs : List (TE × TE)) : TE := fun σ H Q => ∀ p, H p = none → tPairs trs σ (upd H p (.dK [])) fun ps H2 => H2 p = some (.dK []) ∧ ∃ kvs : List (Key × V), ps = kvs.map (fun kv => (kV kv.1, kv.2)) ∧ kvs.length ≤ 15 ∧ Q (.ref p) (upd H2 p (.dK (mergeK [] kvs)))
/-! ### methods -/
/-- a method call o.m(e) of a built-in, with one argument: what must be seen of the text -/
structure M1 (X : Cx) (o : Expr) (m : Str) (apos : Pos) (e : Expr) (cpos : Pos) : Prop where
  base : attributeBase o m X.env (eval o X.env) = eval o X.env
  few : ((backTo cpos (starEach [e] X.env)).all (fun x => !x.1) && (backToKw cpos (keywordEach [] X.env)).all (fun x => x.1.isSome)
    && decide (([e] : List Expr).length + ([] : List Keyword).length + (if ([] : List Keyword).isEmpty then 0 else 1) < 30)) = true
  line : (apos.endLine == cpos.line) = true
  trees : backTo cpos (starEach [e] X.env) = [(false, eval e X.env)]
structure M2 (X : Cx) (o : Expr) (m : Str) (apos : Pos) (e f : Expr) (cpos : Pos) : Prop where
  base : attributeBase o m X.env (eval o X.env) = eval o X.env
  few : ((backTo cpos (starEach [e, f] X.env)).all (fun x => !x.1) && (backToKw cpos (keywordEach [] X.env)).all (fun x => x.1.isSome)
    && decide (([e, f] : List Expr).length + ([] : List Keyword).length + (if ([] : List Keyword).isEmpty then 0 else 1) < 30)) = true
  line : (apos.endLine == cpos.line) = true
  trees : backTo cpos (starEach [e, f] X.env) = [(false, eval e X.env), (false, eval f X.env)]

/-- a is a dict, whatever its keys -/
def IsD (H : Hp) (a : Addr) : Prop := (∃ kvs, Rd H a (.dK kvs)) ∨ ∃ kvs, Rd H a (.dT kvs)
section
variable {X : Cx} {pins : List (Addr × Obj)} {σ : St} {H : Hp} {s : Shared} {a : Addr} {y d : V} {u r : Value} {o : Option V} {A : Around} {E : Value → Shared → Prop}
end

def tDGet1 (td ty : TE) : TE := fun σ H Q => td σ H fun x H1 => ∃ a, x = .ref a ∧ IsD H1 a ∧ ty σ H1 fun y H2 => ∃ o, DGet H2 a y o ∧ Q (o.getD .non) H2
def tDGet2 (td ty tx : TE) : TE := fun σ H Q => td σ H fun x H1 => ∃ a, x = .ref a ∧ IsD H1 a ∧ ty σ H1 fun y H2 => tx σ H2 fun z H3 => ∃ o, DGet H3 a y o ∧ Q (o.getD z) H3
/-- d.pop(k): there; d.pop(k, x): there or not -/
def tDPop1 (td ty : TE) : TE := fun σ H Q => td σ H fun x H1 => ∃ a, x = .ref a ∧ IsD H1 a ∧ ty σ H1 fun y H2 => ∃ kvs k v, H2 a = some (.dK kvs) ∧ y = kV k ∧ valV kvs k = some v ∧ Q v (upd H2 a (.dK (dropK kvs k)))
def tDPop2 (td ty tx : TE) : TE := fun σ H Q => td σ H fun x H1 => ∃ a, x = .ref a ∧ IsD H1 a ∧ ty σ H1 fun y H2 => tx σ H2 fun z H3 => ∃ kvs k, H3 a = some (.dK kvs) ∧ y = kV k ∧
  (∀ v, valV kvs k = some v → Q v (upd H3 a (.dK (dropK kvs k)))) ∧ (valV kvs k = none → Q z H3)
section
variable {X : Cx} {o e f : Expr} {apos cpos : Pos} {td ty tx : TE}
end

/-! ### dict(d): a copy -/
section
variable {X : Cx} {pins : List (Addr × Obj)} {σ : St} {H : Hp} {s : Shared} {a : Addr} {kvs : List (Key × V)} {A : Around} {E : Value → Shared → Prop}
end


section
variable {X : Cx} {pins : List (Addr × Obj)} {σ : St} {H : Hp} {s : Shared} {a : Addr} {y : V} {u : Value} {A : Around} {E : Value → Shared → Prop}
end
end L2

namespace L2
open PySem PySem.Spec PyProof.Rows

section
variable {prog : Program} {w : World} {A : Around} {E : Value → Shared → Prop}
end

section
variable {X : Cx}
end
end L2

namespace L2
open PySem PySem.Spec PyProof.Rows

section
variable {X : Cx} {pins : List (Addr × Obj)} {σ : St} {H : Hp} {s : Shared} {h' : Heap}
/-- .. and one new object is laid -/
theorem Inv.turnedNew {t' : Nat} {ch : List Addr} {T : Addr} {ob : HO} (I : Inv X pins σ H s) (k : ∀ b o, b ∉ ch → s.heap.get? b = some o → h'.get? b = some o) (hf : ∀ b ∈ ch, FpOk X pins H b) (hT : s.heap.objs.size ≤ T)
    (new : ObjOk X.prog X.w (upd H T ob) h' T ob) : Inv X pins σ (upd H T ob) { s with heap := h', toks := t' } := by
  have hn : H T = none := I.hok.fresh hT
  have nit : ∀ b u, H b = some u → b ∉ ch := fun b u e z => by
    have q := (hf b z).1
    rw [q] at e; cases e
  refine I.step (g' := s.gens) (d' := s.drawn) (ch := ch) (fun b hb => ⟨(hf b hb).2.2.2.1, (hf b hb).2.1, (hf b hb).2.2.2.2.1, (hf b hb).2.2.2.2.2⟩) (fun b o _ _ hc e _ => k b o hc e) (fun b o _ _ hc e _ => ⟨o.slots, k b o hc e⟩)
    (fun b o _ e n => ?_) (fun b o hc e => ⟨o, k b o hc e⟩) (fun b xs e => ?_) (fun b o u e => ?_) (fun b ps e => ⟨#[], ?_⟩) (fun m hm => ?_) (fun b u e => ?_) I.bare
  · rw [upd_ne (Nat.ne_of_lt (Nat.lt_of_lt_of_le (Heap.lt_size e) hT))]; exact n
  · rw [upd_ne (ne_of_none e hn)]; exact e
  · rw [upd_ne (ne_of_none e hn)]; exact e
  · rw [upd_ne (ne_of_none e hn), e]; simp
  · obtain ⟨o, es, ep, ho, r⟩ := hm
    exact ⟨o, es, ep, k _ o (fun z => (hf _ z).2.1 rfl) ho, r⟩
  · by_cases hb : b = T
    · subst hb
      rw [upd_same] at e
      cases e
      exact new
    · rw [upd_ne hb] at e
      refine (I.hok b u e).stay (fun c v hc q => k c v ?_ q) (fun c q => by rw [upd_ne (ne_of_none q hn)]; exact q) fun c xs q => by rw [upd_ne (ne_of_none q hn)]; exact q
      rcases hc with z | z
      · rw [z]; exact nit b u e
      · exact nit c _ z

/-! ### locking a thing while a statement runs -/
end
/-- the statement runs while the thing at d is locked (read, not written); d and what stands there are the reading's choice -/
def tLock (t : TS) : TS := fun D σ H => ∃ d u, H d = some u ∧ Mut (some u) ∧ ∀ od, t ⟨fun σ' H' => H' d = some (.frz od u) ∧ D.nx σ' (upd H' d u), fun v H' => H' d = some (.frz od u) ∧ D.rt v (upd H' d u), fun σ' H' => H' d = some (.frz od u) ∧ D.bk σ' (upd H' d u), fun σ' H' => H' d = some (.frz od u) ∧ D.ct σ' (upd H' d u)⟩ σ (upd H d (.frz od u))
def tLockE (t : TE) : TE := fun σ H Q => ∃ d u, H d = some u ∧ Mut (some u) ∧ ∀ od, t σ (upd H d (.frz od u)) fun v H' => H' d = some (.frz od u) ∧ Q v (upd H' d u)
section
variable {X : Cx}
/-! ### one iterator just laid -/
end

/-! ### range with a step -/
/-- lo, lo + c, .. (n of them) -/
def Itc (lo c : Int) (n : Nat) : It := ⟨fun i _ => i < n, fun i H x H' => H' = H ∧ x = .int (lo + (i : Nat) * c), fun i _ => n ≤ i⟩
/-- range(i, j, c): small bounds, n items -/
def RgC (i j c : Int) (n : Nat) : Prop := c ≠ 0 ∧ c.natAbs < 1073741824 ∧ Builtin.Range.small i j c = true ∧ Builtin.Range.rangeSize i j c = n
theorem RgC.neg {i j : Int} (ha : -(2 ^ 62) ≤ i) (ha' : i < 2 ^ 62) (hb : -(2 ^ 62) ≤ j) (hb' : j < 2 ^ 62) : RgC i j (-1) (i - j).toNat :=
  ⟨by decide, by decide, PySem.W.small_down ha ha' hb hb', PySem.W.rangeSize_downNat i j⟩
def iRng3 (ta : TA) : TI := fun σ H R => ta σ H fun vs H1 => ∃ (i j c : Int) (n : Nat), vs = [.int i, .int j, .int c] ∧ RgC i j c n ∧ R (Itc i c n) H1
section
variable {X : Cx} {tg : Expr}
end
/-! ### reversed(list) -/
/-- the list at a (n items at the start, which the loop leaves there), from its end -/
def Itv (K : PySem.W.Frag) (a : Addr) (n : Nat) : It :=
  ⟨fun i H => i < n ∧ ∃ (xs : List V) (x : V), SqL K H a xs ∧ xs[n - 1 - i]? = some x, fun i H x H' => H' = H ∧ ∀ xs, SqL K H a xs → xs[n - 1 - i]? = some x, fun i _ => n ≤ i⟩
def iRev (K : PySem.W.Frag) (ta : TA) : TI := fun σ H R => ta σ H fun vs H1 => ∃ (a : Addr) (xs : List V), vs = [.ref a] ∧ SqL K H1 a xs ∧ R (Itv K a xs.length) H1
section
variable {X : Cx} {tg : Expr}
end

/-! ### a str -/
def Its (x : Str) : It := ⟨fun i _ => i < x.cps.size, fun i H v H' => H' = H ∧ ∃ c, x.cps[i]? = some c ∧ v = .str ⟨#[c]⟩, fun i _ => x.cps.size ≤ i⟩
def iStr (te : TE) : TI := fun σ H R => te σ H fun v H1 => ∃ x, v = .str x ∧ R (Its x) H1
/-! ### a dict's keys: any dict's entries -/
section
variable {prog : Program} {w : World} {A : Around} {E : Value → Shared → Prop} {s : Shared}
end

/-! ### a locked dict -/
section
variable {X : Cx} {pins : List (Addr × Obj)} {σ : St} {H : Hp} {s : Shared} {d : Addr} {o : Obj}
end

/-- the keys of the locked dict at d, in their order -/
def Itk (d : Addr) (o : Obj) (kvs : List (Key × V)) : It :=
  ⟨fun i H => H d = some (.frz o (.dK kvs)) ∧ i < kvs.length, fun i H x H' => H' = H ∧ ∃ k v, kvs[i]? = some (k, v) ∧ x = kV k, fun i H => H d = some (.frz o (.dK kvs)) ∧ kvs.length ≤ i⟩
/-- .. of tuple keys: the key's own tuple -/
def Itkt (d : Addr) (o : Obj) (kvs : List (List Key × V)) : It :=
  ⟨fun i H => H d = some (.frz o (.dT kvs)) ∧ i < kvs.length, fun i H x H' => H' = H ∧ ∃ (k : List Key) (v : V) (q : Addr), kvs[i]? = some (k, v) ∧ x = .ref q ∧ H q = some (.tup (k.map kV)), fun i H => H d = some (.frz o (.dT kvs)) ∧ kvs.length ≤ i⟩
/-- the values -/
def Itd (d : Addr) (o : Obj) (kvs : List (Key × V)) : It :=
  ⟨fun i H => H d = some (.frz o (.dK kvs)) ∧ i < kvs.length, fun i H x H' => H' = H ∧ ∃ k, kvs[i]? = some (k, x), fun i H => H d = some (.frz o (.dK kvs)) ∧ kvs.length ≤ i⟩
/-- the pairs, each a new tuple -/
def Iti (d : Addr) (o : Obj) (kvs : List (Key × V)) : It :=
  ⟨fun i H => H d = some (.frz o (.dK kvs)) ∧ i < kvs.length, fun i H x H' => ∃ T k v, kvs[i]? = some (k, v) ∧ x = .ref T ∧ H T = none ∧ H' = upd H T (.tup [kV k, v]), fun i H => H d = some (.frz o (.dK kvs)) ∧ kvs.length ≤ i⟩
section
variable {P : Program} {w : World} {K : PySem.W.Frag} {tg : Expr} {d : Addr} {o : Obj} {es : Array DictEntry} {ep : Nat}
end

/-! ### for k in d, d.keys(), d.values(), d.items() -/
/-- the dict is locked (tLock, or by the caller) -/
def iKeys (td : TE) : TI := fun σ H R => td σ H fun x H1 => ∃ d o, x = .ref d ∧ ((∃ kvs, H1 d = some (.frz o (.dK kvs)) ∧ R (Itk d o kvs) H1) ∨ ∃ kvs, H1 d = some (.frz o (.dT kvs)) ∧ R (Itkt d o kvs) H1)
def iVals (td : TE) : TI := fun σ H R => td σ H fun x H1 => ∃ d o kvs, x = .ref d ∧ H1 d = some (.frz o (.dK kvs)) ∧ R (Itd d o kvs) H1
def iItems (td : TE) : TI := fun σ H R => td σ H fun x H1 => ∃ d o kvs, x = .ref d ∧ H1 d = some (.frz o (.dK kvs)) ∧ R (Iti d o kvs) H1
def iKeysM (td : TE) : TI := fun σ H R => td σ H fun x H1 => ∃ d o kvs, x = .ref d ∧ H1 d = some (.frz o (.dK kvs)) ∧ R (Itk d o kvs) H1
section
variable {X : Cx} {tg e : Expr} {td : TE} {apos cpos : Pos}
end

/-! ### enumerate(list) -/
/-- the list at a as it stands at each turn, each item in a new pair -/
def Ite (K : PySem.W.Frag) (a : Addr) : It :=
  ⟨fun i H => ∃ (xs : List V) (x : V), SqL K H a xs ∧ xs[i]? = some x, fun i H v H' => ∃ T x, v = .ref T ∧ H T = none ∧ H' = upd H T (.tup [.int (i : Nat), x]) ∧ ∀ xs, SqL K H a xs → xs[i]? = some x, fun i H => ∃ xs : List V, SqL K H a xs ∧ xs.length ≤ i⟩
theorem turn_enum {P : Program} {w : World} {K : PySem.W.Frag} {elts : List Expr} {kk : Nat} {tpos : Pos} (a e it : Addr) :
    Turn P w K (.Tuple elts kk tpos) (Ite K a) [e, it] e (fun i h => (∃ old, IsEnum h e it ((i : Nat) : Int) old) ∧ h.IsListIter it a i ∧ e ≠ it) where
  mem := by simp
  obj := fun i h st b hb => by
    obtain ⟨⟨old, he⟩, ⟨o, ho, hc, hd⟩, _⟩ := st
    have e' : b = e ∨ b = it := by simpa using hb
    rcases e' with z | z
    · rw [z]; exact ⟨_, he, fun v q => nomatch q⟩
    · rw [z]; exact ⟨o, ho, fun v q => by rw [hd] at q; cases q⟩
  keep := fun i h h' st k => let ⟨⟨old, he⟩, hi, hne⟩ := st; ⟨⟨old, k e (by simp) _ he⟩, hi.at fun o q => k it (by simp) o q, hne⟩
  item := by
    intro X hP hw hK hc i pins s σ H E I hf st hg
    subst hP hw hK
    obtain ⟨⟨old, he⟩, hit, hne⟩ := st
    obtain ⟨xs, x, hq, hx⟩ := hg
    obtain ⟨its, rv, p, hz⟩ := I.list hq
    obtain ⟨u, hu, ru⟩ := rv.get hx
    have hel : e < s.heap.objs.size := Heap.lt_size he
    have hil : it < s.heap.objs.size := by obtain ⟨_, q, _⟩ := hit; exact Heap.lt_size q
    refine wpAny_pyNext_enum_item he hit p.isList (x := u) (by simpa using hu) hne fun h' ho hit' hT hsz hk => ?_
    refine ⟨_, rfl, wpAny_letOwnedTupleGo_enum (s := { s with heap := h', toks := s.toks + 1 }) ho fun h'' he' sb => ?_⟩
    have hT2 : h''.get? s.heap.objs.size = some { cls := .type "tuple", data := .seq #[.int i s.toks, u] } := (sb.2 _ (Nat.ne_of_gt hel)).trans hT
    have new : ObjOk X.prog X.w (upd H s.heap.objs.size (.tup [.int (i : Nat), x])) h'' s.heap.objs.size (.tup [.int (i : Nat), x]) :=
      ⟨by show 2 ≤ sizeLine; decide, [.int i s.toks, u], .cons ⟨_, rfl⟩ (.cons ru .nil), ⟨_, hT2, rfl, _, rfl⟩⟩
    have I1 : Inv X pins σ (upd H s.heap.objs.size (.tup [.int (i : Nat), x])) { s with heap := h'', toks := s.toks + 1 } :=
      I.turnedNew (ch := [e, it]) (fun b ob hb q => (sb.2 b (fun z => hb (by simp [z]))).trans (hk b ob (fun z => hb (by simp [z])) (fun z => hb (by simp [z])) q)) hf (Nat.le_refl _) new
    refine ⟨.ref s.heap.objs.size, _, I1, rfl, ⟨_, x, rfl, I.hok.fresh (Nat.le_refl _), rfl, fun ys hy => by rw [I.list_inj hy hq]; exact hx⟩, ⟨⟨u, ?_⟩, hit'.at fun o q => (sb.2 it (Ne.symm hne)).trans q, hne⟩, fun b hb => ?_⟩
    · have e1 : ((i + 1 : Nat) : Int) = (i : Int) + 1 := by omega
      rw [e1]; exact he'
    · have hb' : b < s.heap.objs.size := by
        have e' : b = e ∨ b = it := by simpa using hb
        rcases e' with z | z
        · rw [z]; exact hel
        · rw [z]; exact hil
      rw [upd_ne (Nat.ne_of_lt hb')]
      exact (hf b hb).1
  done := by
    intro X hP hw hK hc i pins s σ H E I hf st hg
    subst hP hw hK
    obtain ⟨⟨old, he⟩, hit, hne⟩ := st
    obtain ⟨xs, hq, hx⟩ := hg
    obtain ⟨its, rv, p, hz⟩ := I.list hq
    obtain ⟨f0, f1, f2, f3, f4, f5⟩ := hf it (by simp)
    have hl := rv.length
    exact wpAny_pyNext_enum_end (I.ok.hd hc) he hit p.isList (by simp; omega) fun h' eb => ⟨rfl, I.turned (t' := s.toks) (fun b o hb q => eb b o hb q) f0 f1 f3 f4 f5⟩
  self := fun A i s Q E st h => let ⟨⟨_, he⟩, _⟩ := st; wpAny_pyIter_enum he h
def iEnum (K : PySem.W.Frag) (ta : TA) : TI := fun σ H R => ta σ H fun vs H1 => ∃ a xs, vs = [.ref a] ∧ SqL K H1 a xs ∧ R (Ite K a) H1
theorem pi_enum {X : Cx} {e : Expr} {ta : TA} {p pos tpos : Pos} {elts : List Expr} {kk : Nat} (hg : Gl X "enumerate") (hm : X.mg "enumerate" = none) (ha : PA X [e] ta) (hs : starEach [e] X.env = [(false, eval e X.env)] := by rfl) :
    PI X (.Tuple elts kk tpos) (.Call (.Name "enumerate" p) [e] [] pos) (iEnum X.K ta) := by
  intro pins s σ H R I h
  refine Call_ (ld_blt I hg hm boot_enumerate (PyProof.Rows.callWith_type1 (thn (ha pos pins s σ H _ I h) fun us s1 ⟨vs, H1, I1, r1, q1⟩ => ?_) hs rfl))
  obtain ⟨a, xs, ex, hq, q⟩ := q1
  subst ex
  cases r1 with
  | cons r rr =>
    cases rr
    cases r
    obtain ⟨its, rv, p', hz⟩ := I1.list hq
    refine call_enumerate_list p'.isList fun h' he hit hsz hk => wpAny_pyIter_enum he ?_
    have I2 : Inv X pins σ H1 { s1 with heap := h' } := I1.kept (t' := s1.toks) hk
    refine ⟨s1.heap.objs.size + 1, [s1.heap.objs.size + 1, s1.heap.objs.size], _, _, H1, rfl, I2, turn_enum a (s1.heap.objs.size + 1) s1.heap.objs.size, ⟨⟨.none, he⟩, hit, Nat.succ_ne_self _⟩, fun b hb => ?_, q⟩
    have e' : b = s1.heap.objs.size + 1 ∨ b = s1.heap.objs.size := by simpa using hb
    have hle : s1.heap.objs.size ≤ b := by
      rcases e' with z | z
      · rw [z]; exact Nat.le_add_right _ _
      · rw [z]; exact Nat.le_refl _
    exact I1.fpOk hle (I1.hok.fresh hle)
/-! ### zip(list, list) -/
/-- the lists at a and b as they stand at each turn, the items in new pairs -/
def Itz (K : PySem.W.Frag) (a b : Addr) : It :=
  ⟨fun i H => ∃ (xs ys : List V) (x y : V), SqL K H a xs ∧ SqL K H b ys ∧ xs[i]? = some x ∧ ys[i]? = some y,
    fun i H v H' => ∃ T x y, v = .ref T ∧ H T = none ∧ H' = upd H T (.tup [x, y]) ∧ (∀ xs, SqL K H a xs → xs[i]? = some x) ∧ ∀ ys, SqL K H b ys → ys[i]? = some y,
    fun i H => ∃ xs ys : List V, SqL K H a xs ∧ SqL K H b ys ∧ (xs.length ≤ i ∨ ys.length ≤ i)⟩
def iZip (K : PySem.W.Frag) (ta : TA) : TI := fun σ H R => ta σ H fun vs H1 => ∃ a b xs ys, vs = [.ref a, .ref b] ∧ SqL K H1 a xs ∧ SqL K H1 b ys ∧ R (Itz K a b) H1
end L2

section 
namespace Bits
open PySem PyProof.Rows

end Bits
end 

section 
namespace TL
open PySem PySem.Builtin PySem.Builtin.Str PySem.StrLaws

abbrev tl (x : Str) : List Nat := x.cps.toList
theorem tl_mk (l : List Nat) : tl ⟨l.toArray⟩ = l := rfl
/-! ### the list functions -/
/-- S stands at the head of l -/
def pre (S l : List Nat) : Bool := l.take S.length == S
/-- l cut at each S from the left; k signs are still to be passed over -/
def spl (S : List Nat) : Nat → List Nat → List Nat → List (List Nat)
  | _, acc, [] => [acc]
  | 0, acc, c :: r => if pre S (c :: r) = true then acc :: spl S (S.length - 1) [] r else spl S 0 (acc ++ [c]) r
  | k + 1, acc, _ :: r => spl S k acc r
/-- what stands before the first S, and behind it -/
def par (S : List Nat) : List Nat → List Nat → Option (List Nat × List Nat)
  | _, [] => none
  | acc, c :: r => if pre S (c :: r) = true then some (acc, (c :: r).drop S.length) else par S (acc ++ [c]) r

/-! ### the model's split and partition are these -/
/-! ### computing spl and par -/
/-- joined lists -/
def joinL (S : List Nat) : List (List Nat) → List Nat
  | [] => []
  | [p] => p
  | p :: q :: r => p ++ (S ++ joinL S (q :: r))
/-! ### digits -/
/-- the signs of a number -/
def numL (n : Nat) : List Nat := (Nat.toDigits 10 n).map Char.toNat
/-! ### words: x.split() -/
def wstep (st : List (List Nat) × List Nat) (c : Nat) : List (List Nat) × List Nat :=
  if Unicode.isSpace c = true then (if st.2 = [] then st else (st.1 ++ [st.2], [])) else (st.1, st.2 ++ [c])
def wfin (st : List (List Nat) × List Nat) : List (List Nat) := if st.2 = [] then st.1 else st.1 ++ [st.2]
end TL
end 

namespace L2
open PySem PySem.Spec PyProof.Rows

/-- a new list of texts, tracked -/
def rNewStrs (ys : List Str) : Hp → VK → Prop := fun H Q => ∀ p, H p = none → Q (.ref p) (upd H p (.lst (ys.map V.str)))

section
variable {X : Cx} {pins : List (Addr × Obj)} {σ : St} {H : Hp} {s : Shared} {Q : VK}
end

section
variable {X : Cx}

/-! ### of a text alone -/
/-! ### of a text and a text -/
theorem mt1 {id : String} {g : Str → Str → V} (rule : ∀ (a b : Str) (t u : Tok) (s : Shared) (Q : Value → Shared → Prop), (∀ (v : Value) (k : Nat), RelV (g a b) v → Q v { s with toks := k }) →
    wpAny (model X.prog X.w) X.A (call (.builtin id) [.str a t, .str b u]) Q X.xe s) : MtR X id (fun x xs H Q => ∃ a b, x = .str a ∧ xs = [.str b] ∧ Q (g a b) H) := by
  intro pins s σ H x xs v us Q I rx rs h
  obtain ⟨a, b, rfl, rfl, h⟩ := h
  obtain ⟨t, rfl⟩ := rx
  cases rs with
  | cons r1 rs =>
    cases rs
    obtain ⟨u, rfl⟩ := r1
    exact rule a b t u s _ fun v k r => ⟨g a b, H, I.tok k, r, h⟩
end

section
variable {X : Cx} {o e : Expr} {to te : TE}
def tM0 (r : V → List V → Hp → VK → Prop) (to : TE) : TE := fun σ H Q => to σ H fun x H1 => (∃ a, x = .str a) ∧ r x [] H1 Q
def tM1 (r : V → List V → Hp → VK → Prop) (to te : TE) : TE := fun σ H Q => to σ H fun x H1 => (∃ a, x = .str a) ∧ te σ H1 fun y H2 => r x [y] H2 Q
end
end L2

namespace L2
open PySem PySem.Spec PyProof.Rows

section
variable {X : Cx}
end

/-! ### slices of a text -/
/-- a part, clipped, as the text's slice reckons it -/
def clipS (n d : Nat) : Option Int → Int
  | none => (d : Int)
  | some i => max 0 (min (if i < 0 then i + (n : Int) else i) (n : Int))
/-- z[lo:hi] -/
def cutS (z : Str) (lo hi : Option Int) : Str :=
  ⟨((z.cps.toList.drop (HT.sIx z.length 0 lo)).take (HT.sIx z.length z.length hi - HT.sIx z.length 0 lo)).toArray⟩
def rSlS : V → Option Int → Option Int → Hp → VK → Prop := fun x lo hi H Q => ∃ z, x = .str z ∧ z.length ≤ sizeLine ∧ Q (.str (cutS z lo hi)) H
end L2

namespace Att
open PySem PySem.W PySem.Calls PyProof.Rows

/-! ### the script -/
theorem ints_of_wellAll {P : Params} {h : Heap} : ∀ (ns : List Int) (vs : List Value), WellAll P h vs (ns.map WData.int) → IntsAre vs ns := by
  intro ns
  induction ns with
  | nil =>
    intro vs w
    rw [List.map_nil] at w
    cases w
    exact .nil
  | cons n ns ih =>
    intro vs w
    rw [List.map_cons] at w
    cases w with
    | cons a b =>
      cases a
      exact .cons _ _ (ih _ b)

theorem script_of {l : OpenLaw} {n : Nat} (hn : l.most = some n) {P : Params} {h : Heap} {args : List WData} {vals : List Value}
    (hpre : l.row.toRowW.claim.pre args = true) (hwl : WellAll P h vals args) :
    ∃ a vs ns, vals = [Value.ref a] ∧ args = [WData.list (ns.map WData.int)] ∧ h.get? a = some { cls := .type "list", data := .seq vs.toArray } ∧ IntsAre vs ns ∧ ns.length ≤ n := by
  have hsh : WShape.hasAll [] args [.list .int] = true := (pre_splitW hpre).1
  have hc : l.pre.holds [] { args := args } = true := (pre_splitW hpre).2
  obtain ⟨d, r, rfl, h1, h2⟩ := hasAllW_cons hsh
  obtain rfl := hasAllW_nil h2
  obtain ⟨xs, rfl, h3⟩ := hasW_list h1
  obtain ⟨ns, rfl⟩ := items_int h3
  have hlen : ns.length ≤ n := by
    unfold OpenLaw.pre at hc
    have h4 : (WTm.not (.lt (.lit (.int (n : Int))) (.len (.arg 0)))).holds [] { args := [.list (ns.map .int)] } = true := by
      have h4 := (holds_andW hc).1
      rw [hn] at h4
      exact h4
    have h5 := condW_of h4 (w_not (w_lt w_lit (w_len_list (w_arg rfl))))
    rw [List.length_map] at h5
    refine Nat.le_of_not_lt fun q => ?_
    have q' : (n : Int) < ((ns.length : Nat) : Int) := by omega
    first
      | (rw [decide_eq_true q'] at h5; exact absurd h5 (by decide))
      | (simp at h5; omega)
  cases hwl with
  | cons w1 w2 =>
    cases w2
    cases w1 with
    | list ho hall => exact ⟨_, _, ns, rfl, rfl, ho, ints_of_wellAll ns _ hall, hlen⟩

theorem post_true (l : OpenLaw) (args : List WData) : l.row.toRowW.claim.post args (.bool true) args = true :=
  postW_of (r := l.row.toRowW) (X := (true == true))
    (show WShape.has [] (.bool true) .bool = true by first | rfl | decide | simp [WShape.has, WShape.arms, WShape.armsAll])
    (show (WTm.eq .res (.lit (.bool true))).value [] { args := args, res := some (.bool true), after := args } = some (.bool (true == true)) from w_eq_bool (w_res rfl) w_lit) rfl

/-! ### the attachment: holds_open's last premise (the goal 'hc' behind k_head) from a wpAny of the law's body -/
/-! ### rules over ANY heap (no ledger) from facts about the written part K: the library's own take a ledger (News) for what they write -/
section
variable {prog : Program} {w : World} {A : Around} {E : Value → Shared → Prop} {s : Shared} {K : Frag}

/-! the whole heap as the ledger: makes every rule that writes through a ledger a rule over any heap -/
def noObjs (h : Heap) : Heap := { h with objs := #[] }
def ledger (h : Heap) (L d : Addr) : List (Addr × Obj) := (List.range h.objs.size).filterMap fun a => if a = L ∨ a = d then none else (h.get? a).map fun o => (a, o)
end
end Att

namespace L2
open PySem PySem.Spec PyProof.Rows

theorem vals_ints : ∀ {vs : List Value} {ns : List Int}, IntsAre vs ns → Vals (ns.map V.int) vs
  | _, _, .nil => .nil
  | _, _, .cons n t h => .cons ⟨t, rfl⟩ (vals_ints h)

/-- nothing is tracked but the script, known to the object (or it is an object of the module) -/
def Only (H : Hp) : Prop := ∀ b, H b = none ∨ ∃ o xs, H b = some (.frz o (.lst xs))

/-- THE HEAD: the law's promise, at the heap behind the top. F, the promise of the law's def, may use that base is part of the heap (so K.In base, base.Ns mainGlobals mg stand in Mod) -/
theorem law_call {P : Program} {w : World} {K : PySem.W.Frag} {mg mb : Str → Option Value} {CX : CXT} {k : Nat} {fa a : Addr} {fd : FuncData} {x : Str} {sp : Sp} {s₁ : Shared} {vs : List Value} {ns : List Int}
    (KX : K.In s₁.heap) (hns : s₁.heap.Ns mainGlobals mg) (hb : s₁.heap.Ns builtinsNs mb) (hbb : ∀ x : Str, x ≠ "__name__" → mb x = bootBuiltins x) (hlim : s₁.heap.NoLimit) (hg : s₁.gens = #[])
    (ha : s₁.heap.get? a = some { cls := .type "list", data := .seq vs.toArray }) (hi : IntsAre vs ns) (hl : ns.length ≤ sizeLine) (hr : Room k callerA)
    (F : ∀ base : Heap, K.In base → base.Ns mainGlobals mg → FnOk P w K mg base CX k fa fd [x] sp) (hbind : ∀ (s : Shared) (u : Value), BindsTo s fd ⟨[u], []⟩ [(x, u)])
    (hsp : ∀ H : Hp, Only H → SqL K H a (ns.map V.int) → sp [.ref a] H (fun v _ => v = .bl true) fun _ _ _ => False)
    (hCX : ∀ H e s', CX [] H s₁ (fun _ _ _ => False) e s' → False) :
    codeAny (model P w) callerA (.call (.ref fa) ⟨[.ref a], []⟩) (fun r s' => r = .ok (.ret (.bool true)) ∧ OldK s₁.heap s'.heap ∧ s'.os = s₁.os ∧ AllBare s'.gens) s₁ := by
  have rv := vals_ints hi
  have lenV := hi.length
  -- from an abstract heap in which nothing but the script may be tracked
  have core : ∀ H : Hp, Only H → SqL K H a (ns.map V.int) → HOk P w H s₁.heap → (∀ b, H b ≠ none → b = a) → (H a ≠ none → K.lookup a = none) →
      codeAny (model P w) callerA (.call (.ref fa) ⟨[.ref a], []⟩) (fun r s' => r = .ok (.ret (.bool true)) ∧ OldK s₁.heap s'.heap ∧ s'.os = s₁.os ∧ AllBare s'.gens) s₁ := by
    intro H hO hS hok hA hK
    have base_of : ∀ {b : Addr} {o : Obj}, s₁.heap.get? b = some o → H b = none → (hidT s₁.heap H).get? b = some o := fun e n => hidT_get e n
    have noA : ∀ {b : Addr} {o : Obj} {es : Array DictEntry} {ep : Nat}, s₁.heap.get? b = some o → o.data = .dict es ep → H b = none := fun {b o es ep} e d => by
      cases q : H b with
      | none => rfl
      | some u =>
        have e' : b = a := hA b (by rw [q]; simp)
        subst e'
        rw [ha] at e; cases e
        have d' : Data.seq vs.toArray _ = Data.dict es ep := d
        cases d'
    have nsK : ∀ {b : Addr} {m : Str → Option Value}, s₁.heap.Ns b m → (hidT s₁.heap H).Ns b m := fun {b m} ⟨o, es, ep, e, d, r⟩ => ⟨o, es, ep, base_of e (noA e d), d, r⟩
    have hKb : K.In (hidT s₁.heap H) := fun b o e => base_of (KX b o e) (by
      cases q : H b with
      | none => rfl
      | some u =>
        have e' : b = a := hA b (by rw [q]; simp)
        subst e'
        rw [hK (by rw [q]; simp)] at e; cases e)
    have hM : Mod K mg (hidT s₁.heap H) := ⟨hKb, nsK hns, ⟨mb, nsK hb, hbb⟩, let ⟨mc, h1, h2⟩ := hlim; ⟨mc, nsK h1, h2⟩⟩
    have e0 : Env0 P w K mg (hidT s₁.heap H) callerA [] s₁ H := ⟨rfl, hM, fun b o e => of_hidT e, Nat.le_of_eq (hidT_size _ _), trivial, fun b hb => absurd (show b ∈ ([] : List Addr) from hb) (by simp), hok, .of_eq hg⟩
    refine codeAny_mono ((F _ hKb (nsK hns)).run callerA [] s₁ H ⟨[.ref a], []⟩ [.ref a] [.ref a] _ _ hr e0 (hbind s₁ (.ref a)) (.cons rfl .nil) (hsp H hO hS)) fun r s' h => ?_
    cases r with
    | error e => exact (hCX H e s' h).elim
    | ok fl =>
      cases fl with
      | next => exact False.elim h
      | brk => exact False.elim h
      | cont => exact False.elim h
      | ret u =>
        obtain ⟨v, H', os, bare, un, hok', r', q⟩ := h
        have q' : v = .bl true := q
        subst q'
        obtain rfl : u = Value.bool true := r'
        refine ⟨rfl, OldK.of_keep fun b o e => ?_, os, bare⟩
        cases q : H b with
        | none => exact un.keep b o e q (by intro z; exact absurd (show b ∈ ([] : List Addr) from z) (by simp)) (by simp)
        | some u =>
          rcases hO b with z | ⟨ob, xs, z⟩
          · rw [q] at z; cases z
          · have z2 := un.frzs b ob _ z
            obtain ⟨e1, _⟩ := hok b _ z
            obtain ⟨e2, _⟩ := hok' b _ z2
            rw [e] at e1; cases e1
            exact e2
  cases hk : K.lookup a with
  | some o =>
    -- the script is one of the module's own objects
    have e := KX a o hk
    rw [ha] at e
    cases e
    refine core (fun _ => none) (fun _ => .inl rfl) (.inr ⟨_, vs.toArray, _, hk, rfl, rfl, rfl, by rw [List.size_toArray, lenV]; exact hl, by simpa using rv⟩) (fun b u z => by have z' : (none : Option HO) = some u := z; cases z') (fun b z => absurd rfl z) fun z => absurd rfl z
  | none =>
    refine core (fun b => if b = a then some (.frz { cls := .type "list", data := .seq vs.toArray } (.lst (ns.map V.int))) else none) (fun b => ?_) (.inl (.inr ⟨{ cls := .type "list", data := .seq vs.toArray }, if_pos rfl⟩)) (fun b u z => ?_) (fun b z => ?_) fun _ => hk
    · by_cases hb : b = a
      · exact .inr ⟨_, _, if_pos hb⟩
      · exact .inl (if_neg hb)
    · by_cases hb : b = a
      · have z' := (if_pos hb).symm.trans z
        cases z'
        subst hb
        exact ⟨ha, by rw [List.length_map]; exact hl, vs, _, rv, ha⟩
      · have z' := (if_neg hb).symm.trans z
        cases z'
    · by_cases hb : b = a
      · exact hb
      · exact absurd (if_neg hb) z
end L2

namespace L2
open PySem PySem.Spec PyProof.Rows

abbrev KOf {K : PySem.W.Frag} {h : Heap} (_ : K.In h) : PySem.W.Frag := K

end L2

/- THE LAST THEOREM (shape; LID, My.* are yours):
   My.Adr: a structure of the addresses that your layer names (classes, functions); My.Txt K t: a structure (Prop) of the equations over K;
   My.txt_mk : {K} {implicit addresses ..} (e1 : nsIn K mainGlobals "law" = some (some (.ref f))) (e2 : K.lookup f = some ⟨oc, od, .func (fnOf "law" "law" params body scope dV kV doc pm an cdv ct), sl⟩) (e3 : codeIn K cdv "law" = true) .. : ∃ t, My.Txt K t

set_option maxRecDepth 100000 in
set_option maxHeartbeats 0 in
theorem PySem.Challenge.cw_LID_holds : PySem.Challenge.rw_LID.Holds := by
  w_on; o_law; k_head; (case hw => w_witness2)
  k_fill
  refine L2.walk_of (l := PySem.Challenge.rw_LID) (n := 63) (k := 40) (x := "script") (CX := fun w => ..) (sp := fun _ => My.sp_law) rfl (by decide) rfl ⟨rfl, by decide, by decide⟩ (fun w h Y => PySem.W.kIn_of Y) ?F ?S ?C
  case F =>
    intro w mg fa h KX G hmg
    have T : ∃ t, My.Txt (L2.KOf KX) t := by
      dsimp only [L2.KOf]                          -- K must stand as «<heap const> w.params» for k_is
      refine' My.txt_mk ?e1 ?e2 ?e3 ..
      (case e1 => PySem.W.k_is)                    -- in the order: a name -> its address -> its object -> its parts
      (case e2 => PySem.W.k_is)
      ..
    obtain ⟨t, T⟩ := T
    have e0 := hmg.symm.trans (PySem.W.mg_of KX G T.law)
    cases e0                                       -- fa is the law's own address
    exact ⟨_, fun s u => .of_eq rfl, fun base kb nb => My.law_fn T kb nb⟩     -- if «.of_eq rfl» comes too early: refine' ⟨_, ?b, fun base kb nb => My.law_fn T kb nb⟩; exact fun s u => .of_eq rfl
  case S => exact fun w H a ns hl hO hS => ..
  case C => exact ..
(the tactic k_is has no namespace: write k_is) -/

/-! SHORT WORDS over the layer: a def of the text, its body, what a loop and a test want. -/
namespace L2
open PySem PySem.Spec PyProof.Rows

/-! ### the text by places -/
/-- the j-th statement of a class's body -/
def inClass (s : Stmt) (j : Nat) : Stmt := match s with
  | .ClassDef _ _ _ body _ _ _ _ _ _ _ => body.getD j (.Pass ⟨0, 0, 0, 0⟩)
  | _ => .Pass ⟨0, 0, 0, 0⟩
def defArgs (s : Stmt) : Arguments := match s with
  | .FunctionDef _ a _ _ _ _ _ _ _ _ => a
  | _ => { posonlyargs := [], args := [], vararg := none, kwonlyargs := [], kw_defaults := [], kwarg := none, defaults := [] }
def defBody (s : Stmt) : List Stmt := match s with
  | .FunctionDef _ _ b _ _ _ _ _ _ _ => b
  | _ => []
def defScope (s : Stmt) : Scope := match s with
  | .FunctionDef _ _ _ _ _ _ sc _ _ _ => sc
  | _ => { kind := .function, names := [], isGenerator := false, isCoroutine := false }

/-! ### no exception leaves a def -/
abbrev CX0 : CXT := fun _ _ _ _ _ _ => False
abbrev E0 : XK := fun _ _ _ => False
theorem pass0 {X : Cx} : Passes CX0 X E0 := fun _ _ _ _ _ _ _ h => h.elim

/-! ### a def (or method) of the text as it stands behind the top -/
structure Fun (K : PySem.W.Frag) (x qual : Str) (st : Stmt) (f : Addr) (fd : FuncData) : Prop where
  ex : ∃ (oc : Value) (od : Option Addr) (kV doc pm : Value) (an : Option Addr) (cdv ct : Value) (osl : Array (Option Value)),
    fd = PySem.W.fnOf x qual (defArgs st) (defBody st) (defScope st) .none kV doc pm an cdv ct ∧ K.lookup f = some ⟨oc, od, .func fd, osl⟩ ∧ PySem.W.codeIn K cdv qual = true
  kp : PySem.W.keepIn K (.ref f) = true
section
variable {P : Program} {w : World} {K : PySem.W.Frag} {mg : Str → Option Value} {base : Heap}
/-- THE RULE for a def: its body as a term of rules, and the reading of that term -/
theorem Fun.ok {x qual : Str} {st : Stmt} {f : Addr} {fd : FuncData} {N ps : List Str} {k : Nat} {sp : Sp} (F : Fun K x qual st f fd) (S : FnScope N ps (defScope st)) (len : ∀ vs H Q E, sp vs H Q E → vs.length = ps.length)
    (hbody : ∀ (cdv : Value) (A : Around) (outer : List Env) (s : Shared) (H : Hp) (vs : List V) (Q : VK) (E : XK), Room k (A.deeper (envOfC qual (defScope st) s.heap.objs.size f cdv)) → sp vs H Q E →
      ∃ t, PSs (cxOf CX0 P w K mg base N qual (defScope st) f cdv A outer s H E).nox (defBody st) t ∧ t { nx := fun _ H' => Q .non H', rt := Q } (start N vs) H) : FnOk P w K mg base CX0 (k + 1) f fd ps sp := by
  obtain ⟨oc, od, kV, doc, pm, an, cdv, ct, osl, rfl, lk, hcd⟩ := F.ex
  refine fn_of lk hcd S len fun A outer s H vs Q E hr hsp => ?_
  obtain ⟨t, h, q⟩ := hbody cdv A outer s H vs Q E hr hsp
  exact ⟨t, h.nox, q⟩
/-- how its arguments bind (no defaults): h is «fun _ _ _ _ _ _ us hl => match us, hl with | [_, _], _ => rfl», one _ a parameter -/
theorem Fun.binds {x qual : Str} {st : Stmt} {f : Addr} {fd : FuncData} {ps : List Str} (F : Fun K x qual st f fd)
    (h : ∀ (kV doc pm : Value) (an : Option Addr) (cdv ct : Value) (us : List Value), us.length = ps.length → bindArgs (PySem.W.fnOf x qual (defArgs st) (defBody st) (defScope st) .none kV doc pm an cdv ct) ⟨us, []⟩ = pure (ps.zip us)) : Binds K fd ps [] := by
  obtain ⟨oc, od, kV, doc, pm, an, cdv, ct, osl, rfl, lk, hcd⟩ := F.ex
  exact .all (h kV doc pm an cdv ct)
theorem fun_mk {x qual : Str} {st : Stmt} {f : Addr} {oc : Value} {od an : Option Addr} {osl : Array (Option Value)} {kV doc pm cdv ct : Value} (l : K.lookup f = some ⟨oc, od, .func (PySem.W.fnOf x qual (defArgs st) (defBody st) (defScope st) .none kV doc pm an cdv ct), osl⟩)
    (c : PySem.W.codeIn K cdv qual = true) (k : PySem.W.keepIn K (.ref f) = true) : Fun K x qual st f (PySem.W.fnOf x qual (defArgs st) (defBody st) (defScope st) .none kV doc pm an cdv ct) := ⟨⟨oc, od, kV, doc, pm, an, cdv, ct, osl, rfl, l, c⟩, k⟩
end
/-! ### expressions in short: the name that stands in the i-th slot -/
section
variable {X : Cx}
theorem pv (i : Nat) {x : Str} {pos : Pos} (hN : X.N[i]? = some x := by rfl) (hv : Vis X.env.scope x := by first | exact Or.inl rfl | exact Or.inr (Or.inl rfl) | exact Or.inr (Or.inr rfl)) (hd : (x == ("__debug__" : Str)) = false := by decide)
    (hcd : (x == ("__classdict__" : Str)) = false := by decide) : PE X (.Name x pos) (tVar i) := pe_var hN hv hd hcd
end

/-! ### tests -/
theorem iteF {A B : Prop} (h : B) : if false = true then A else B := by
  rw [if_neg Bool.false_ne_true]
  exact h
theorem iteT {A B : Prop} (h : A) : if true = true then A else B := by
  rw [if_pos rfl]
  exact h
/-! ### heaps -/
/-- all that was tracked is as it was -/
def Same (H H' : Hp) : Prop := ∀ b o, H b = some o → H' b = some o
theorem Same.refl (H : Hp) : Same H H := fun _ _ h => h
theorem Same.trans {H H1 H2 : Hp} (a : Same H H1) (b : Same H1 H2) : Same H H2 := fun c o h => b c o (a c o h)
theorem Same.free {H H' : Hp} (e : Same H H') {l : Addr} (h : H' l = Option.none) : H l = Option.none := by
  cases q : H l with
  | none => rfl
  | some o =>
    rw [e l o q] at h
    cases h
theorem Same.seq {K : PySem.W.Frag} {H H' : Hp} {a : Addr} {xs : List V} (e : Same H H') (h : SqL K H a xs) : SqL K H' a xs := by
  rcases h with (h | ⟨o, h⟩) | h
  · exact .inl (.inl (e _ _ h))
  · exact .inl (.inr ⟨o, e _ _ h⟩)
  · exact .inr h

/-! ### a dict's pairs: keys that differ -/
section
variable {κ : Type} [DecidableEq κ]
end
/-! ### lists -/
theorem nd_ix {α : Type} {l : List α} (hN : l.Nodup) {i j : Nat} {x : α} (a : l[i]? = some x) (b : l[j]? = some x) : i = j := by
  obtain ⟨h1, e1⟩ := List.getElem?_eq_some_iff.mp a
  obtain ⟨h2, e2⟩ := List.getElem?_eq_some_iff.mp b
  exact (List.getElem_inj hN).mp (e1.trans e2.symm)
end L2

/-! MIRRORS: an expression, a statement read as a plain function over data -/
namespace MD
open PySem PySem.Spec L2

abbrev Msk := Addr → Bool
def hid (W : Msk) (H : Hp) : Hp := fun a => if W a = true then none else H a
def jn (Z O : Msk) : Msk := fun a => Z a || O a
def adm (p : Addr) (W : Msk) : Msk := fun a => W a || decide (a = p)
def noM : Msk := fun _ => false

theorem hid_eq {W : Msk} {H : Hp} {a : Addr} {o : HO} : hid W H a = some o ↔ W a = false ∧ H a = some o := by
  unfold hid
  cases h : W a <;> simp
theorem hid_same {W : Msk} {H H' : Hp} (e : Same H H') : Same (hid W H) (hid W H') := fun b o h => by
  rw [hid_eq] at h ⊢
  exact ⟨h.1, e b o h.2⟩
theorem hid_sub {W : Msk} {H : Hp} : Same (hid W H) H := fun b o h => (hid_eq.mp h).2
theorem hid_mono {W W' : Msk} {H : Hp} (h : ∀ a, W a = true → W' a = true) : Same (hid W' H) (hid W H) := fun b o q => by
  rw [hid_eq] at q ⊢
  refine ⟨?_, q.2⟩
  cases e : W b with
  | false => rfl
  | true => rw [h b e] at q; cases q.1
theorem hid_none {H : Hp} : Same H (hid noM H) := fun b o h => hid_eq.mpr ⟨rfl, h⟩

theorem same_tup {K : PySem.W.Frag} {H H' : Hp} {a : Addr} {xs : List V} (e : Same H H') (h : SqT K H a xs) : SqT K H' a xs := by
  rcases h with (h | ⟨o, h⟩) | h
  · exact .inl (.inl (e _ _ h))
  · exact .inl (.inr ⟨o, e _ _ h⟩)
  · exact .inr h

/-- a tuple that is tracked, or a module's own -/
def Tq (K : PySem.W.Frag) (H : Hp) (a : Addr) (xs : List V) : Prop := H a = some (.tup xs) ∨ ∃ (o : Obj) (its : Array Value) (n : Nat), K.lookup a = some o ∧ o.cls = .type "tuple" ∧ o.data = .seq its n ∧ its.size ≤ sizeLine ∧ Vals xs its.toList
theorem Tq.sq {K : PySem.W.Frag} {H : Hp} {a : Addr} {xs : List V} (h : Tq K H a xs) : SqT K H a xs := h.elim (fun z => .inl (.inl z)) (fun z => .inr z)
theorem same_tq {K : PySem.W.Frag} {H H' : Hp} {a : Addr} {xs : List V} (e : Same H H') (h : Tq K H a xs) : Tq K H' a xs := h.elim (fun z => .inl (e _ _ z)) (fun z => .inr z)
/-! ### data: what a value is worth, objects of own classes too -/
inductive D where
  | none
  | bool (b : Bool)
  | int (i : Int)
  | str (x : Str)
  | list (l : List D)
  | tuple (l : List D)
  | obj (C : Addr) (ns : List Str) (l : List D)
  | dict (ks : List (List Key)) (l : List D)
  /-- a def of the module, by its name -/
  | fn (x : Str)
  /-- an exception that is handled, of the class at C -/
  | exc (a C : Addr)
/-- an exception's object -/
def XOb (o : Obj) (C : Addr) : Prop := (o.cls = .ref C ∧ o.dict = none) ∧ ∃ vs, o.data = .fields vs ∧ vs[2]? = some .none
mutual
inductive Dp (K : PySem.W.Frag) (H : Hp) : V → D → Prop
  | non : Dp K H .non .none
  | bl (b : Bool) : Dp K H (.bl b) (.bool b)
  | int (i : Int) : Dp K H (.int i) (.int i)
  | str (x : Str) : Dp K H (.str x) (.str x)
  | lst {a : Addr} {xs : List V} {ds : List D} : SqL K H a xs → DpAll K H xs ds → Dp K H (.ref a) (.list ds)
  | tup {a : Addr} {xs : List V} {ds : List D} : Tq K H a xs → DpAll K H xs ds → Dp K H (.ref a) (.tuple ds)
  | obj {a C dx : Addr} {fs : List (Str × V)} {ds : List D} : H a = some (.ins C dx fs) → DpAll K H (fs.map (·.2)) ds → Dp K H (.ref a) (.obj C (fs.map (·.1)) ds)
  | dct {a : Addr} {kvs : List (List Key × V)} {ds : List D} : Rd H a (.dT kvs) → DpAll K H (kvs.map (·.2)) ds → Dp K H (.ref a) (.dict (kvs.map (·.1)) ds)
  | fn {a : Addr} {x : Str} : PySem.W.nsIn K mainGlobals x = some (some (.ref a)) → Dp K H (.ref a) (.fn x)
  | exc {a C : Addr} {o : Obj} : H a = some (.frz o (.own a)) → XOb o C → Dp K H (.ref a) (.exc a C)
inductive DpAll (K : PySem.W.Frag) (H : Hp) : List V → List D → Prop
  | nil : DpAll K H [] []
  | cons {v : V} {vs : List V} {d : D} {ds : List D} : Dp K H v d → DpAll K H vs ds → DpAll K H (v :: vs) (d :: ds)
end
mutual
/-- as plain data -/
def D.pd : D → PySem.PyData
  | .none => .none
  | .bool b => .bool b
  | .int i => .int i
  | .str x => .str x
  | .list l => .list (D.pds l)
  | .tuple l => .tuple (D.pds l)
  | .obj _ _ _ => .none
  | .dict _ _ => .none
  | .fn _ => .none
  | .exc _ _ => .none
def D.pds : List D → List PySem.PyData
  | [] => []
  | d :: ds => d.pd :: D.pds ds
end
mutual
/-- without objects -/
def D.pure : D → Bool
  | .list l => D.pures l
  | .tuple l => D.pures l
  | .obj _ _ _ => false
  | .dict _ _ => false
  | .fn _ => false
  | .exc _ _ => false
  | _ => true
def D.pures : List D → Bool
  | [] => true
  | d :: ds => d.pure && D.pures ds
end
mutual
theorem dp_pd {K : PySem.W.Frag} {H : Hp} : ∀ (d : D) (v : V), d.pure = true → Dp K H v d → L2.Dp K H v d.pd
  | .none, _, _, h => by cases h; rw [D.pd]; exact .non
  | .bool b, _, _, h => by cases h; rw [D.pd]; exact .bl b
  | .int i, _, _, h => by cases h; rw [D.pd]; exact .int i
  | .str x, _, _, h => by cases h; rw [D.pd]; exact .str x
  | .list ds, _, p, h => by
    cases h with
    | lst hs ha => rw [D.pd]; exact .lst hs (dpa_pd ds _ (by simpa [D.pure] using p) ha)
  | .tuple ds, _, p, h => by
    cases h with
    | tup hs ha => rw [D.pd]; exact .tup hs.sq (dpa_pd ds _ (by simpa [D.pure] using p) ha)
  | .obj _ _ _, _, p, _ => by simp [D.pure] at p
  | .dict _ _, _, p, _ => by simp [D.pure] at p
  | .fn _, _, p, _ => by simp [D.pure] at p
  | .exc _ _, _, p, _ => by simp [D.pure] at p
theorem dpa_pd {K : PySem.W.Frag} {H : Hp} : ∀ (ds : List D) (vs : List V), D.pures ds = true → DpAll K H vs ds → L2.DpAll K H vs (D.pds ds)
  | [], _, _, h => by cases h; rw [D.pds]; exact .nil
  | d :: ds, _, p, h => by
    simp only [D.pures, Bool.and_eq_true] at p
    cases h with
    | cons h1 h2 => rw [D.pds]; exact .cons (dp_pd d _ p.1 h1) (dpa_pd ds _ p.2 h2)
end
def okD (d : D) : Bool := d.pure && SeqAt.shaped d.pd
def deq (d e : D) : Bool := PySem.PyData.eqv d.pd e.pd
section
variable {K : PySem.W.Frag} {H H' : Hp}
mutual
theorem dp_mono (e : Same H H') : ∀ (d : D) (v : V), Dp K H v d → Dp K H' v d
  | .none, _, h => by cases h; exact .non
  | .bool b, _, h => by cases h; exact .bl b
  | .int i, _, h => by cases h; exact .int i
  | .str x, _, h => by cases h; exact .str x
  | .list ds, _, h => by
    cases h with
    | lst hs ha => exact .lst (e.seq hs) (dpa_mono e ds _ ha)
  | .tuple ds, _, h => by
    cases h with
    | tup hs ha => exact .tup (same_tq e hs) (dpa_mono e ds _ ha)
  | .obj C ns ds, _, h => by
    cases h with
    | obj hs ha => exact .obj (e _ _ hs) (dpa_mono e ds _ ha)
  | .dict ks ds, _, h => by
    cases h with
    | dct hs ha => exact .dct (hs.elim (fun q => .inl (e _ _ q)) fun ⟨o, q⟩ => .inr ⟨o, e _ _ q⟩) (dpa_mono e ds _ ha)
  | .fn _, _, h => by cases h with | fn h => exact .fn h
  | .exc _ _, _, h => by cases h with | exc h1 h2 => exact .exc (e _ _ h1) h2
theorem dpa_mono (e : Same H H') : ∀ (ds : List D) (vs : List V), DpAll K H vs ds → DpAll K H' vs ds
  | [], _, h => by cases h; exact .nil
  | d :: ds, _, h => by
    cases h with
    | cons h1 h2 => exact .cons (dp_mono e d _ h1) (dpa_mono e ds _ h2)
end
theorem Dpm {d : D} {v : V} (h : Dp K H v d) (e : Same H H') : Dp K H' v d := dp_mono e d v h
theorem Dpam {ds : List D} {vs : List V} (h : DpAll K H vs ds) (e : Same H H') : DpAll K H' vs ds := dpa_mono e ds vs h
end

/-! ### data without lists -/
mutual
def flat : D → Bool
  | .list _ => false
  | .dict _ _ => false
  | .obj _ _ ds => flats ds
  | .tuple ds => flats ds
  | _ => true
def flats : List D → Bool
  | [] => true
  | d :: ds => flat d && flats ds
end
/-- the hidden addresses hold lists -/
def Mu : HO → Prop
  | .lst _ => True
  | .dT _ => True
  | _ => False
def Dom (W : Msk) (H : Hp) : Prop := ∀ a, W a = true → ∃ o, H a = some o ∧ Mu o
theorem Dom.grow {W : Msk} {H H' : Hp} (h : Dom W H) (e : Same H H') : Dom W H' := fun a q => let ⟨xs, z, m⟩ := h a q; ⟨xs, e a _ z, m⟩
theorem Dom.free {W : Msk} {H : Hp} (h : Dom W H) {p : Addr} (z : H p = none) : W p = false := by
  cases e : W p with
  | false => rfl
  | true => obtain ⟨xs, q, _⟩ := h p e; rw [z] at q; cases q
section
variable {K : PySem.W.Frag} {H : Hp} {W : Msk}
theorem tup_hid (hW : Dom W H) {a : Addr} {xs : List V} (h : Tq K H a xs) : Tq K (hid W H) a xs := by
  rcases h with h | h
  · refine .inl (hid_eq.mpr ⟨?_, h⟩)
    cases q : W a with
    | false => rfl
    | true => obtain ⟨ys, z, m⟩ := hW a q; rw [h] at z; cases z; exact absurd m (fun z => z)
  · exact .inr h
mutual
theorem dp_flat (hW : Dom W H) : ∀ (d : D) (v : V), flat d = true → Dp K H v d → Dp K (hid W H) v d
  | .none, _, _, h => by cases h; exact .non
  | .bool b, _, _, h => by cases h; exact .bl b
  | .int i, _, _, h => by cases h; exact .int i
  | .str x, _, _, h => by cases h; exact .str x
  | .list ds, _, f, h => by simp [flat] at f
  | .dict ks ds, _, f, h => by simp [flat] at f
  | .tuple ds, _, f, h => by
    cases h with
    | tup hs ha => exact .tup (tup_hid hW hs) (dpa_flat hW ds _ (by simpa [flat] using f) ha)
  | .obj C ns ds, _, f, h => by
    cases h with
    | obj hs ha =>
      refine .obj (hid_eq.mpr ⟨?_, hs⟩) (dpa_flat hW ds _ (by simpa [flat] using f) ha)
      cases q : W _ with
      | false => rfl
      | true =>
        obtain ⟨ys, z, m⟩ := hW _ q
        rw [hs] at z
        cases z
        exact absurd m (fun z => z)
  | .fn _, _, _, h => by cases h with | fn h => exact .fn h
  | .exc _ C, _, _, h => by
    cases h with
    | exc hs hc =>
      refine .exc (hid_eq.mpr ⟨?_, hs⟩) hc
      cases q : W _ with
      | false => rfl
      | true =>
        obtain ⟨ys, z, m⟩ := hW _ q
        rw [hs] at z
        cases z
        exact absurd m (fun z => z)
theorem dpa_flat (hW : Dom W H) : ∀ (ds : List D) (vs : List V), flats ds = true → DpAll K H vs ds → DpAll K (hid W H) vs ds
  | [], _, _, h => by cases h; exact .nil
  | d :: ds, _, f, h => by
    simp [flats] at f
    cases h with
    | cons h1 h2 => exact .cons (dp_flat hW d _ f.1 h1) (dpa_flat hW ds _ f.2 h2)
end
end

/-! ### lists of data -/
section
variable {K : PySem.W.Frag} {H : Hp}
theorem DpAll_len : ∀ {vs : List V} {ds : List D}, DpAll K H vs ds → vs.length = ds.length
  | _, _, .nil => rfl
  | _, _, .cons _ t => by simp [DpAll_len t]
theorem DpAll_get : ∀ {vs : List V} {ds : List D} {i : Nat} {d : D}, DpAll K H vs ds → ds[i]? = some d → ∃ v, vs[i]? = some v ∧ Dp K H v d
  | _, _, _, _, .nil, h => by simp at h
  | _, _, 0, _, .cons h _, e => by simp at e; subst e; exact ⟨_, rfl, h⟩
  | _, _, i + 1, d, .cons _ t, e => by
    obtain ⟨v, h1, h2⟩ := DpAll_get (i := i) (d := d) t (by simpa using e)
    exact ⟨v, by simpa using h1, h2⟩
theorem DpAll_app : ∀ {vs ws : List V} {ds es : List D}, DpAll K H vs ds → DpAll K H ws es → DpAll K H (vs ++ ws) (ds ++ es)
  | _, _, _, _, .nil, s => s
  | _, _, _, _, .cons r t, s => .cons r (DpAll_app t s)
theorem DpAll_take : ∀ {vs : List V} {ds : List D} (n : Nat), DpAll K H vs ds → DpAll K H (vs.take n) (ds.take n)
  | _, _, 0, _ => .nil
  | _, _, _ + 1, .nil => .nil
  | _, _, n + 1, .cons r t => .cons r (DpAll_take n t)
theorem DpAll_drop : ∀ {vs : List V} {ds : List D} (n : Nat), DpAll K H vs ds → DpAll K H (vs.drop n) (ds.drop n)
  | _, _, 0, r => r
  | _, _, _ + 1, .nil => .nil
  | _, _, n + 1, .cons _ t => DpAll_drop n t
theorem DpAll_rev : ∀ {vs : List V} {ds : List D}, DpAll K H vs ds → DpAll K H vs.reverse ds.reverse
  | _, _, .nil => .nil
  | _, _, .cons r t => by
    simp only [List.reverse_cons]
    exact DpAll_app (DpAll_rev t) (.cons r .nil)
theorem DpAll_ints : ∀ {vs : List V} {ns : List Int}, DpAll K H vs (ns.map .int) → vs = ns.map V.int
  | _, [], h => by cases h; rfl
  | _, n :: ns, h => by
    have h : DpAll K H _ (D.int n :: ns.map .int) := h
    cases h with
    | cons h1 h2 => cases h1; rw [DpAll_ints h2]; rfl
theorem DpAll_bls : ∀ {vs : List V} {ns : List Bool}, DpAll K H vs (ns.map .bool) → vs = ns.map V.bl
  | _, [], h => by cases h; rfl
  | _, n :: ns, h => by
    have h : DpAll K H _ (D.bool n :: ns.map .bool) := h
    cases h with
    | cons h1 h2 => cases h1; rw [DpAll_bls h2]; rfl
theorem DpAll_ofInts : ∀ (ns : List Int), DpAll K H (ns.map V.int) (ns.map .int)
  | [] => .nil
  | n :: ns => .cons (.int n) (DpAll_ofInts ns)
theorem Dp_list {v : V} {ds : List D} (h : Dp K H v (.list ds)) : ∃ a xs, v = .ref a ∧ SqL K H a xs ∧ DpAll K H xs ds := by
  cases h with
  | lst h1 h2 => exact ⟨_, _, rfl, h1, h2⟩
theorem Dp_tupq {v : V} {ds : List D} (h : Dp K H v (.tuple ds)) : ∃ a xs, v = .ref a ∧ Tq K H a xs ∧ DpAll K H xs ds := by
  cases h with
  | tup h1 h2 => exact ⟨_, _, rfl, h1, h2⟩
theorem Dp_tup {v : V} {ds : List D} (h : Dp K H v (.tuple ds)) : ∃ a xs, v = .ref a ∧ SqT K H a xs ∧ DpAll K H xs ds := by
  obtain ⟨a, xs, e, q, z⟩ := Dp_tupq h
  exact ⟨a, xs, e, q.sq, z⟩
theorem Dp_int {v : V} {i : Int} (h : Dp K H v (.int i)) : v = .int i := by cases h; rfl
theorem Dp_bool {v : V} {i : Bool} (h : Dp K H v (.bool i)) : v = .bl i := by cases h; rfl
end

/-! ### data that a def has for itself: which lists of it are its own -/
inductive Tr where
  | leaf (d : D)
  | lst (l : List Tr)
  | tup (l : List Tr)
  | obj (C : Addr) (ns : List Str) (l : List Tr)
  | dct (ks : List (List Key)) (l : List Tr)
mutual
def Tr.d : Tr → D
  | .leaf d => d
  | .lst l => .list (Tr.ds l)
  | .tup l => .tuple (Tr.ds l)
  | .obj C ns l => .obj C ns (Tr.ds l)
  | .dct ks l => .dict ks (Tr.ds l)
def Tr.ds : List Tr → List D
  | [] => []
  | t :: ts => t.d :: Tr.ds ts
end
/-- a list of one's own, of any data -/
def Tr.fl (l : List D) : Tr := .lst (l.map .leaf)
theorem Tr.ds_fl : ∀ l : List D, Tr.ds (l.map .leaf) = l
  | [] => by simp [Tr.ds]
  | d :: l => by simp [Tr.ds, Tr.d, Tr.ds_fl l]
theorem Tr.fl_d (l : List D) : (Tr.fl l).d = .list l := by unfold Tr.fl; rw [Tr.d, Tr.ds_fl]
mutual
/-- v bears the tree; as: the addresses of its own lists; M: what its leaves don't reach -/
inductive Lk (K : PySem.W.Frag) (H : Hp) (M : Msk) : V → List Addr → Tr → Prop
  | leaf {v : V} {d : D} : Dp K (hid M H) v d → Lk K H M v [] (.leaf d)
  | lst {a : Addr} {vs : List V} {as : List Addr} {l : List Tr} : H a = some (.lst vs) → Lks K H M vs as l → Lk K H M (.ref a) (a :: as) (.lst l)
  | tup {a : Addr} {vs : List V} {as : List Addr} {l : List Tr} : H a = some (.tup vs) → Lks K H M vs as l → Lk K H M (.ref a) as (.tup l)
  | obj {a C dx : Addr} {fs : List (Str × V)} {as : List Addr} {l : List Tr} : H a = some (.ins C dx fs) → Lks K H M (fs.map (·.2)) as l → Lk K H M (.ref a) as (.obj C (fs.map (·.1)) l)
  | dct {a : Addr} {kvs : List (List Key × V)} {as : List Addr} {l : List Tr} : H a = some (.dT kvs) → Lks K H M (kvs.map (·.2)) as l → Lk K H M (.ref a) (a :: as) (.dct (kvs.map (·.1)) l)
inductive Lks (K : PySem.W.Frag) (H : Hp) (M : Msk) : List V → List Addr → List Tr → Prop
  | nil : Lks K H M [] [] []
  | cons {v : V} {vs : List V} {as bs : List Addr} {t : Tr} {ts : List Tr} : Lk K H M v as t → Lks K H M vs bs ts → Lks K H M (v :: vs) (as ++ bs) (t :: ts)
end
section
variable {K : PySem.W.Frag} {H H' : Hp} {M M' : Msk}
mutual
theorem lk_mono (e : Same H H') (e2 : Same (hid M H) (hid M' H')) : ∀ (T : Tr) (v : V) (as : List Addr), Lk K H M v as T → Lk K H' M' v as T
  | .leaf d, _, _, h => by cases h with | leaf h => exact .leaf (Dpm h e2)
  | .lst l, _, _, h => by cases h with | lst h1 h2 => exact .lst (e _ _ h1) (lks_mono e e2 l _ _ h2)
  | .tup l, _, _, h => by cases h with | tup h1 h2 => exact .tup (e _ _ h1) (lks_mono e e2 l _ _ h2)
  | .obj C ns l, _, _, h => by cases h with | obj h1 h2 => exact .obj (e _ _ h1) (lks_mono e e2 l _ _ h2)
  | .dct ks l, _, _, h => by cases h with | dct h1 h2 => exact .dct (e _ _ h1) (lks_mono e e2 l _ _ h2)
theorem lks_mono (e : Same H H') (e2 : Same (hid M H) (hid M' H')) : ∀ (l : List Tr) (vs : List V) (as : List Addr), Lks K H M vs as l → Lks K H' M' vs as l
  | [], _, _, h => by cases h; exact .nil
  | t :: ts, _, _, h => by cases h with | cons h1 h2 => exact .cons (lk_mono e e2 t _ _ h1) (lks_mono e e2 ts _ _ h2)
end
theorem lk_obj {v : V} {as : List Addr} {C : Addr} {ns : List Str} {l : List Tr} (h : Lk K H M v as (.obj C ns l)) : ∃ a dx fs, v = .ref a ∧ H a = some (.ins C dx fs) ∧ fs.map (·.1) = ns ∧ Lks K H M (fs.map (·.2)) as l := by
  cases h with | obj h1 h2 => exact ⟨_, _, _, rfl, h1, rfl, h2⟩
theorem lk_dct {v : V} {bs : List Addr} {ks : List (List Key)} {l : List Tr} (h : Lk K H M v bs (.dct ks l)) : ∃ a kvs as, v = .ref a ∧ bs = a :: as ∧ H a = some (.dT kvs) ∧ kvs.map (·.1) = ks ∧ Lks K H M (kvs.map (·.2)) as l := by
  cases h with | dct h1 h2 => exact ⟨_, _, _, rfl, rfl, h1, rfl, h2⟩
mutual
theorem lk_det : ∀ (T : Tr) (v : V) (as bs : List Addr), Lk K H M v as T → Lk K H M' v bs T → as = bs
  | .leaf d, _, _, _, h, g => by cases h; cases g; rfl
  | .lst l, _, _, _, h, g => by
    cases h with
    | lst h1 h2 =>
      cases g with
      | lst g1 g2 => rw [h1] at g1; cases g1; rw [lks_det l _ _ _ h2 g2]
  | .tup l, _, _, _, h, g => by
    cases h with
    | tup h1 h2 =>
      cases g with
      | tup g1 g2 => rw [h1] at g1; cases g1; rw [lks_det l _ _ _ h2 g2]
  | .obj C ns l, _, _, _, h, g => by
    obtain ⟨a, dx, fs, e1, h1, e2, h2⟩ := lk_obj h
    obtain ⟨a', dx', fs', e1', g1, e2', g2⟩ := lk_obj g
    subst e1
    cases e1'
    rw [h1] at g1
    cases g1
    exact lks_det l _ _ _ h2 g2
  | .dct ks l, _, _, _, h, g => by
    obtain ⟨a, fs, as, e1, e0, h1, e2, h2⟩ := lk_dct h
    obtain ⟨a', fs', as', e1', e0', g1, e2', g2⟩ := lk_dct g
    subst e1
    cases e1'
    rw [h1] at g1
    cases g1
    rw [e0, e0', lks_det l _ _ _ h2 g2]
theorem lks_det : ∀ (l : List Tr) (vs : List V) (as bs : List Addr), Lks K H M vs as l → Lks K H M' vs bs l → as = bs
  | [], _, _, _, h, g => by cases h; cases g; rfl
  | t :: ts, _, _, _, h, g => by
    cases h with
    | cons h1 h2 =>
      cases g with
      | cons g1 g2 => rw [lk_det t _ _ _ h1 g1, lks_det ts _ _ _ h2 g2]
end
mutual
theorem lk_det2 {K' : PySem.W.Frag} : ∀ (T : Tr) (v : V) (as bs : List Addr), Lk K' H M v as T → Lk K H M' v bs T → as = bs
  | .leaf d, _, _, _, h, g => by cases h; cases g; rfl
  | .lst l, _, _, _, h, g => by
    cases h with
    | lst h1 h2 =>
      cases g with
      | lst g1 g2 => rw [h1] at g1; cases g1; rw [lks_det2 l _ _ _ h2 g2]
  | .tup l, _, _, _, h, g => by
    cases h with
    | tup h1 h2 =>
      cases g with
      | tup g1 g2 => rw [h1] at g1; cases g1; rw [lks_det2 l _ _ _ h2 g2]
  | .obj C ns l, _, _, _, h, g => by
    obtain ⟨a, dx, fs, e1, h1, e2, h2⟩ := lk_obj h
    obtain ⟨a', dx', fs', e1', g1, e2', g2⟩ := lk_obj g
    subst e1
    cases e1'
    rw [h1] at g1
    cases g1
    exact lks_det2 l _ _ _ h2 g2
  | .dct ks l, _, _, _, h, g => by
    obtain ⟨a, fs, as, e1, e0, h1, e2, h2⟩ := lk_dct h
    obtain ⟨a', fs', as', e1', e0', g1, e2', g2⟩ := lk_dct g
    subst e1
    cases e1'
    rw [h1] at g1
    cases g1
    rw [e0, e0', lks_det2 l _ _ _ h2 g2]
theorem lks_det2 {K' : PySem.W.Frag} : ∀ (l : List Tr) (vs : List V) (as bs : List Addr), Lks K' H M vs as l → Lks K H M' vs bs l → as = bs
  | [], _, _, _, h, g => by cases h; cases g; rfl
  | t :: ts, _, _, _, h, g => by
    cases h with
    | cons h1 h2 =>
      cases g with
      | cons g1 g2 => rw [lk_det2 t _ _ _ h1 g1, lks_det2 ts _ _ _ h2 g2]
end
mutual
theorem lk_dp {N : Msk} (hN : Dom N H) (hM : ∀ a, N a = true → M a = true) : ∀ (T : Tr) (v : V) (as : List Addr), (∀ a ∈ as, N a = false) → Lk K H M v as T → Dp K (hid N H) v T.d
  | .leaf d, _, _, _, h => by cases h with | leaf h => rw [Tr.d]; exact Dpm h (hid_mono hM)
  | .lst l, _, _, n, h => by
    cases h with
    | lst h1 h2 =>
      rw [Tr.d]
      exact .lst (.inl (.inl (hid_eq.mpr ⟨n _ List.mem_cons_self, h1⟩))) (lks_dp hN hM l _ _ (fun a ha => n a (List.mem_cons_of_mem _ ha)) h2)
  | .tup l, _, _, n, h => by
    cases h with
    | tup h1 h2 =>
      rw [Tr.d]
      exact .tup (tup_hid hN (.inl h1)) (lks_dp hN hM l _ _ n h2)
  | .obj C ns l, _, _, n, h => by
    obtain ⟨a, dx, fs, e1, h1, e2, h2⟩ := lk_obj h
    subst e1 e2
    rw [Tr.d]
    refine .obj (dx := dx) (hid_eq.mpr ⟨?_, h1⟩) (lks_dp hN hM l _ _ n h2)
    cases q : N a with
    | false => rfl
    | true =>
      obtain ⟨ys, z, m⟩ := hN _ q
      rw [h1] at z
      cases z
      exact absurd m (fun z => z)
  | .dct ks l, _, _, n, h => by
    obtain ⟨a, fs, as, e1, e0, h1, e2, h2⟩ := lk_dct h
    subst e1 e2 e0
    rw [Tr.d]
    exact .dct (.inl (hid_eq.mpr ⟨n _ List.mem_cons_self, h1⟩)) (lks_dp hN hM l _ _ (fun a ha => n a (List.mem_cons_of_mem _ ha)) h2)
theorem lks_dp {N : Msk} (hN : Dom N H) (hM : ∀ a, N a = true → M a = true) : ∀ (l : List Tr) (vs : List V) (as : List Addr), (∀ a ∈ as, N a = false) → Lks K H M vs as l → DpAll K (hid N H) vs (Tr.ds l)
  | [], _, _, _, h => by cases h; rw [Tr.ds]; exact .nil
  | t :: ts, _, _, n, h => by
    cases h with
    | cons h1 h2 =>
      rw [Tr.ds]
      exact .cons (lk_dp hN hM t _ _ (fun a ha => n a (List.mem_append_left _ ha)) h1) (lks_dp hN hM ts _ _ (fun a ha => n a (List.mem_append_right _ ha)) h2)
end
mutual
theorem lk_lst : ∀ (T : Tr) (v : V) (as : List Addr), Lk K H M v as T → ∀ a ∈ as, ∃ o, H a = some o ∧ Mu o
  | .leaf d, _, _, h => by cases h; intro a ha; cases ha
  | .lst l, _, _, h => by
    cases h with
    | lst h1 h2 =>
      intro a ha
      rcases List.mem_cons.mp ha with e | e
      · subst e; exact ⟨_, h1, trivial⟩
      · exact lks_lst l _ _ h2 a e
  | .tup l, _, _, h => by cases h with | tup h1 h2 => exact lks_lst l _ _ h2
  | .obj C ns l, _, _, h => by cases h with | obj h1 h2 => exact lks_lst l _ _ h2
  | .dct ks l, _, _, h => by
    cases h with
    | dct h1 h2 =>
      intro a ha
      rcases List.mem_cons.mp ha with e | e
      · subst e; exact ⟨_, h1, trivial⟩
      · exact lks_lst l _ _ h2 a e
theorem lks_lst : ∀ (l : List Tr) (vs : List V) (as : List Addr), Lks K H M vs as l → ∀ a ∈ as, ∃ o, H a = some o ∧ Mu o
  | [], _, _, h => by cases h; intro a ha; cases ha
  | t :: ts, _, _, h => by
    cases h with
    | cons h1 h2 =>
      intro a ha
      rcases List.mem_append.mp ha with e | e
      · exact lk_lst t _ _ h1 a e
      · exact lks_lst ts _ _ h2 a e
end
theorem lks_fl : ∀ {vs : List V} {l : List D}, DpAll K (hid M H) vs l → Lks K H M vs [] (l.map .leaf)
  | _, _, .nil => .nil
  | _, _, .cons h t => by
    have := Lks.cons (Lk.leaf h) (lks_fl t)
    exact this
theorem fl_lks : ∀ {l : List D} {vs : List V} {as : List Addr}, Lks K H M vs as (l.map .leaf) → as = [] ∧ DpAll K (hid M H) vs l
  | [], _, _, h => by cases h; exact ⟨rfl, .nil⟩
  | d :: l, _, _, h => by
    have h : Lks K H M _ _ (Tr.leaf d :: l.map .leaf) := h
    cases h with
    | cons h1 h2 =>
      cases h1 with
      | leaf h1 =>
        obtain ⟨e, q⟩ := fl_lks h2
        subst e
        exact ⟨rfl, .cons h1 q⟩
theorem lks_len : ∀ {l : List Tr} {vs : List V} {as : List Addr}, Lks K H M vs as l → vs.length = l.length
  | [], _, _, h => by cases h; rfl
  | t :: ts, _, _, h => by cases h with | cons h1 h2 => simp [lks_len h2]
theorem lks_app : ∀ {l l' : List Tr} {vs vs' : List V} {as bs : List Addr}, Lks K H M vs as l → Lks K H M vs' bs l' → Lks K H M (vs ++ vs') (as ++ bs) (l ++ l')
  | [], _, _, _, _, _, h, g => by cases h; exact g
  | t :: ts, _, _, _, _, _, h, g => by
    cases h with
    | cons h1 h2 =>
      have := Lks.cons h1 (lks_app h2 g)
      rw [← List.append_assoc] at this
      exact this
end

/-! ### what an expression gives: clean data, borrowed data, new lists -/
inductive R where
  | c (d : D)
  | u (d : D)
  | t (T : Tr)
def R.o (l : List D) : R := .t (Tr.fl l)
def R.d : R → D
  | .c d => d
  | .u d => d
  | .t T => T.d
def R.cl : R → Bool
  | .u _ => false
  | _ => true
/-- what is hidden from the def at all (z), and its own lists (o) -/
structure WM where
  z : Msk
  o : Msk
def WM.w (W : WM) : Msk := jn W.z W.o
def WM.add (p : Addr) (W : WM) : WM := ⟨adm p W.z, W.o⟩
theorem WM.add_w (p : Addr) (W : WM) : (W.add p).w = adm p W.w := by
  funext a
  show ((W.z a || decide (a = p)) || W.o a) = ((W.z a || W.o a) || decide (a = p))
  cases W.z a <;> cases W.o a <;> cases decide (a = p) <;> rfl
theorem WM.zw {W : WM} : ∀ a, W.z a = true → W.w a = true := fun a h => by unfold WM.w jn; rw [h]; rfl
theorem WM.ow {W : WM} : ∀ a, W.o a = true → W.w a = true := fun a h => by unfold WM.w jn; rw [h]; exact Bool.or_true _
theorem WM.w0 (Z : Msk) : (WM.mk Z noM).w = Z := by
  funext a
  show (Z a || false) = Z a
  exact Bool.or_false _
def adms (as : List Addr) (W : Msk) : Msk := fun a => W a || decide (a ∈ as)
def RA (K : PySem.W.Frag) (H : Hp) (W : WM) (v : V) : R → Prop
  | .c d => Dp K (hid W.w H) v d
  | .u d => Dp K (hid W.z H) v d
  | .t T => Dom W.w H ∧ ∃ as, Lk K H (adms as W.w) v as T ∧ as.Nodup ∧ ∀ a ∈ as, W.w a = false
def RF (H H' : Hp) (v : V) : R → Prop
  | .t T => ∀ K M as, Lk K H' M v as T → ∀ a ∈ as, H a = none
  | _ => True
section
variable {K : PySem.W.Frag} {H H' : Hp} {W : WM} {v : V} {r : R}
theorem adms_le {as : List Addr} {W : Msk} : ∀ a, W a = true → adms as W a = true := fun a h => by unfold adms; rw [h]; rfl
theorem adms_in {as : List Addr} {W : Msk} {a : Addr} (h : a ∈ as) : adms as W a = true := by unfold adms; rw [decide_eq_true h, Bool.or_true]
theorem adms_nil {W : Msk} : adms [] W = W := by funext a; unfold adms; simp
theorem adms_one {W : Msk} {p : Addr} : adms [p] W = adm p W := by funext a; unfold adms adm; simp
theorem adms_mem {as : List Addr} {W : Msk} {a : Addr} (h : adms as W a = true) : W a = true ∨ a ∈ as := by unfold adms at h; rw [Bool.or_eq_true, decide_eq_true_eq] at h; exact h
theorem RA.cln (h : RA K H W v r) (hc : r.cl = true) : Dp K (hid W.w H) v r.d := by
  cases r with
  | c d => exact h
  | u d => simp [R.cl] at hc
  | t T =>
    obtain ⟨hd, as, h1, h2, h3⟩ := h
    exact lk_dp hd adms_le T v as h3 h1
theorem RA.dz (h : RA K H W v r) : Dp K (hid W.z H) v r.d := by
  cases r with
  | u d => exact h
  | c d => exact Dpm (RA.cln h rfl) (hid_mono WM.zw)
  | t T => exact Dpm (RA.cln h rfl) (hid_mono WM.zw)
theorem RA.dp (h : RA K H W v r) : Dp K H v r.d := Dpm h.dz hid_sub
theorem RA.grow (h : RA K H W v r) (e : Same H H') : RA K H' W v r := by
  cases r with
  | c d => exact Dpm h (hid_same e)
  | u d => exact Dpm h (hid_same e)
  | t T =>
    obtain ⟨hd, as, h1, h2, h3⟩ := h
    exact ⟨hd.grow e, as, lk_mono e (hid_same e) T v as h1, h2, h3⟩
theorem RF.anti {H0 : Hp} (h : RF H H' v r) (e : Same H0 H) : RF H0 H' v r := by
  cases r with
  | c d => trivial
  | u d => trivial
  | t T => exact fun K M as q a ha => e.free (h K M as q a ha)
end
/-- as clean data, where it is clean or bears no list -/
def R.pro (r : R) : Option D := if r.cl || flat r.d then some r.d else none
theorem RA.pro {K : PySem.W.Frag} {H : Hp} {W : WM} {v : V} {r : R} {d : D} (hW : Dom W.w H) (h : RA K H W v r) (e : r.pro = some d) : Dp K (hid W.w H) v d := by
  unfold R.pro at e
  split at e
  · rename_i q
    cases e
    cases hc : r.cl with
    | true => exact h.cln hc
    | false =>
      rw [hc, Bool.false_or] at q
      exact dp_flat hW _ _ q h.dp
  · cases e

/-! ### the names' values -/
inductive Sl where
  | v (d : D)
  | t (T : Tr)
def Sl.o (l : List D) : Sl := .t (Tr.fl l)
abbrev Ev := List (Option Sl)
structure Held (K : PySem.W.Frag) (H : Hp) (W : WM) (σ : L2.St) (E : Ev) : Prop where
  dom : Dom W.w H
  len : σ.length = E.length
  val : ∀ (i : Nat) (d : D), E[i]? = some (some (.v d)) → ∃ x, σ[i]? = some (some x) ∧ Dp K (hid W.w H) x d
  own : ∀ (i : Nat) (T : Tr), E[i]? = some (some (.t T)) → ∃ x as, σ[i]? = some (some x) ∧ Lk K H W.w x as T ∧ as.Nodup ∧ ∀ a ∈ as, W.o a = true ∧ W.z a = false
  inj : ∀ (i j : Nat) (T T' : Tr) (x x' : V) (as bs : List Addr) (M M' : Msk) (a : Addr), E[i]? = some (some (.t T)) → E[j]? = some (some (.t T')) → σ[i]? = some (some x) → σ[j]? = some (some x') → Lk K H M x as T → Lk K H M' x' bs T' → a ∈ as → a ∈ bs → i = j
theorem Held.grow {K : PySem.W.Frag} {H H' : Hp} {W : WM} {σ : L2.St} {E : Ev} (h : Held K H W σ E) (e : Same H H') : Held K H' W σ E := by
  refine ⟨h.dom.grow e, h.len, fun i d q => let ⟨x, h1, h2⟩ := h.val i d q; ⟨x, h1, Dpm h2 (hid_same e)⟩,
   fun i T q => let ⟨x, as, h1, h2, h3, h4⟩ := h.own i T q; ⟨x, as, h1, lk_mono e (hid_same e) T x as h2, h3, h4⟩, ?_⟩
  intro i j T T' x x' as bs M M' a e1 e2 q1 q2 l1 l2 ha hb
  obtain ⟨y, as', g1, g2, g3, g4⟩ := h.own i T e1
  obtain ⟨y', bs', k1, k2, k3, k4⟩ := h.own j T' e2
  rw [q1] at g1
  cases g1
  rw [q2] at k1
  cases k1
  have z1 := lk_det T _ _ _ l1 (lk_mono (M' := W.w) e (hid_same e) T _ _ g2)
  have z2 := lk_det T' _ _ _ l2 (lk_mono (M' := W.w) e (hid_same e) T' _ _ k2)
  subst z1 z2
  exact h.inj i j T T' _ _ _ _ _ _ a e1 e2 q1 q2 g2 k2 ha hb

/-! ### expressions -/
abbrev ME := Ev → Option R
def tM (K : PySem.W.Frag) (m : ME) : TE := fun σ H Q => ∃ E W r, Held K H W σ E ∧ m E = some r ∧ ∀ v H', Same H H' → RA K H' W v r → RF H H' v r → Q v H'
abbrev MT := Ev → Option Bool
def tMT (K : PySem.W.Frag) (m : MT) : TT := fun σ H Q => ∃ E W b, Held K H W σ E ∧ m E = some b ∧ ∀ H', Same H H' → Q b H'
abbrev MA := Ev → Option (List R)
inductive RAs (K : PySem.W.Frag) (H : Hp) (W : WM) : List V → List R → Prop
  | nil : RAs K H W [] []
  | cons {v : V} {vs : List V} {r : R} {rs : List R} : RA K H W v r → RAs K H W vs rs → RAs K H W (v :: vs) (r :: rs)
def tMA (K : PySem.W.Frag) (m : MA) : TA := fun σ H Q => ∃ E W rs, Held K H W σ E ∧ m E = some rs ∧ ∀ vs H', Same H H' → RAs K H' W vs rs → Q vs H'

section
variable {X : Cx}
theorem pe_imp {e : Expr} {t t' : TE} (h : PE X e t) (i : ∀ σ H Q, t' σ H Q → t σ H Q) : PE X e t' := fun pins s σ H Q I q => h pins s σ H Q I (i σ H Q q)
theorem pt_imp {e : Expr} {t t' : TT} (h : PT X e t) (i : ∀ σ H Q, t' σ H Q → t σ H Q) : PT X e t' := fun pins s σ H Q I q => h pins s σ H Q I (i σ H Q q)
theorem pw_imp {e : Expr} {t t' : TT} (h : PW X e t) (i : ∀ σ H Q, t' σ H Q → t σ H Q) : PW X e t' := fun wh pins s σ H Q I q => h wh pins s σ H Q I (i σ H Q q)
theorem pa_imp {e : List Expr} {t t' : TA} (h : PA X e t) (i : ∀ σ H Q, t' σ H Q → t σ H Q) : PA X e t' := fun pos pins s σ H Q I q => h pos pins s σ H Q I (i σ H Q q)
theorem ps_imp {e : Stmt} {t t' : TS} (h : PS X e t) (i : ∀ D σ H, t' D σ H → t D σ H) : PS X e t' := fun pins s σ H D I q => h pins s σ H D I (i D σ H q)
theorem pss_imp {e : List Stmt} {t t' : TS} (h : PSs X e t) (i : ∀ D σ H, t' D σ H → t D σ H) : PSs X e t' := fun pins s σ H D I q => h pins s σ H D I (i D σ H q)

def mVar (i : Nat) : ME := fun E => match E[i]? with
  | some (some (.v d)) => some (.c d)
  | some (some (.t T)) => some (.u T.d)
  | _ => none
theorem m_var {e : Expr} {i : Nat} (h : PE X e (tVar i)) : PE X e (tM X.K (mVar i)) := pe_imp h fun σ H Q ⟨E, W, r, hH, hm, k⟩ => by
  unfold mVar at hm
  split at hm
  · rename_i d e
    cases hm
    obtain ⟨x, h1, h2⟩ := hH.val i d e
    exact ⟨x, h1, k x H (Same.refl H) h2 trivial⟩
  · rename_i T e
    cases hm
    obtain ⟨x, as, h1, h2, h3, h4⟩ := hH.own i T e
    exact ⟨x, h1, k _ H (Same.refl H) (lk_dp (fun a ha => hH.dom a (WM.zw a ha)) WM.zw T x as (fun a ha => (h4 a ha).2) h2) trivial⟩
  · cases hm
/-- a constant value -/
def mC (d : D) : ME := fun _ => some (.c d)
theorem m_c {e : Expr} {v : V} {d : D} (h : PE X e (tC v)) (hd : ∀ H, Dp X.K H v d) : PE X e (tM X.K (mC d)) := pe_imp h fun σ H Q ⟨E, W, r, hH, hm, k⟩ => by
  cases hm
  exact k v H (Same.refl H) (hd _) trivial
theorem m_int {i j pos} : PE X (.Constant (.int i) j pos) (tM X.K (mC (.int i))) := m_c pe_int fun _ => .int i
theorem m_bl {b j pos} : PE X (.Constant (.bool b) j pos) (tM X.K (mC (.bool b))) := m_c pe_bl fun _ => .bl b
theorem m_str {x j pos} : PE X (.Constant (.str x) j pos) (tM X.K (mC (.str x))) := m_c pe_str fun _ => .str x
theorem m_non {j pos} : PE X (.Constant .none j pos) (tM X.K (mC .none)) := m_c pe_non fun _ => .non

/-! two places -/
abbrev G2 := R → R → Option R
def SOp (K : PySem.W.Frag) (r : R2) (g : G2) : Prop := ∀ (x y : V) (ra rb rc : R) (H : Hp) (W : WM) (Q : VK), Dom W.w H → RA K H W x ra → RA K H W y rb → g ra rb = some rc →
  (∀ v H', Same H H' → RA K H' W v rc → RF H H' v rc → Q v H') → r x y H Q
def mOp (g : G2) (ma mb : ME) : ME := fun E => (ma E).bind fun x => (mb E).bind fun y => g x y
theorem bindSome {α β : Type} {a : Option α} {f : α → Option β} {b : β} (h : a.bind f = some b) : ∃ x, a = some x ∧ f x = some b := by
  cases a with
  | none => cases h
  | some x => exact ⟨x, rfl, h⟩
theorem tOp_of {r : R2} {g : G2} {ma mb : ME} {K : PySem.W.Frag} (hs : SOp K r g) : ∀ σ H Q, tM K (mOp g ma mb) σ H Q → tOp r (tM K ma) (tM K mb) σ H Q := fun σ H Q ⟨E, W, rc, hH, hm, k⟩ => by
  obtain ⟨ra, ea, hm⟩ := bindSome hm
  obtain ⟨rb, eb, eg⟩ := bindSome hm
  refine ⟨E, W, ra, hH, ea, fun x H1 s1 r1 f1 => ⟨E, W, rb, hH.grow s1, eb, fun y H2 s2 r2 f2 => ?_⟩⟩
  exact hs x y ra rb rc H2 _ Q ((hH.grow s1).grow s2).dom (r1.grow s2) r2 eg fun v H' s' r' f' => k v H' ((s1.trans s2).trans s') r' (f'.anti (s1.trans s2))
variable {a b c : Expr} {ma mb mc : ME} {pos : Pos} {g : G2} {r : R2}
theorem m_op {op : Operator} (ho : OpR X (binaryOp op) r) (hs : SOp X.K r g) (ha : PE X a (tM X.K ma)) (hb : PE X b (tM X.K mb)) : PE X (.BinOp a op b pos) (tM X.K (mOp g ma mb)) := pe_imp (pe_op ho ha hb) (tOp_of hs)
theorem m_cmp {op : CmpOp} (ho : OpR X (compareOp op) r) (hs : SOp X.K r g) (ha : PE X a (tM X.K ma)) (hb : PE X b (tM X.K mb)) (hm : behindInMarks op b = false) : PE X (.Compare a [op] [b] pos) (tM X.K (mOp g ma mb)) := pe_imp (pe_cmpR ho ha hb hm) (tOp_of hs)
/-- a value that is a truth -/
def R.tr (r : R) : Option Bool := match r.d with | .bool k => some k | _ => none
def mB (m : ME) : MT := fun E => (m E).bind R.tr
theorem tTest_of {m : ME} {K : PySem.W.Frag} : ∀ σ H Q, tMT K (mB m) σ H Q → tTest (tM K m) σ H Q := fun σ H Q ⟨E, W, k, hH, hm, q⟩ => by
  obtain ⟨ra, ea, hm⟩ := bindSome hm
  refine ⟨E, W, ra, hH, ea, fun x H1 s1 r1 f1 => ⟨k, ?_, q H1 s1⟩⟩
  have h := r1.dp
  unfold R.tr at hm
  split at hm
  · rename_i k' e
    cases hm
    rw [e] at h
    exact Dp_bool h
  · cases hm
theorem m_tcmp {op : CmpOp} (ho : OpR X (compareOp op) r) (hs : SOp X.K r g) (ha : PE X a (tM X.K ma)) (hb : PE X b (tM X.K mb)) (hm : behindInMarks op b = false) : PT X (.Compare a [op] [b] pos) (tMT X.K (mB (mOp g ma mb))) :=
  pt_imp (pt_cmpR ho ha hb hm) fun σ H Q h => by
    have q := tTest_of σ H Q h
    exact tOp_of hs σ H _ q
theorem m_tval {e : Expr} {m : ME} (h : PE X e (tM X.K m)) (he : ∀ whole, isTrue e X.env whole = (do let v ← whole; standAt e.pos; holding [v] (truthy v)) := by intro _; rfl) : PT X e (tMT X.K (mB m)) :=
  pt_imp (pt_val h he) fun σ H Q h => tTest_of σ H Q h
/-- a op b op' c -/
def mChain (g g' : G2) (ma mb mc : ME) : ME := fun E => (ma E).bind fun x => (mb E).bind fun y => (g x y).bind fun z => z.tr.bind fun k => if k = true then (mc E).bind fun w => g' y w else some (.c (.bool false))
theorem tChain_of {r r' : R2} {g g' : G2} {ma mb mc : ME} {K : PySem.W.Frag} (hs : SOp K r g) (hs' : SOp K r' g') : ∀ σ H Q, tM K (mChain g g' ma mb mc) σ H Q → tChain r r' (tM K ma) (tM K mb) (tM K mc) σ H Q := fun σ H Q ⟨E, W, rc, hH, hm, k⟩ => by
  obtain ⟨ra, ea, hm⟩ := bindSome hm
  obtain ⟨rb, eb, hm⟩ := bindSome hm
  obtain ⟨rz, eg, hm⟩ := bindSome hm
  obtain ⟨kk, ek, hm⟩ := bindSome hm
  refine ⟨E, W, ra, hH, ea, fun x H1 s1 r1 f1 => ⟨E, W, rb, hH.grow s1, eb, fun y H2 s2 r2 f2 => ?_⟩⟩
  refine hs x y ra rb rz H2 _ _ ((hH.grow s1).grow s2).dom (r1.grow s2) r2 eg fun v H3 s3 r3 f3 => ⟨kk, ?_, ?_⟩
  · have h := r3.dp
    unfold R.tr at ek
    split at ek
    · rename_i k' e
      cases ek
      rw [e] at h
      exact Dp_bool h
    · cases ek
  · have S3 := (s1.trans s2).trans s3
    cases kk with
    | false =>
      rw [if_neg Bool.false_ne_true] at hm ⊢
      cases hm
      exact k _ H3 S3 (Dp.bl false) trivial
    | true =>
      rw [if_pos rfl] at hm ⊢
      obtain ⟨rw', ew, eg'⟩ := bindSome hm
      refine ⟨E, W, rw', hH.grow S3, ew, fun w H4 s4 r4 f4 => ?_⟩
      exact hs' y w rb rw' rc H4 _ Q ((hH.grow S3).grow s4).dom (r2.grow (s3.trans s4)) r4 eg' fun v H' s' r' f' => k v H' ((S3.trans s4).trans s') r' (f'.anti (S3.trans s4))
theorem m_tchain {op op' : CmpOp} {r' : R2} {g' : G2} (ho : OpR X (compareOp op) r) (hs : SOp X.K r g) (ho' : OpR X (compareOp op') r') (hs' : SOp X.K r' g') (ha : PE X a (tM X.K ma)) (hb : PE X b (tM X.K mb)) (hc : PE X c (tM X.K mc))
    (hm : lastMarks [op, op'] [b, c] = false := by with_unfolding_all rfl) : PT X (.Compare a [op, op'] [b, c] pos) (tMT X.K (mB (mChain g g' ma mb mc))) :=
  pt_imp (pt_chain ho ho' ha hb hc hm) fun σ H Q h => tChain_of hs hs' σ H _ (tTest_of σ H Q h)

/-! and, or, not, if -/
def mAndV (ma mb : ME) : ME := fun E => (ma E).bind fun x => x.tr.bind fun k => if k = true then mb E else some (.c (.bool false))
def mOrV (ma mb : ME) : ME := fun E => (ma E).bind fun x => x.tr.bind fun k => if k = true then some (.c (.bool true)) else mb E
def mNotV (ma : ME) : ME := fun E => (ma E).bind fun x => x.tr.bind fun k => some (.c (.bool (!k)))
theorem R.tr_eq {K : PySem.W.Frag} {H : Hp} {v : V} {x : R} {k : Bool} (e : x.tr = some k) (h : Dp K H v x.d) : v = .bl k := by
  unfold R.tr at e
  split at e
  · rename_i k' e'
    cases e
    rw [e'] at h
    exact Dp_bool h
  · cases e
theorem m_and {rest : List Expr} (ha : PE X a (tM X.K ma)) (hb : PE X (.BoolOp .And (b :: rest) pos) (tM X.K mb)) : PE X (.BoolOp .And (a :: b :: rest) pos) (tM X.K (mAndV ma mb)) := pe_imp (pe_and ha hb) fun σ H Q ⟨E, W, rc, hH, hm, k⟩ => by
  obtain ⟨ra, ea, hm⟩ := bindSome hm
  obtain ⟨kk, ek, hm⟩ := bindSome hm
  refine ⟨E, W, ra, hH, ea, fun x H1 s1 r1 f1 => ⟨kk, R.tr_eq ek r1.dp, ?_⟩⟩
  cases kk with
  | false => rw [if_neg Bool.false_ne_true] at hm ⊢; cases hm; exact k _ H1 s1 (Dp.bl false) trivial
  | true => rw [if_pos rfl] at hm ⊢; exact ⟨E, W, rc, hH.grow s1, hm, fun v H2 s2 r2 f2 => k v H2 (s1.trans s2) r2 (f2.anti s1)⟩
theorem m_or {rest : List Expr} (ha : PE X a (tM X.K ma)) (hb : PE X (.BoolOp .Or (b :: rest) pos) (tM X.K mb)) : PE X (.BoolOp .Or (a :: b :: rest) pos) (tM X.K (mOrV ma mb)) := pe_imp (pe_or ha hb) fun σ H Q ⟨E, W, rc, hH, hm, k⟩ => by
  obtain ⟨ra, ea, hm⟩ := bindSome hm
  obtain ⟨kk, ek, hm⟩ := bindSome hm
  refine ⟨E, W, ra, hH, ea, fun x H1 s1 r1 f1 => ⟨kk, R.tr_eq ek r1.dp, ?_⟩⟩
  cases kk with
  | false => rw [if_neg Bool.false_ne_true] at hm ⊢; exact ⟨E, W, rc, hH.grow s1, hm, fun v H2 s2 r2 f2 => k v H2 (s1.trans s2) r2 (f2.anti s1)⟩
  | true => rw [if_pos rfl] at hm ⊢; cases hm; exact k _ H1 s1 (Dp.bl true) trivial
theorem m_one {op : BoolOp} {m : ME} (h : PE X a (tM X.K m)) : PE X (.BoolOp op [a] pos) (tM X.K m) := pe_one h
theorem m_not (ha : PE X a (tM X.K ma)) : PE X (.UnaryOp .Not a pos) (tM X.K (mNotV ma)) := pe_imp (pe_not ha) fun σ H Q ⟨E, W, rc, hH, hm, k⟩ => by
  obtain ⟨ra, ea, hm⟩ := bindSome hm
  obtain ⟨kk, ek, hm⟩ := bindSome hm
  cases hm
  exact ⟨E, W, ra, hH, ea, fun x H1 s1 r1 f1 => ⟨kk, R.tr_eq ek r1.dp, k _ H1 s1 (Dp.bl _) trivial⟩⟩
def mTAnd (ma mb : MT) : MT := fun E => (ma E).bind fun k => if k = true then mb E else some false
def mTOr (ma mb : MT) : MT := fun E => (ma E).bind fun k => if k = true then some true else mb E
def mTNot (ma : MT) : MT := fun E => (ma E).bind fun k => some (!k)
variable {na nb : MT}
theorem m_wor1 (ha : PT X a (tMT X.K na)) : PW X (.BoolOp .Or [a] pos) (tMT X.K na) := pw_or1 ha
theorem m_wor {rest : List Expr} (ha : PT X a (tMT X.K na)) (hb : PW X (.BoolOp .Or (b :: rest) pos) (tMT X.K nb)) : PW X (.BoolOp .Or (a :: b :: rest) pos) (tMT X.K (mTOr na nb)) := pw_imp (pw_or ha hb) fun σ H Q ⟨E, W, rc, hH, hm, k⟩ => by
  obtain ⟨kk, ea, hm⟩ := bindSome hm
  refine ⟨E, W, kk, hH, ea, fun H1 s1 => ?_⟩
  cases kk with
  | false => rw [if_neg Bool.false_ne_true] at hm ⊢; exact ⟨E, W, rc, hH.grow s1, hm, fun H2 s2 => k H2 (s1.trans s2)⟩
  | true => rw [if_pos rfl] at hm ⊢; cases hm; exact k H1 s1
theorem m_tnot (ha : PT X a (tMT X.K na)) : PT X (.UnaryOp .Not a pos) (tMT X.K (mTNot na)) := pt_imp (pt_not ha) fun σ H Q ⟨E, W, rc, hH, hm, k⟩ => by
  obtain ⟨kk, ea, hm⟩ := bindSome hm
  cases hm
  exact ⟨E, W, kk, hH, ea, fun H1 s1 => k H1 s1⟩
def mIf (n : MT) (ma mb : ME) : ME := fun E => (n E).bind fun k => if k = true then ma E else mb E
/-! one place -/
abbrev G1 := R → Option R
def SUn (K : PySem.W.Frag) (r : V → Hp → VK → Prop) (g : G1) : Prop := ∀ (x : V) (ra rc : R) (H : Hp) (W : WM) (Q : VK), Dom W.w H → RA K H W x ra → g ra = some rc →
  (∀ v H', Same H H' → RA K H' W v rc → RF H H' v rc → Q v H') → r x H Q
def mUn (g : G1) (ma : ME) : ME := fun E => (ma E).bind g
theorem m_un {op : UnaryOp} {r : V → Hp → VK → Prop} {g : G1} (ho : UnR X (unaryOp op) r) (hs : SUn X.K r g) (ha : PE X a (tM X.K ma)) : PE X (.UnaryOp op a pos) (tM X.K (mUn g ma)) := pe_imp (pe_un ho ha) fun σ H Q ⟨E, W, rc, hH, hm, k⟩ => by
  obtain ⟨ra, ea, eg⟩ := bindSome hm
  exact ⟨E, W, ra, hH, ea, fun x H1 s1 r1 f1 => hs x ra rc H1 _ Q (hH.grow s1).dom r1 eg fun v H' s' r' f' => k v H' (s1.trans s') r' (f'.anti s1)⟩

/-! argument lists -/
def mNil : MA := fun _ => some []
def mCons (m : ME) (n : MA) : MA := fun E => (m E).bind fun x => (n E).bind fun xs => some (x :: xs)
theorem m_anil : PA X [] (tMA X.K mNil) := pa_imp pa_nil fun σ H Q ⟨E, W, rs, hH, hm, k⟩ => by
  cases hm
  exact k [] H (Same.refl H) .nil
theorem m_acons {es : List Expr} {n : MA} (ha : PE X a (tM X.K ma)) (hr : PA X es (tMA X.K n)) (hs : starEach (a :: es) X.env = (false, eval a X.env) :: starEach es X.env := by rfl) : PA X (a :: es) (tMA X.K (mCons ma n)) :=
  pa_imp (pa_cons ha hr hs) fun σ H Q ⟨E, W, rs, hH, hm, k⟩ => by
    obtain ⟨ra, ea, hm⟩ := bindSome hm
    obtain ⟨ras, eas, hm⟩ := bindSome hm
    cases hm
    exact ⟨E, W, ra, hH, ea, fun x H1 s1 r1 f1 => ⟨E, W, ras, hH.grow s1, eas, fun xs H2 s2 r2 => k _ H2 (s1.trans s2) (.cons (r1.grow s2) r2)⟩⟩
/-- calls of built-ins by values -/
abbrev GL := List R → Option R
def SCl (K : PySem.W.Frag) (r : List V → Hp → VK → Prop) (g : GL) : Prop := ∀ (xs : List V) (rs : List R) (rc : R) (H : Hp) (W : WM) (Q : VK), Dom W.w H → RAs K H W xs rs → g rs = some rc →
  (∀ v H', Same H H' → RA K H' W v rc → RF H H' v rc → Q v H') → r xs H Q
def mCl (g : GL) (n : MA) : ME := fun E => (n E).bind g
theorem tCB_of {r : List V → Hp → VK → Prop} {g : GL} {n : MA} {K : PySem.W.Frag} (hs : SCl K r g) : ∀ σ H Q, tM K (mCl g n) σ H Q → tCB r (tMA K n) σ H Q := fun σ H Q ⟨E, W, rc, hH, hm, k⟩ => by
  obtain ⟨rs, ea, eg⟩ := bindSome hm
  exact ⟨E, W, rs, hH, ea, fun xs H1 s1 r1 => hs xs rs rc H1 _ Q (hH.grow s1).dom r1 eg fun v H' s' r' f' => k v H' (s1.trans s') r' (f'.anti s1)⟩
end
end MD

namespace MD
open PySem PySem.Spec L2

/-! ### new lists and tuples -/
theorem same_new {H : Hp} {p : Addr} {o : HO} (h : H p = none) : Same H (upd H p o) := fun b u e => by rw [upd_ne (ne_of_none e h)]; exact e
theorem hid_new {H : Hp} {W : Msk} {p : Addr} {o : HO} (h : H p = none) : Same (hid W H) (hid (adm p W) (upd H p o)) := fun b u e => by
  rw [hid_eq] at e ⊢
  have hb : b ≠ p := ne_of_none e.2 h
  refine ⟨?_, by rw [upd_ne hb]; exact e.2⟩
  unfold adm
  rw [e.1, decide_eq_false hb]
  rfl
theorem lk_o {K : PySem.W.Frag} {H : Hp} {M : Msk} {p : Addr} {as : List Addr} {v : V} {l : List D} (h : Lk K H M v as (Tr.fl l)) : ∃ p vs, v = .ref p ∧ as = [p] ∧ H p = some (.lst vs) ∧ DpAll K (hid M H) vs l := by
  unfold Tr.fl at h
  cases h with
  | lst h1 h2 =>
    obtain ⟨e, q⟩ := fl_lks h2
    subst e
    exact ⟨_, _, rfl, rfl, h1, q⟩
theorem rf_o {H H' : Hp} {p : Addr} {l : List D} (h : H p = none) : RF H H' (.ref p) (.o l) := fun K M as q a ha => by
  obtain ⟨p', vs, e1, e2, _, _⟩ := lk_o (p := p) q
  cases e1
  subst e2
  cases List.mem_singleton.mp ha
  exact h
theorem new_o {K : PySem.W.Frag} {H : Hp} {W : WM} {p : Addr} {vs : List V} {l : List D} (hW : Dom W.w H) (h : H p = none) (ha : DpAll K (hid W.w H) vs l) : RA K (upd H p (.lst vs)) W (.ref p) (.o l) ∧ RF H (upd H p (.lst vs)) (.ref p) (.o l) := by
  refine ⟨⟨hW.grow (same_new h), [p], .lst upd_same (lks_fl ?_), by simp, fun a ha => by cases List.mem_singleton.mp ha; exact hW.free h⟩, rf_o h⟩
  rw [adms_one]
  exact Dpam ha (hid_new h)
theorem new_t {K : PySem.W.Frag} {H : Hp} {W : WM} {p : Addr} {vs : List V} {l : List D} (hW : Dom W.w H) (h : H p = none) (ha : DpAll K (hid W.w H) vs l) : RA K (upd H p (.tup vs)) W (.ref p) (.c (.tuple l)) :=
  Dp.tup (.inl ((hid_eq.mpr ⟨hW.free h, upd_same⟩))) (Dpam ha (hid_same (same_new h)))
theorem new_tu {K : PySem.W.Frag} {H : Hp} {W : WM} {p : Addr} {vs : List V} {l : List D} (hW : Dom W.w H) (h : H p = none) (ha : DpAll K (hid W.z H) vs l) : RA K (upd H p (.tup vs)) W (.ref p) (.u (.tuple l)) :=
  Dp.tup (.inl ((hid_eq.mpr ⟨by cases e : W.z p with | false => rfl | true => (have q := hW.free h; rw [WM.zw p e] at q; exact q), upd_same⟩))) (Dpam ha (hid_same (same_new h)))

def lim : Nat := 100000
theorem lim_line : lim ≤ sizeLine := by decide
def pros : List R → Option (List D)
  | [] => some []
  | r :: rs => r.pro.bind fun d => (pros rs).bind fun ds => some (d :: ds)
theorem RAs.pros {K : PySem.W.Frag} {H : Hp} {W : WM} (hW : Dom W.w H) : ∀ {vs : List V} {rs : List R} {ds : List D}, RAs K H W vs rs → pros rs = some ds → DpAll K (hid W.w H) vs ds
  | _, _, _, .nil, e => by cases e; exact .nil
  | _, _, _, .cons h t, e => by
    obtain ⟨d, e1, e⟩ := bindSome e
    obtain ⟨ds, e2, e⟩ := bindSome e
    cases e
    exact .cons (h.pro hW e1) (RAs.pros hW t e2)
theorem RAs.dps {K : PySem.W.Frag} {H : Hp} {W : WM} : ∀ {vs : List V} {rs : List R}, RAs K H W vs rs → DpAll K (hid W.z H) vs (rs.map R.d)
  | _, _, .nil => .nil
  | _, _, .cons h t => .cons h.dz (RAs.dps t)
theorem RAs.len {K : PySem.W.Frag} {H : Hp} {W : WM} : ∀ {vs : List V} {rs : List R}, RAs K H W vs rs → vs.length = rs.length
  | _, _, .nil => rfl
  | _, _, .cons h t => by simp [RAs.len t]

section
variable {X : Cx} {K : PySem.W.Frag}
/-! ### ints -/
def gI (f : Int → Int → D) : G2 := fun x y => match x.d, y.d with
  | .int i, .int j => some (.c (f i j))
  | _, _ => none
theorem s_I {f : Int → Int → V} {f' : Int → Int → D} (hf : ∀ i j H, Dp K H (f i j) (f' i j)) : SOp K (rI0 f) (gI f') := by
  intro x y ra rb rc H W Q hW hx hy hg k
  unfold gI at hg
  split at hg
  · rename_i i j ei ej
    cases hg
    have h1 := hx.dp
    have h2 := hy.dp
    rw [ei] at h1
    rw [ej] at h2
    exact ⟨i, j, Dp_int h1, Dp_int h2, k _ H (Same.refl H) (hf i j _) trivial⟩
  · cases hg
def gIc (C : Int → Int → Bool) (f : Int → Int → D) : G2 := fun x y => match x.d, y.d with
  | .int i, .int j => if C i j = true then some (.c (f i j)) else none
  | _, _ => none
theorem s_Ic {C : Int → Int → Prop} {C' : Int → Int → Bool} {f : Int → Int → V} {f' : Int → Int → D} (hc : ∀ i j, C' i j = true → C i j) (hf : ∀ i j H, Dp K H (f i j) (f' i j)) : SOp K (rI C f) (gIc C' f') := by
  intro x y ra rb rc H W Q hW hx hy hg k
  unfold gIc at hg
  split at hg
  · rename_i i j ei ej
    split at hg
    · rename_i hcc
      cases hg
      have h1 := hx.dp
      have h2 := hy.dp
      rw [ei] at h1
      rw [ej] at h2
      exact ⟨i, j, Dp_int h1, Dp_int h2, hc i j hcc, k _ H (Same.refl H) (hf i j _) trivial⟩
    · cases hg
  · cases hg
def gSub : G2 := gI fun i j => .int (i - j)
def gLt : G2 := gI fun i j => .bool (decide (i < j))
def gLe : G2 := gI fun i j => .bool (decide (i ≤ j))
def gGt : G2 := gI fun i j => .bool (decide (j < i))
def gGe : G2 := gI fun i j => .bool (decide (j ≤ i))
theorem s_sub : SOp K (rI0 fun i j => .int (i - j)) gSub := s_I fun _ _ _ => .int _
theorem s_lt : SOp K (rI0 fun i j => .bl (decide (i < j))) gLt := s_I fun _ _ _ => .bl _
theorem s_le : SOp K (rI0 fun i j => .bl (decide (i ≤ j))) gLe := s_I fun _ _ _ => .bl _
theorem s_gt : SOp K (rI0 fun i j => .bl (decide (j < i))) gGt := s_I fun _ _ _ => .bl _
/-- a product whose factors are not too long -/
def mulOk (i j : Int) : Bool := !(decide (Builtin.Int.intBits i > shortFactorBits) && decide (Builtin.Int.intBits j > shortFactorBits) && Builtin.Int.intTooBig (Builtin.Int.intBits i + Builtin.Int.intBits j))
theorem op_mulB : OpR X (binaryOp .Mult) (rI IntMulOk fun i j => .int (i * j)) := opI fun _ _ _ _ _ _ _ hc q => PyProof.Rows.mul_int q hc
theorem mulOk_ok {i j : Int} (h : mulOk i j = true) : IntMulOk i j := by
  unfold mulOk at h
  unfold IntMulOk
  intro q
  rw [q] at h
  cases h
theorem mulOk_of {i j : Int} (h : IntMulOk i j) : mulOk i j = true := by
  unfold IntMulOk at h
  unfold mulOk
  cases q : (decide (Builtin.Int.intBits i > shortFactorBits) && decide (Builtin.Int.intBits j > shortFactorBits) && Builtin.Int.intTooBig (Builtin.Int.intBits i + Builtin.Int.intBits j)) with
  | false => rfl
  | true => exact absurd q h
def gMul : G2 := gIc mulOk fun i j => .int (i * j)
theorem s_mul : SOp K (rI IntMulOk fun i j => .int (i * j)) gMul := s_Ic (fun _ _ h => mulOk_ok h) fun _ _ _ => .int _
def gDiv : G2 := gIc (fun _ j => decide (0 < j ∧ j < 1073741824)) fun i j => .int (i / j)
theorem s_div : SOp K (rI CDiv fun i j => .int (i / j)) gDiv := s_Ic (fun i j h => (of_decide_eq_true h : 0 < j ∧ j < 1073741824)) fun _ _ _ => .int _
def gMod : G2 := gIc (fun _ j => decide (0 < j)) fun i j => .int (i % j)
theorem s_mod : SOp K (rI (fun _ j => 0 < j) fun i j => .int (i % j)) gMod := s_Ic (fun _ _ h => of_decide_eq_true h) fun _ _ _ => .int _
def gPow : G2 := gIc (fun i j => decide (0 ≤ j ∧ j ≤ 1000000 ∧ i.natAbs < 2 ^ 64)) fun i j => .int (i ^ j.toNat)
theorem s_pow : SOp K (rI CPow fun i j => .int (i ^ j.toNat)) gPow := s_Ic (fun i j h => (of_decide_eq_true h : 0 ≤ j ∧ j ≤ 1000000 ∧ i.natAbs < 2 ^ 64)) fun _ _ _ => .int _
def gNeg : G1 := fun x => match x.d with | .int i => some (.c (.int (-i))) | _ => none
theorem s_neg : SUn K (rU fun i => .int (-i)) gNeg := by
  intro x ra rc H W Q hW hx hg k
  unfold gNeg at hg
  split at hg
  · rename_i i ei
    cases hg
    have h1 := hx.dp
    rw [ei] at h1
    exact ⟨i, Dp_int h1, k _ H (Same.refl H) (Dp.int _) trivial⟩
  · cases hg

/-! ### a + b: ints, lists -/
def rCatG (K : PySem.W.Frag) : R2 := fun x y H Q => ∃ l b xs zs, x = .ref l ∧ y = .ref b ∧ SqL K H l xs ∧ SqL K H b zs ∧ xs.length + zs.length ≤ sizeLine ∧ ∀ p, H p = none → Q (.ref p) (upd H p (.lst (xs ++ zs)))
theorem op_catG : OpR X (binaryOp .Add) (rCatG X.K) := by
  intro pins s σ H x y v u Q I rx ry h
  obtain ⟨l, b, xs, zs, rfl, rfl, hH, hB, hz, q⟩ := h
  cases rx
  cases ry
  obtain ⟨its, r, hl, z⟩ := I.list hH
  obtain ⟨its2, r2, hl2, z2⟩ := I.list hB
  have e1 := r.length
  have e2 := r2.length
  obtain ⟨⟨cls, dd, data, sl⟩, ho, hc, n, hd⟩ := hl.isList
  obtain ⟨⟨cls2, dd2, data2, sl2⟩, ho2, hc2, n2, hd2⟩ := hl2.isList
  simp only at hc hd hc2 hd2
  subst hc hd hc2 hd2
  have e : its.toArray ++ its2.toArray = (its ++ its2).toArray := by simp
  refine concat_meets ⟨_, ho, rfl⟩ ⟨_, ho2, rfl⟩ PySem.noFill_list_add PySem.seq_list_add PySem.F.slot_list_add PySem.F.entry_list_add (PySem.F.args_list_add_2 _ _) (PyProof.Rows.list_addW l b its.toArray its2.toArray n n2 dd dd2 sl sl2 (by simp only [List.size_toArray]; omega)) ⟨ho, ho2, ?_⟩
  rw [e]
  exact ⟨.ref _, _, I.lnew (t' := s.toks) (r.append r2) (by rw [List.length_append]; omega), rfl, q _ I.fresh⟩
def rAddG (K : PySem.W.Frag) : R2 := fun x y H Q => rI0 (fun i j => .int (i + j)) x y H Q ∨ rCatG K x y H Q
theorem op_addG : OpR X (binaryOp .Add) (rAddG X.K) := OpR.or op_add op_catG
def gAdd : G2 := fun x y => match x.d, y.d with
  | .int i, .int j => some (.c (.int (i + j)))
  | .list l, .list l' => if (x.cl || flats l) && (y.cl || flats l') && decide (l.length + l'.length ≤ lim) then some (.o (l ++ l')) else none
  | _, _ => none
theorem RA.items {H : Hp} {W : WM} {v : V} {r : R} {l : List D} (hW : Dom W.w H) (h : RA K H W v r) (e : r.d = .list l) (c : (r.cl || flats l) = true) : ∃ a xs, v = .ref a ∧ SqL K H a xs ∧ DpAll K (hid W.w H) xs l := by
  cases hc : r.cl with
  | true =>
    have q := h.cln hc
    rw [e] at q
    obtain ⟨a, xs, e1, e2, e3⟩ := Dp_list q
    exact ⟨a, xs, e1, (hid_sub).seq e2, e3⟩
  | false =>
    rw [hc, Bool.false_or] at c
    have q := h.dp
    rw [e] at q
    obtain ⟨a, xs, e1, e2, e3⟩ := Dp_list q
    exact ⟨a, xs, e1, e2, dpa_flat hW _ _ c e3⟩
theorem s_add : SOp K (rAddG K) gAdd := by
  intro x y ra rb rc H W Q hW hx hy hg k
  unfold gAdd at hg
  split at hg
  · rename_i i j ei ej
    cases hg
    have h1 := hx.dp
    have h2 := hy.dp
    rw [ei] at h1
    rw [ej] at h2
    exact .inl ⟨i, j, Dp_int h1, Dp_int h2, k _ H (Same.refl H) (Dp.int _) trivial⟩
  · rename_i l l' el el'
    split at hg
    · rename_i hc
      cases hg
      simp only [Bool.and_eq_true, decide_eq_true_eq] at hc
      obtain ⟨⟨c1, c2⟩, c3⟩ := hc
      obtain ⟨a, xs, rfl, s1, d1⟩ := hx.items hW el c1
      obtain ⟨b, ys, rfl, s2, d2⟩ := hy.items hW el' c2
      refine .inr ⟨a, b, xs, ys, rfl, rfl, s1, s2, ?_, fun p hp => ?_⟩
      · rw [DpAll_len d1, DpAll_len d2]
        exact Nat.le_trans c3 lim_line
      · obtain ⟨q1, q2⟩ := new_o hW hp (DpAll_app d1 d2)
        exact k _ _ (same_new hp) q1 q2
    · cases hg
  · cases hg

/-! ### == and !=, in and not in, at any depth -/
def gEq : G2 := fun x y => if okD x.d && okD y.d then some (.c (.bool (deq x.d y.d))) else none
def gNe : G2 := fun x y => if okD x.d && okD y.d then some (.c (.bool (!deq x.d y.d))) else none
theorem okD_pd {H : Hp} {v : V} {d : D} (h : okD d = true) (hd : Dp K H v d) : L2.Dp K H v d.pd ∧ SeqAt.shaped d.pd = true := by
  unfold okD at h
  rw [Bool.and_eq_true] at h
  exact ⟨dp_pd _ _ h.1 hd, h.2⟩
theorem s_eq : SOp K (rEqD K) gEq := by
  intro x y ra rb rc H W Q hW hx hy hg k
  unfold gEq at hg
  split at hg
  · rename_i hc
    cases hg
    simp only [Bool.and_eq_true] at hc
    obtain ⟨a1, a2⟩ := okD_pd hc.1 hx.dp
    obtain ⟨b1, b2⟩ := okD_pd hc.2 hy.dp
    exact ⟨_, _, a1, b1, a2, b2, k _ H (Same.refl H) (Dp.bl _) trivial⟩
  · cases hg
theorem s_ne : SOp K (rNeD K) gNe := by
  intro x y ra rb rc H W Q hW hx hy hg k
  unfold gNe at hg
  split at hg
  · rename_i hc
    cases hg
    simp only [Bool.and_eq_true] at hc
    obtain ⟨a1, a2⟩ := okD_pd hc.1 hx.dp
    obtain ⟨b1, b2⟩ := okD_pd hc.2 hy.dp
    exact ⟨_, _, a1, b1, a2, b2, k _ H (Same.refl H) (Dp.bl _) trivial⟩
  · cases hg
mutual
def noDict : PySem.PyData → Bool
  | .dict _ => false
  | .list ds => noDicts ds
  | .tuple ds => noDicts ds
  | _ => true
def noDicts : List PySem.PyData → Bool
  | [] => true
  | d :: ds => noDict d && noDicts ds
end
mutual
theorem dp_noDict {H : Hp} : ∀ (d : PySem.PyData) (v : V), L2.Dp K H v d → noDict d = true
  | .none, _, _ => by simp [noDict]
  | .bool _, _, _ => by simp [noDict]
  | .int _, _, _ => by simp [noDict]
  | .str _, _, _ => by simp [noDict]
  | .list ds, _, h => by
    cases h with
    | lst _ ha => simpa [noDict] using dpa_noDict ds _ ha
  | .tuple ds, _, h => by
    cases h with
    | tup _ ha => simpa [noDict] using dpa_noDict ds _ ha
  | .dict _, _, h => by cases h
theorem dpa_noDict {H : Hp} : ∀ (ds : List PySem.PyData) (vs : List V), L2.DpAll K H vs ds → noDicts ds = true
  | [], _, _ => by simp [noDicts]
  | d :: ds, _, h => by
    cases h with
    | cons h1 h2 => simp [noDicts, dp_noDict d _ h1, dpa_noDict ds _ h2]
end
mutual
theorem reads_det {h : Heap} : ∀ (d d' : PySem.PyData) (u : Value) (as as' : List Addr), noDict d = true → Reads h u d as → Reads h u d' as' → d = d'
  | .none, _, _, _, _, _, r, r' => by cases r; cases r'; rfl
  | .bool _, _, _, _, _, _, r, r' => by cases r; cases r'; rfl
  | .int _, _, _, _, _, _, r, r' => by cases r; cases r'; rfl
  | .str _, _, _, _, _, _, r, r' => by cases r; cases r'; rfl
  | .list ds, d', u, _, _, n, r, r' => by
    cases r with
    | list h1 h2 h3 h4 =>
      cases r' with
      | list g1 g2 g3 g4 =>
        rw [h1] at g1; cases g1
        rw [h3] at g3; cases g3
        rw [readsAll_det ds _ _ _ _ (by simpa [noDict] using n) h4 g4]
      | tuple g1 g2 g3 g4 => rw [h1] at g1; cases g1; rw [h2] at g2; exact absurd g2 (by decide)
      | dict g1 g2 g3 g4 => rw [h1] at g1; cases g1; rw [h2] at g2; exact absurd g2 (by decide)
  | .tuple ds, d', u, _, _, n, r, r' => by
    cases r with
    | tuple h1 h2 h3 h4 =>
      cases r' with
      | tuple g1 g2 g3 g4 =>
        rw [h1] at g1; cases g1
        rw [h3] at g3; cases g3
        rw [readsAll_det ds _ _ _ _ (by simpa [noDict] using n) h4 g4]
      | list g1 g2 g3 g4 => rw [h1] at g1; cases g1; rw [h2] at g2; exact absurd g2 (by decide)
      | dict g1 g2 g3 g4 => rw [h1] at g1; cases g1; rw [h2] at g2; exact absurd g2 (by decide)
  | .dict _, _, _, _, _, n, _, _ => by simp [noDict] at n
theorem readsAll_det {h : Heap} : ∀ (ds ds' : List PySem.PyData) (us : List Value) (as as' : List Addr), noDicts ds = true → ReadsAll h us ds as → ReadsAll h us ds' as' → ds = ds'
  | [], _, _, _, _, _, r, r' => by cases r; cases r'; rfl
  | d :: ds, _, _, _, _, n, r, r' => by
    simp only [noDicts, Bool.and_eq_true] at n
    cases r with
    | cons h1 h2 =>
      cases r' with
      | cons g1 g2 => rw [reads_det d _ _ _ _ n.1 h1 g1, readsAll_det ds _ _ _ _ n.2 h2 g2]
end
open Classical in
noncomputable def datOf (h : Heap) (u : Value) : PySem.PyData := if q : ∃ d as, noDict d = true ∧ Reads h u d as then q.choose else .none
theorem datOf_eq {h : Heap} {u : Value} {d : PySem.PyData} {as : List Addr} (n : noDict d = true) (r : Reads h u d as) : datOf h u = d := by
  unfold datOf
  have q : ∃ d as, noDict d = true ∧ Reads h u d as := ⟨d, as, n, r⟩
  rw [dif_pos q]
  obtain ⟨as', n', r'⟩ := q.choose_spec
  exact reads_det _ _ _ _ _ n' r' r
def rInD (K : PySem.W.Frag) (neg : Bool) : R2 := fun x y H Q => ∃ d p xs ds, L2.Dp K H x d ∧ y = .ref p ∧ (SqL K H p xs ∨ SqT K H p xs) ∧ L2.DpAll K H xs ds ∧ SeqAt.shaped d = true ∧ ds.all SeqAt.shaped = true ∧
  Q (.bl (neg != ds.any fun e => PySem.PyData.eqv e d)) H
theorem in_at {pins : List (Addr × Obj)} {σ : L2.St} {H : Hp} {s : Shared} {A : Around} (I : Inv X pins σ H s) {x : V} {v : Value} {d : PySem.PyData} (hx : L2.Dp X.K H x d) (rx : RelV x v) (sd : SeqAt.shaped d = true) (hu : A.units + 64 < cLine) :
    ∀ {xs : List V} {us : List Value} {ds : List PySem.PyData}, L2.DpAll X.K H xs ds → Vals xs us → ds.all SeqAt.shaped = true →
      (∀ y ∈ us, SeqAt.EqAt A s y v (PySem.PyData.eqv (datOf s.heap y) d)) ∧ us.any (fun y => PySem.PyData.eqv (datOf s.heap y) d) = ds.any fun e => PySem.PyData.eqv e d
  | _, _, _, .nil, .nil, _ => ⟨fun _ h => absurd h (by simp), rfl⟩
  | _, _, _, .cons h t, .cons r rt, f => by
    simp only [List.all_cons, Bool.and_eq_true] at f
    obtain ⟨as, q⟩ := L2.Dp.reads I _ _ _ h r
    obtain ⟨bs, qx⟩ := L2.Dp.reads I _ _ _ hx rx
    have e := datOf_eq (dp_noDict _ _ h) q
    obtain ⟨i1, i2⟩ := in_at I hx rx sd hu t rt f.2
    refine ⟨fun y hy => ?_, ?_⟩
    · rcases List.mem_cons.mp hy with rfl | hy
      · rw [e]
        exact SeqAt.eqAt_reads _ _ A s _ _ as bs q qx (SeqAt.canLay_of_shaped f.1) (SeqAt.canLay_of_shaped sd) (SeqAt.room_of_shaped f.1 hu)
      · exact i1 y hy
    · rw [List.any_cons, List.any_cons, i2, e]
theorem op_notInD (hu : X.A.in1.units + 64 < cLine) : OpR X (compareOp .NotIn) (rInD X.K true) := by
  intro pins s σ H x y v u Q I rx ry h
  obtain ⟨d, p, xs, ds, hd, rfl, hq, hds, sd, sds, q⟩ := h
  cases ry
  rcases hq with hq | hq
  · obtain ⟨its, r, pl, hz⟩ := I.list hq
    obtain ⟨i1, i2⟩ := in_at (A := X.A.in1) I hd rx sd hu hds r sds
    refine SeqAt.notIn_listAt _ pl.isList (fun w hw => i1 w (by simpa using hw)) ⟨.bl _, H, I, rfl, ?_⟩
    rw [show its.toArray.any (fun y => PySem.PyData.eqv (datOf s.heap y) d) = its.any (fun y => PySem.PyData.eqv (datOf s.heap y) d) by simp, i2]
    simpa using q
  · obtain ⟨its, r, pl, hz⟩ := I.tuple hq
    obtain ⟨i1, i2⟩ := in_at (A := X.A.in1) I hd rx sd hu hds r sds
    refine SeqAt.notIn_tupleAt _ pl (fun w hw => i1 w (by simpa using hw)) ⟨.bl _, H, I, rfl, ?_⟩
    rw [show its.toArray.any (fun y => PySem.PyData.eqv (datOf s.heap y) d) = its.any (fun y => PySem.PyData.eqv (datOf s.heap y) d) by simp, i2]
    simpa using q
def gIn (neg : Bool) : G2 := fun x y => match y.d with
  | .list l => if okD x.d && l.all okD then some (.c (.bool (neg != l.any fun e => deq e x.d))) else none
  | .tuple l => if okD x.d && l.all okD then some (.c (.bool (neg != l.any fun e => deq e x.d))) else none
  | _ => none
theorem dps_all {H : Hp} : ∀ {vs : List V} {l : List D} (x : D), DpAll K H vs l → l.all okD = true → L2.DpAll K H vs (D.pds l) ∧ (D.pds l).all SeqAt.shaped = true ∧ ((D.pds l).any fun e => PySem.PyData.eqv e x.pd) = l.any fun e => deq e x
  | _, _, _, .nil, _ => ⟨by rw [D.pds]; exact .nil, by rw [D.pds]; rfl, by rw [D.pds]; rfl⟩
  | _, _, x, .cons h t, f => by
    simp only [List.all_cons, Bool.and_eq_true] at f
    obtain ⟨a1, a2⟩ := okD_pd f.1 h
    obtain ⟨b1, b2, b3⟩ := dps_all x t f.2
    rw [D.pds]
    refine ⟨.cons a1 b1, ?_, ?_⟩
    · rw [List.all_cons, a2, b2]; rfl
    · rw [List.any_cons, List.any_cons, b3]; rfl
theorem s_in {neg : Bool} : SOp K (rInD K neg) (gIn neg) := by
  intro x y ra rb rc H W Q hW hx hy hg k
  unfold gIn at hg
  split at hg
  · rename_i l el
    split at hg
    · rename_i hc
      cases hg
      simp only [Bool.and_eq_true] at hc
      have h := hy.dp
      rw [el] at h
      obtain ⟨a, xs, rfl, h1, h2⟩ := Dp_list h
      obtain ⟨a1, a2⟩ := okD_pd hc.1 hx.dp
      obtain ⟨b1, b2, b3⟩ := dps_all ra.d h2 hc.2
      exact ⟨_, a, xs, _, a1, rfl, .inl h1, b1, a2, b2, by rw [b3]; exact k _ H (Same.refl H) (Dp.bl _) trivial⟩
    · cases hg
  · rename_i l el
    split at hg
    · rename_i hc
      cases hg
      simp only [Bool.and_eq_true] at hc
      have h := hy.dp
      rw [el] at h
      obtain ⟨a, xs, rfl, h1, h2⟩ := Dp_tup h
      obtain ⟨a1, a2⟩ := okD_pd hc.1 hx.dp
      obtain ⟨b1, b2, b3⟩ := dps_all ra.d h2 hc.2
      exact ⟨_, a, xs, _, a1, rfl, .inr h1, b1, a2, b2, by rw [b3]; exact k _ H (Same.refl H) (Dp.bl _) trivial⟩
    · cases hg
  · cases hg
end
end MD

namespace MD
open PySem PySem.Spec L2

section
variable {X : Cx} {K : PySem.W.Frag} {e a b c : Expr} {m ma mb : ME} {n : MA} {pos p p2 : Pos} {es : List Expr}

/-! ### isinstance -/
inductive BT where
  | int | bool | list | tuple | str
def BT.s : BT → String
  | .int => "int" | .bool => "bool" | .list => "list" | .tuple => "tuple" | .str => "str"
def isi : BT → D → Option Bool
  | _, .obj _ _ _ => none
  | _, .fn _ => none
  | _, .exc _ _ => none
  | .int, .int _ => some true
  | .int, .bool _ => some true
  | .bool, .bool _ => some true
  | .list, .list _ => some true
  | .tuple, .tuple _ => some true
  | .str, .str _ => some true
  | _, _ => some false
def rIsi (K : PySem.W.Frag) (T : BT) : List V → Hp → VK → Prop := fun xs H Q => ∃ x d b, xs = [x, .ty T.s] ∧ Dp K H x d ∧ isi T d = some b ∧ Q (.bl b) H
theorem cr_isi (T : BT) : CallR X (.builtin "isinstance") (rIsi X.K T) := by
  intro pins s σ H xs us Q I r h
  obtain ⟨x, d, k, rfl, hd, hi, q⟩ := h
  obtain ⟨u, v, rfl, ru, rv⟩ := r.two
  cases rv
  have fin : EP X pins σ Q (.bool k) s := ⟨.bl k, H, I, rfl, q⟩
  have fin' : EP X pins σ Q (.bool k) { s with toks := s.toks + 1 } := ⟨.bl k, H, I.tok _, rfl, q⟩
  cases d with
  | none => cases hd; cases ru; cases T <;> (simp only [isi] at hi; cases hi) <;> first | exact IsiPair.NoneType_int fin' | exact IsiPair.NoneType_bool fin' | exact IsiPair.NoneType_list fin' | exact IsiPair.NoneType_tuple fin' | exact IsiPair.NoneType_str fin'
  | bool z => cases hd; cases ru; cases T <;> (simp only [isi] at hi; cases hi) <;> first | exact IsiPair.bool_int fin | exact IsiPair.bool_bool fin | exact IsiPair.bool_list fin' | exact IsiPair.bool_tuple fin' | exact IsiPair.bool_str fin'
  | int z => cases hd; obtain ⟨t, rfl⟩ := ru; cases T <;> (simp only [isi] at hi; cases hi) <;> first | exact IsiPair.int_int fin | exact IsiPair.int_bool fin' | exact IsiPair.int_list fin' | exact IsiPair.int_tuple fin' | exact IsiPair.int_str fin'
  | str z => cases hd; obtain ⟨t, rfl⟩ := ru; cases T <;> (simp only [isi] at hi; cases hi) <;> first | exact IsiPair.str_int fin' | exact IsiPair.str_bool fin' | exact IsiPair.str_list fin' | exact IsiPair.str_tuple fin' | exact IsiPair.str_str fin
  | list ds =>
    obtain ⟨a', xs, rfl, hs, _⟩ := Dp_list hd
    cases ru
    obtain ⟨its, _, ⟨o, _, ho, hc, _⟩, _⟩ := I.list hs
    cases T <;> (simp only [isi] at hi; cases hi) <;> first | exact IsiPair.list_int ho hc fin' | exact IsiPair.list_bool ho hc fin' | exact IsiPair.list_list ho hc fin | exact IsiPair.list_tuple ho hc fin' | exact IsiPair.list_str ho hc fin'
  | tuple ds =>
    obtain ⟨a', xs, rfl, hs, _⟩ := Dp_tup hd
    cases ru
    obtain ⟨its, _, ⟨o, ho, hc, _⟩, _⟩ := I.tuple hs
    cases T <;> (simp only [isi] at hi; cases hi) <;> first | exact IsiPair.tuple_int ho hc fin' | exact IsiPair.tuple_bool ho hc fin' | exact IsiPair.tuple_list ho hc fin' | exact IsiPair.tuple_tuple ho hc fin | exact IsiPair.tuple_str ho hc fin'
  | obj C ns ds => cases hi
  | dict ks ds =>
    cases hd with
    | dct hr _ =>
      cases ru
      obtain ⟨_, _, _, _, o, _, _, ho, ⟨hc, _⟩, _⟩ := hr.ok I.hok
      cases T <;> (simp only [isi] at hi; cases hi) <;> first | exact IsiPair.dict_int ho hc fin' | exact IsiPair.dict_bool ho hc fin' | exact IsiPair.dict_list ho hc fin' | exact IsiPair.dict_tuple ho hc fin' | exact IsiPair.dict_str ho hc fin'
  | fn x => cases T <;> cases hi
  | exc a C => cases T <;> cases hi
def gIsi (T : BT) : G1 := fun x => (isi T x.d).map fun k => .c (.bool k)
theorem m_isi (T : BT) {y : Str} (hm : X.mg "isinstance" = none) (hy : X.mg y = none) (he : PE X e (tM X.K m)) (hv : bootBuiltins y = some (.type T.s) := by decide +kernel) (hg : Gl X "isinstance" := by rfl) (hgy : Gl X y := by rfl) (hn : y ≠ "__name__" := by decide) (hd : (y == ("__debug__" : Str)) = false := by decide)
    (h1 : starEach [e, .Name y p2] X.env = (false, eval e X.env) :: starEach [.Name y p2] X.env := by rfl) (h2 : (backTo pos (starEach [.Name y p2] X.env)).any (·.1) = false := by rfl)
    (h3 : starEach [.Name y p2] X.env = (false, eval (.Name y p2) X.env) :: starEach [] X.env := by rfl) :
    PE X (.Call (.Name "isinstance" p) [e, .Name y p2] [] pos) (tM X.K (mUn (gIsi T) m)) :=
  pe_imp (pe_callB (cr_isi T) hg hm PyProof.Rows.boot_isinstance (pa_cons he (pa_cons (pe_bltn (v := .ty T.s) hgy hy hv rfl hn hd) pa_nil h3) h1) (he := h1) (hpl := h2)) fun σ H Q ⟨E, W, rc, hH, hm, k⟩ => by
    obtain ⟨ra, ea, hm⟩ := bindSome hm
    unfold gIsi at hm
    cases hi : isi T ra.d with
    | none => rw [hi] at hm; cases hm
    | some z =>
      rw [hi] at hm
      cases hm
      exact ⟨E, W, ra, hH, ea, fun x H1 s1 r1 f1 => ⟨x, ra.d, z, rfl, r1.dp, hi, k _ H1 s1 (Dp.bl z) trivial⟩⟩

/-! ### built-in calls -/
def gLen : GL := fun rs => match rs with
  | [x] => (match x.d with | .list l => some (.c (.int l.length)) | .tuple l => some (.c (.int l.length)) | _ => none)
  | _ => none
theorem s_len : SCl K (fun xs H Q => ∃ p ys, xs = [V.ref p] ∧ (SqL K H p ys ∨ SqT K H p ys) ∧ Q (.int ys.length) H) gLen := by
  intro xs rs rc H W Q hW hx hg k
  unfold gLen at hg
  split at hg
  · rename_i x
    cases hx with
    | cons h t =>
      cases t
      have q := h.dp
      split at hg
      · rename_i l el
        cases hg
        rw [el] at q
        obtain ⟨a, ys, rfl, h1, h2⟩ := Dp_list q
        exact ⟨a, ys, rfl, .inl h1, by rw [DpAll_len h2]; exact k _ H (Same.refl H) (Dp.int _) trivial⟩
      · rename_i l el
        cases hg
        rw [el] at q
        obtain ⟨a, ys, rfl, h1, h2⟩ := Dp_tup q
        exact ⟨a, ys, rfl, .inr h1, by rw [DpAll_len h2]; exact k _ H (Same.refl H) (Dp.int _) trivial⟩
      · cases hg
  · cases hg
def gAbs : GL := fun rs => match rs with
  | [x] => (match x.d with | .int i => some (.c (.int (if i < 0 then -i else i))) | _ => none)
  | _ => none
theorem s_abs : SCl K (fun xs H Q => ∃ i, xs = [V.int i] ∧ Q (.int (if i < 0 then -i else i)) H) gAbs := by
  intro xs rs rc H W Q hW hx hg k
  unfold gAbs at hg
  split at hg
  · rename_i x
    cases hx with
    | cons h t =>
      cases t
      have q := h.dp
      split at hg
      · rename_i l el
        cases hg
        rw [el] at q
        cases Dp_int q
        exact ⟨l, rfl, k _ H (Same.refl H) (Dp.int _) trivial⟩
      · cases hg
  · cases hg
def gMax2 : GL := fun rs => match rs with
  | [x, y] => (match x.d, y.d with | .int i, .int j => some (.c (.int (if j > i then j else i))) | _, _ => none)
  | _ => none
def gMin2 : GL := fun rs => match rs with
  | [x, y] => (match x.d, y.d with | .int i, .int j => some (.c (.int (if j < i then j else i))) | _, _ => none)
  | _ => none
def ints? : List D → Option (List Int)
  | [] => some []
  | .int i :: ds => (ints? ds).map (i :: ·)
  | _ :: _ => none
theorem ints?_eq : ∀ {ds : List D} {ns : List Int}, ints? ds = some ns → ds = ns.map .int
  | [], _, h => by cases h; rfl
  | .int i :: ds, ns, h => by
    unfold ints? at h
    cases e : ints? ds with
    | none => rw [e] at h; cases h
    | some ms => rw [e] at h; cases h; rw [ints?_eq e]; rfl
  | .none :: _, _, h => by simp [ints?] at h
  | .bool _ :: _, _, h => by simp [ints?] at h
  | .str _ :: _, _, h => by simp [ints?] at h
  | .list _ :: _, _, h => by simp [ints?] at h
  | .tuple _ :: _, _, h => by simp [ints?] at h
  | .obj _ _ _ :: _, _, h => by simp [ints?] at h
theorem ints?_map : ∀ (ns : List Int), ints? (ns.map .int) = some ns
  | [] => rfl
  | n :: ns => by show (ints? (ns.map .int)).map (n :: ·) = _; rw [ints?_map ns]; rfl
def bls? : List D → Option (List Bool)
  | [] => some []
  | .bool i :: ds => (bls? ds).map (i :: ·)
  | _ :: _ => none
theorem bls?_eq : ∀ {ds : List D} {ns : List Bool}, bls? ds = some ns → ds = ns.map .bool
  | [], _, h => by cases h; rfl
  | .bool i :: ds, ns, h => by
    unfold bls? at h
    cases e : bls? ds with
    | none => rw [e] at h; cases h
    | some ms => rw [e] at h; cases h; rw [bls?_eq e]; rfl
  | .none :: _, _, h => by simp [bls?] at h
  | .int _ :: _, _, h => by simp [bls?] at h
  | .str _ :: _, _, h => by simp [bls?] at h
  | .list _ :: _, _, h => by simp [bls?] at h
  | .tuple _ :: _, _, h => by simp [bls?] at h
  | .obj _ _ _ :: _, _, h => by simp [bls?] at h
theorem bls?_map : ∀ (ns : List Bool), bls? (ns.map .bool) = some ns
  | [] => rfl
  | n :: ns => by show (bls? (ns.map .bool)).map (n :: ·) = _; rw [bls?_map ns]; rfl
def gSum : GL := fun rs => match rs with
  | [x] => (match x.d with | .list l => (ints? l).map fun ns => .c (.int ns.sum) | _ => none)
  | _ => none
theorem s_sum : SCl K (rSum K) gSum := by
  intro xs rs rc H W Q hW hx hg k
  unfold gSum at hg
  split at hg
  · rename_i x
    cases hx with
    | cons h t =>
      cases t
      have q := h.dp
      split at hg
      · rename_i l el
        cases e : ints? l with
        | none => rw [e] at hg; cases hg
        | some ns =>
          rw [e] at hg
          cases hg
          rw [el] at q
          obtain ⟨a, ys, rfl, h1, h2⟩ := Dp_list q
          rw [ints?_eq e] at h2
          rw [DpAll_ints h2] at h1
          exact ⟨a, ns, rfl, h1, k _ H (Same.refl H) (Dp.int _) trivial⟩
      · cases hg
  · cases hg
def gAny : GL := fun rs => match rs with
  | [x] => (match x.d with | .list l => (bls? l).map fun ns => .c (.bool (ns.any id)) | _ => none)
  | _ => none
def gAll : GL := fun rs => match rs with
  | [x] => (match x.d with | .list l => (bls? l).map fun ns => .c (.bool (ns.all id)) | _ => none)
  | _ => none
theorem s_all : SCl K (rAll K) gAll := by
  intro xs rs rc H W Q hW hx hg k
  unfold gAll at hg
  split at hg
  · rename_i x
    cases hx with
    | cons h t =>
      cases t
      have q := h.dp
      split at hg
      · rename_i l el
        cases e : bls? l with
        | none => rw [e] at hg; cases hg
        | some ns =>
          rw [e] at hg
          cases hg
          rw [el] at q
          obtain ⟨a, ys, rfl, h1, h2⟩ := Dp_list q
          rw [bls?_eq e] at h2
          rw [DpAll_bls h2] at h1
          exact ⟨a, ns, rfl, h1, k _ H (Same.refl H) (Dp.bl _) trivial⟩
      · cases hg
  · cases hg
def gList : GL := fun rs => match rs with
  | [x] => (match x.d with | .list l => if x.cl || flats l then some (.o l) else none | .tuple l => if x.cl || flats l then some (.o l) else none | _ => none)
  | _ => none
theorem m_callB {x : Str} {id : String} {r : List V → Hp → VK → Prop} {g : GL} (hc : CallR X (.builtin id) r) (hs : SCl X.K r g) (hm : X.mg x = none) (ha : PA X (e :: es) (tMA X.K n)) (hv : bootBuiltins x = some (.builtin id) := by decide +kernel) (hg : Gl X x := by rfl) (hn : x ≠ "__name__" := by decide) (hdb : (x == ("__debug__" : Str)) = false := by decide)
    (he : starEach (e :: es) X.env = (false, eval e X.env) :: starEach es X.env := by rfl) (hpl : (backTo pos (starEach es X.env)).any (·.1) = false := by rfl) : PE X (.Call (.Name x p) (e :: es) [] pos) (tM X.K (mCl g n)) :=
  pe_imp (pe_callB hc hg hm hv ha hn hdb he hpl) (tCB_of hs)
theorem m_callT {x : Str} {T : String} {r : List V → Hp → VK → Prop} {g : GL} (hc : CallR X (.type T) r) (hs : SCl X.K r g) (hm : X.mg x = none) (ha : PA X (e :: es) (tMA X.K n)) (hv : bootBuiltins x = some (.type T) := by decide +kernel) (hg : Gl X x := by rfl) (hn : x ≠ "__name__" := by decide) (hdb : (x == ("__debug__" : Str)) = false := by decide)
    (he : starEach (e :: es) X.env = (false, eval e X.env) :: starEach es X.env := by rfl) (hpl : (backTo pos (starEach es X.env)).any (·.1) = false := by rfl) : PE X (.Call (.Name x p) (e :: es) [] pos) (tM X.K (mCl g n)) :=
  pe_imp (pe_callTy hc hg hm hv ha hn hdb he hpl) (tCB_of hs)

/-! ### displays, items, slices -/
def mTup (n : MA) : ME := fun E => (n E).bind fun rs => if rs.length ≤ lim then some (match pros rs with | some ds => .c (.tuple ds) | none => .u (.tuple (rs.map R.d))) else none
theorem m_tup {x1 : Nat} (h : PA X es (tMA X.K n)) : PE X (.Tuple es x1 pos) (tM X.K (mTup n)) := pe_imp (pe_tup h) fun σ H Q ⟨E, W, rc, hH, hm, k⟩ => by
  obtain ⟨rs, ea, hm⟩ := bindSome hm
  split at hm
  · rename_i hl
    refine ⟨E, W, rs, hH, ea, fun vs H1 s1 r1 => ⟨by rw [r1.len]; exact Nat.le_trans hl lim_line, fun q hq => ?_⟩⟩
    have hd := (hH.grow s1).dom
    have cm := (Option.some.inj hm).symm
    cases ep : pros rs with
    | some ds => rw [ep] at cm; subst cm; exact k _ _ (s1.trans (same_new hq)) (new_t hd hq (r1.pros hd ep)) trivial
    | none => rw [ep] at cm; subst cm; exact k _ _ (s1.trans (same_new hq)) (new_tu hd hq r1.dps) trivial
  · cases hm
def mLst (n : MA) : ME := fun E => (n E).bind fun rs => if rs.length ≤ lim then (pros rs).map R.o else none
theorem m_lst (h : PA X es (tMA X.K n)) : PE X (.List es pos) (tM X.K (mLst n)) := pe_imp (pe_lst h) fun σ H Q ⟨E, W, rc, hH, hm, k⟩ => by
  obtain ⟨rs, ea, hm⟩ := bindSome hm
  split at hm
  · rename_i hl
    refine ⟨E, W, rs, hH, ea, fun vs H1 s1 r1 => ⟨by rw [r1.len]; exact Nat.le_trans hl lim_line, fun q hq => ?_⟩⟩
    have hd := (hH.grow s1).dom
    cases ep : pros rs with
    | some ds =>
      rw [ep] at hm
      cases hm
      obtain ⟨q1, q2⟩ := new_o hd hq (r1.pros hd ep)
      exact k _ _ (s1.trans (same_new hq)) q1 (q2.anti s1)
    | none => rw [ep] at hm; cases hm
  · cases hm
def R.mk' (cl : Bool) (d : D) : R := if cl || flat d then .c d else .u d
def gIx : G2 := fun x y => match x.d, y.d with
  | .list l, .int i => (atI l i).map (R.mk' x.cl)
  | .tuple l, .int i => (atI l i).map (R.mk' x.cl)
  | _, _ => none
theorem atI_D {H : Hp} {xs : List V} {ds : List D} {i : Int} {d : D} (h : DpAll K H xs ds) (e : atI ds i = some d) : ∃ v, atI xs i = some v ∧ Dp K H v d := by
  unfold atI at e ⊢
  rw [DpAll_len h]
  obtain ⟨j, e1, e2⟩ := bindSome e
  rw [e1]
  exact DpAll_get h e2
theorem mk'_ok {H : Hp} {W : WM} {v : V} {d : D} {cl : Bool} (hW : Dom W.w H) (h1 : cl = true → Dp K (hid W.w H) v d) (h2 : Dp K (hid W.z H) v d) : RA K H W v (R.mk' cl d) := by
  unfold R.mk'
  cases cl with
  | true => exact h1 rfl
  | false =>
    cases f : flat d with
    | true => exact dp_flat hW _ _ f (Dpm h2 hid_sub)
    | false => exact h2
theorem mk'_f {H H' : Hp} {v : V} {d : D} {cl : Bool} : RF H H' v (R.mk' cl d) := by
  unfold R.mk'
  split <;> trivial
def rIxD (K : PySem.W.Frag) : R2 := fun x y H Q => rIxL K x y H Q ∨ rIxT K x y H Q
theorem ix_D : IxR X (rIxD X.K) := IxR.or ix_list ix_tup
theorem RA.seqL {H : Hp} {W : WM} {v : V} {r : R} {l : List D} (h : RA K H W v r) (e : r.d = .list l) : ∃ a xs, v = .ref a ∧ SqL K H a xs ∧ DpAll K (hid W.z H) xs l ∧ (r.cl = true → DpAll K (hid W.w H) xs l) := by
  cases hc : r.cl with
  | true =>
    have q := h.cln hc
    rw [e] at q
    obtain ⟨a, xs, e1, e2, e3⟩ := Dp_list q
    exact ⟨a, xs, e1, hid_sub.seq e2, Dpam e3 (hid_mono WM.zw), fun _ => e3⟩
  | false =>
    have q := h.dz
    rw [e] at q
    obtain ⟨a, xs, e1, e2, e3⟩ := Dp_list q
    exact ⟨a, xs, e1, hid_sub.seq e2, e3, fun z => by cases z⟩
theorem RA.seqT {H : Hp} {W : WM} {v : V} {r : R} {l : List D} (h : RA K H W v r) (e : r.d = .tuple l) : ∃ a xs, v = .ref a ∧ SqT K H a xs ∧ DpAll K (hid W.z H) xs l ∧ (r.cl = true → DpAll K (hid W.w H) xs l) := by
  cases hc : r.cl with
  | true =>
    have q := h.cln hc
    rw [e] at q
    obtain ⟨a, xs, e1, e2, e3⟩ := Dp_tup q
    exact ⟨a, xs, e1, same_tup hid_sub e2, Dpam e3 (hid_mono WM.zw), fun _ => e3⟩
  | false =>
    have q := h.dz
    rw [e] at q
    obtain ⟨a, xs, e1, e2, e3⟩ := Dp_tup q
    exact ⟨a, xs, e1, same_tup hid_sub e2, e3, fun z => by cases z⟩
theorem atI_V {xs : List V} {ds : List D} {H : Hp} {i : Int} {v : V} (h : DpAll K H xs ds) (e : atI xs i = some v) {d : D} (ed : atI ds i = some d) : Dp K H v d := by
  obtain ⟨v', e1, q⟩ := atI_D h ed
  rw [e] at e1
  cases e1
  exact q
theorem s_ix : SOp K (rIxD K) gIx := by
  intro x y ra rb rc H W Q hW hx hy hg k
  unfold gIx at hg
  split at hg
  · rename_i l i el ei
    cases e : atI l i with
    | none => rw [e] at hg; cases hg
    | some d =>
      rw [e] at hg
      cases hg
      have h2 := hy.dp
      rw [ei] at h2
      cases Dp_int h2
      obtain ⟨a, xs, rfl, h1, hz, hw⟩ := hx.seqL el
      obtain ⟨v, e1, dv⟩ := atI_D hz e
      exact .inl ⟨a, xs, i, v, rfl, rfl, h1, e1, k v H (Same.refl H) (mk'_ok hW (fun hc => atI_V (hw hc) e1 e) dv) mk'_f⟩
  · rename_i l i el ei
    cases e : atI l i with
    | none => rw [e] at hg; cases hg
    | some d =>
      rw [e] at hg
      cases hg
      have h2 := hy.dp
      rw [ei] at h2
      cases Dp_int h2
      obtain ⟨a, xs, rfl, h1, hz, hw⟩ := hx.seqT el
      obtain ⟨v, e1, dv⟩ := atI_D hz e
      exact .inr ⟨a, xs, i, v, rfl, rfl, h1, e1, k v H (Same.refl H) (mk'_ok hW (fun hc => atI_V (hw hc) e1 e) dv) mk'_f⟩
  · cases hg
theorem m_ix (ha : PE X a (tM X.K ma)) (hb : PE X b (tM X.K mb)) (hs : PlainIx b := by intro _ _; rfl) : PE X (.Subscript a b pos) (tM X.K (mOp gIx ma mb)) := pe_imp (pe_ix ix_D ha hb hs) (tOp_of s_ix)

/-! slices of lists -/
def tMO (K : PySem.W.Frag) (m : Ev → Option (Option Int)) : TO := fun σ H Q => ∃ E W r, Held K H W σ E ∧ m E = some r ∧ ∀ H', Same H H' → Q r H'
theorem po_imp {o : Option Expr} {t t' : TO} (h : PO X o t) (i : ∀ σ H Q, t' σ H Q → t σ H Q) : PO X o t' := fun pins s σ H Q I q => h pins s σ H Q I (i σ H Q q)
def mNoPart : Ev → Option (Option Int) := fun _ => some none
theorem m_ponone : PO X none (tMO X.K mNoPart) := po_imp po_none fun σ H Q ⟨E, W, r, hH, hm, k⟩ => by cases hm; exact k H (Same.refl H)
def mPart (m : ME) : Ev → Option (Option Int) := fun E => (m E).bind fun r => match r.d with | .int i => some (some i) | _ => none
theorem m_posome (h : PE X e (tM X.K m)) : PO X (some e) (tMO X.K (mPart m)) := po_imp (po_some h) fun σ H Q ⟨E, W, r, hH, hm, k⟩ => by
  obtain ⟨ra, ea, hm⟩ := bindSome hm
  split at hm
  · rename_i i ei
    cases hm
    refine ⟨E, W, ra, hH, ea, fun x H1 s1 r1 f1 => ⟨i, ?_, k H1 s1⟩⟩
    have q := r1.dp
    rw [ei] at q
    exact Dp_int q
  · cases hm
def cutD (xs : List D) (lo hi : Option Int) : List D := (xs.drop (HT.sIx xs.length 0 lo)).take (HT.sIx xs.length xs.length hi - HT.sIx xs.length 0 lo)
theorem cut_D {H : Hp} {xs : List V} {ds : List D} (lo hi : Option Int) (h : DpAll K H xs ds) : DpAll K H (cutV xs lo hi) (cutD ds lo hi) := by
  unfold cutV cutD
  rw [DpAll_len h]
  exact DpAll_take _ (DpAll_drop _ h)
def gCut (x : R) (lo hi : Option Int) : Option R := match x.d with
  | .list l => if x.cl || flats l then some (.o (cutD l lo hi)) else none
  | _ => none
def mSl (m : ME) (ml mh : Ev → Option (Option Int)) : ME := fun E => (m E).bind fun x => (ml E).bind fun lo => (mh E).bind fun hi => gCut x lo hi
theorem m_slice {lo hi : Option Expr} {ml mh : Ev → Option (Option Int)} (he : PE X e (tM X.K m)) (hl : PO X lo (tMO X.K ml)) (hu : PO X hi (tMO X.K mh)) : PE X (.Subscript e (.Slice lo hi none p2) pos) (tM X.K (mSl m ml mh)) :=
  pe_imp (pe_slice sl_list he hl hu) fun σ H Q ⟨E, W, rc, hH, hm, k⟩ => by
    obtain ⟨ra, ea, hm⟩ := bindSome hm
    obtain ⟨l1, el, hm⟩ := bindSome hm
    obtain ⟨l2, eh, hm⟩ := bindSome hm
    refine ⟨E, W, ra, hH, ea, fun x H1 s1 r1 f1 => ⟨E, W, l1, hH.grow s1, el, fun H2 s2 => ⟨E, W, l2, (hH.grow s1).grow s2, eh, fun H3 s3 => ?_⟩⟩⟩
    have S := (s1.trans s2).trans s3
    have hd := (hH.grow S).dom
    unfold gCut at hm
    split at hm
    · rename_i l ell
      split at hm
      · rename_i hc
        cases hm
        obtain ⟨a, ys, rfl, h1, h2⟩ := (r1.grow (s2.trans s3)).items hd ell hc
        refine ⟨a, ys, rfl, h1, fun q hq => ?_⟩
        obtain ⟨q1, q2⟩ := new_o hd hq (cut_D l1 l2 h2)
        exact k _ _ (S.trans (same_new hq)) q1 (q2.anti S)
      · cases hm
    · cases hm
/-! xs[::-1] -/
def tRev (K : PySem.W.Frag) (te : TE) : TE := fun σ H Q => te σ H fun x H1 => ∃ a xs, x = .ref a ∧ SqL K H1 a xs ∧ ∀ p, H1 p = none → Q (.ref p) (upd H1 p (.lst xs.reverse))
theorem pe_rev {st : Expr} {te : TE} (he : PE X e te) (hst : PE X st (tC (.int (-1)))) : PE X (.Subscript e (.Slice none none (some st) p2) pos) (tRev X.K te) := by
  intro pins s σ H Q I h
  refine PyProof.Rows.Subscript_ (thn (he pins s σ H _ I h) fun v s1 ⟨x, H1, I1, r1, q1⟩ => ?_)
  obtain ⟨a, xs, rfl, hq, q⟩ := q1
  cases r1
  refine wpAny_Slice ?_
  rw [evalPart_none]
  refine wpAny_pure (wpAny_pure ?_)
  rw [evalPart_some]
  refine thn (hst pins s1 σ H1 (fun y H' => y = .int (-1) ∧ H' = H1) I1 ⟨rfl, rfl⟩) fun u s2 ⟨y, H2, I2, r2, e1, e2⟩ => ?_
  subst e1 e2
  obtain ⟨t, rfl⟩ := r2
  have I4 : Inv X pins σ H2 { s2 with heap := s2.heap.push { cls := .type "slice", data := .fields #[.none, .none, .int (-1) t] } } := I2.kept (t' := s2.toks) fun b ob q => Heap.get?_push_of_some _ q
  obtain ⟨its, r, ht, hz⟩ := I4.list hq
  have hlen := r.length
  refine PyProof.Rows.tail_any (ops := [.ref a, .ref s2.heap.objs.size]) ht.isList.typeIs F.slot_list_getitem.lookup ?_ (by with_unfolding_all rfl)
  refine wpAny_getItem_list_slice ht.isList (Heap.IsSliceOf.new ..) .none .none (.int (-1) t) (by decide) ?_ (by rw [List.size_toArray] <;> omega)
  rw [PySem.W.krv_pick]
  refine ⟨.ref _, _, I4.lnew (t' := s2.toks) (its := its.toArray.toList.reverse) (by simpa using r.reverse) (by simpa using hz), rfl, q _ I4.fresh⟩
theorem neg1 (j : Nat) (p1 p3 : Pos) : PE X (.UnaryOp .USub (.Constant (.int 1) j p1) p3) (tC (.int (-1))) := pe_imp (pe_un un_neg pe_int) fun σ H Q h => ⟨1, rfl, h⟩
def mRev (m : ME) : ME := fun E => (m E).bind fun x => match x.d with
  | .list l => if x.cl || flats l then some (.o l.reverse) else none
  | _ => none
theorem m_rev {st : Expr} (he : PE X e (tM X.K m)) (hst : PE X st (tC (.int (-1)))) : PE X (.Subscript e (.Slice none none (some st) p2) pos) (tM X.K (mRev m)) := pe_imp (pe_rev he hst) fun σ H Q ⟨E, W, rc, hH, hm, k⟩ => by
  obtain ⟨ra, ea, hm⟩ := bindSome hm
  refine ⟨E, W, ra, hH, ea, fun x H1 s1 r1 f1 => ?_⟩
  have hd := (hH.grow s1).dom
  split at hm
  · rename_i l ell
    split at hm
    · rename_i hc
      cases hm
      obtain ⟨a, ys, rfl, h1, h2⟩ := r1.items hd ell hc
      refine ⟨a, ys, rfl, h1, fun q hq => ?_⟩
      obtain ⟨q1, q2⟩ := new_o hd hq (DpAll_rev h2)
      exact k _ _ (s1.trans (same_new hq)) q1 (q2.anti s1)
    · cases hm
  · cases hm

/-! ### calls of defs -/
def R.up : R → R
  | .u d => .c d
  | r => r
mutual
def Tr.fleaf : Tr → Bool
  | .leaf d => flat d
  | .lst l => Tr.fleafs l
  | .tup l => Tr.fleafs l
  | .obj _ _ l => Tr.fleafs l
  | .dct _ l => Tr.fleafs l
def Tr.fleafs : List Tr → Bool
  | [] => true
  | t :: ts => t.fleaf && Tr.fleafs ts
end
theorem Tr.fleafs_fl : ∀ l : List D, Tr.fleafs (l.map .leaf) = flats l
  | [] => by simp [Tr.fleafs, flats]
  | d :: l => by simp [Tr.fleafs, Tr.fleaf, flats, Tr.fleafs_fl l]
theorem Tr.fleaf_fl (l : List D) : (Tr.fl l).fleaf = flats l := by unfold Tr.fl; rw [Tr.fleaf, Tr.fleafs_fl]
mutual
theorem lk_flat {H : Hp} {M M' : Msk} (hM : Dom M' H) : ∀ (T : Tr) (v : V) (as : List Addr), T.fleaf = true → Lk K H M v as T → Lk K H M' v as T
  | .leaf d, _, _, f, h => by cases h with | leaf h => exact .leaf (dp_flat hM _ _ (by simpa [Tr.fleaf] using f) (Dpm h hid_sub))
  | .lst l, _, _, f, h => by cases h with | lst h1 h2 => exact .lst h1 (lks_flat hM l _ _ (by simpa [Tr.fleaf] using f) h2)
  | .tup l, _, _, f, h => by cases h with | tup h1 h2 => exact .tup h1 (lks_flat hM l _ _ (by simpa [Tr.fleaf] using f) h2)
  | .obj C ns l, _, _, f, h => by cases h with | obj h1 h2 => exact .obj h1 (lks_flat hM l _ _ (by simpa [Tr.fleaf] using f) h2)
  | .dct ks l, _, _, f, h => by cases h with | dct h1 h2 => exact .dct h1 (lks_flat hM l _ _ (by simpa [Tr.fleaf] using f) h2)
theorem lks_flat {H : Hp} {M M' : Msk} (hM : Dom M' H) : ∀ (l : List Tr) (vs : List V) (as : List Addr), Tr.fleafs l = true → Lks K H M vs as l → Lks K H M' vs as l
  | [], _, _, _, h => by cases h; exact .nil
  | t :: ts, _, _, f, h => by
    simp only [Tr.fleafs, Bool.and_eq_true] at f
    cases h with | cons h1 h2 => exact .cons (lk_flat hM t _ _ f.1 h1) (lks_flat hM ts _ _ f.2 h2)
end
def R.taint : R → R
  | .c d => if flat d then .c d else .u d
  | .u d => if flat d then .c d else .u d
  | .t T => if T.fleaf then .t T else .u T.d
def spD (K : PySem.W.Frag) (n : Nat) (g : List D → Option R) : Sp := fun vs H Q _ => vs.length = n ∧ ∃ Z ds r, Dom Z H ∧ DpAll K (hid Z H) vs ds ∧ g ds = some r ∧ ∀ v H', Same H H' → RA K H' ⟨Z, noM⟩ v r → RF H H' v r → Q v H'
def mCall (n0 : Nat) (g : List D → Option R) (n : MA) : ME := fun E => (n E).bind fun rs => if rs.length = n0 then (match pros rs with
  | some ds => (g ds).map R.up
  | none => (g (rs.map R.d)).map R.taint) else none
theorem up_ok {H' : Hp} {W : WM} {v : V} {r : R} (h : RA K H' ⟨W.w, noM⟩ v r) : RA K H' W v r.up := by
  cases r with
  | c d => have h : Dp K (hid (WM.mk W.w noM).w H') v d := h; rw [WM.w0] at h; exact h
  | u d => exact h
  | t T =>
    obtain ⟨hd, as, h1, h2, h3⟩ := h
    rw [WM.w0] at hd h1 h3
    exact ⟨hd, as, h1, h2, h3⟩
theorem up_f {H H' : Hp} {v : V} {r : R} (h : RF H H' v r) : RF H H' v r.up := by cases r <;> exact h
theorem adms_dom {H : Hp} {W M : Msk} {v : V} {as : List Addr} {T : Tr} (hW : Dom W H) (h : Lk K H M v as T) : Dom (adms as W) H := fun a ha => by
  rcases adms_mem ha with q | q
  · exact hW a q
  · exact lk_lst T v as h a q
theorem taint_ok {H H' : Hp} {W : WM} {v : V} {r : R} (hW : Dom W.w H) (s : Same H H') (h : RA K H' ⟨W.z, noM⟩ v r) (f : RF H H' v r) : RA K H' W v r.taint := by
  have hW' := hW.grow s
  have one : ∀ {d : D}, Dp K (hid W.z H') v d → RA K H' W v (if flat d then .c d else .u d) := fun {d} q => by
    split
    · rename_i fl
      exact dp_flat hW' _ _ fl (Dpm q hid_sub)
    · exact q
  cases r with
  | c d => have h : Dp K (hid (WM.mk W.z noM).w H') v d := h; rw [WM.w0] at h; exact one h
  | u d => exact one h
  | t T =>
    have hz := h.dz
    obtain ⟨hd, as, h1, h2, h3⟩ := h
    have hf := f K _ as h1
    show RA K H' W v (if T.fleaf then .t T else .u T.d)
    split
    · rename_i fl
      exact ⟨hW', as, lk_flat (adms_dom hW' h1) T v as fl h1, h2, fun a ha => hW.free (hf a ha)⟩
    · exact hz
theorem taint_f {H H' : Hp} {v : V} {r : R} (h : RF H H' v r) : RF H H' v r.taint := by
  cases r with
  | c d => show RF H H' v (if flat d then .c d else .u d); split <;> trivial
  | u d => show RF H H' v (if flat d then .c d else .u d); split <;> trivial
  | t T =>
    show RF H H' v (if T.fleaf then .t T else .u T.d)
    split
    · exact h
    · trivial
theorem mapSome {α β : Type} {a : Option α} {f : α → β} {b : β} (h : a.map f = some b) : ∃ x, a = some x ∧ f x = b := by
  cases a with
  | none => cases h
  | some x => exact ⟨x, rfl, Option.some.inj h⟩
theorem tCall_of {g : List D → Option R} {n0 : Nat} : ∀ σ H Q, tM K (mCall n0 g n) σ H Q → tCall (spD K n0 g) [] E0 (tMA K n) σ H Q := fun σ H Q ⟨E, W, rc, hH, hm, k⟩ => by
  obtain ⟨rs, ea, hm⟩ := bindSome hm
  split at hm
  · rename_i hn
    refine ⟨E, W, rs, hH, ea, fun vs H1 s1 r1 => ?_⟩
    have hd := (hH.grow s1).dom
    show spD K n0 g (vs ++ []) H1 Q E0
    rw [List.append_nil]
    refine ⟨by rw [r1.len]; exact hn, ?_⟩
    split at hm
    · rename_i ds ep
      obtain ⟨r, eg, e2⟩ := mapSome hm
      subst e2
      exact ⟨W.w, ds, r, hd, r1.pros hd ep, eg, fun v H' s' ra rf => k v H' (s1.trans s') (up_ok ra) (up_f (rf.anti s1))⟩
    · obtain ⟨r, eg, e2⟩ := mapSome hm
      subst e2
      exact ⟨W.z, _, r, fun a ha => hd a (WM.zw a ha), r1.dps, eg, fun v H' s' ra rf => k v H' (s1.trans s') (taint_ok hd s' ra rf) (taint_f (rf.anti s1))⟩
  · cases hm
theorem m_call {x : Str} {f : Addr} {fd : FuncData} {ps : List Str} {k n0 : Nat} {g : List D → Option R} (F : FnOk X.prog X.w X.K X.mg X.base CX0 k f fd ps (spD X.K n0 g)) (hr : Room k X.A) (hm : X.mg x = some (.ref f)) (hk : PySem.W.keepIn X.K (.ref f) = true) (hb : Binds X.K fd ps [])
    (ha : PA X (e :: es) (tMA X.K n)) (hg : Gl X x := by rfl) (hdb : (x == ("__debug__" : Str)) = false := by decide) (he : starEach (e :: es) X.env = (false, eval e X.env) :: starEach es X.env := by rfl) (hpl : (backTo pos (starEach es X.env)).any (·.1) = false := by rfl) :
    PE X (.Call (.Name x p) (e :: es) [] pos) (tM X.K (mCall n0 g n)) :=
  pe_imp (pe_call (E := E0) F hr hg hm hk hb .nil pass0 ha hdb he hpl) tCall_of
end
end MD

namespace MD
open PySem PySem.Spec L2

/-! ### the names' values change -/
def setAll (σ : L2.St) : List Nat → List V → L2.St
  | i :: is, v :: vs => setAll (σ.set i (some v)) is vs
  | _, _ => σ
def setAllE (E : Ev) : List Nat → List D → Ev
  | i :: is, d :: ds => setAllE (E.set i (some (.v d))) is ds
  | _, _ => E
theorem Held.setv {K : PySem.W.Frag} {H : Hp} {W : WM} {σ : L2.St} {E : Ev} (h : Held K H W σ E) (i : Nat) {x : V} {d : D} (hx : Dp K (hid W.w H) x d) : Held K H W (σ.set i (some x)) (E.set i (some (.v d))) := by
  refine ⟨h.dom, by rw [List.length_set, List.length_set]; exact h.len, fun j d' e => ?_, fun j T e => ?_, fun j j' T T' y y' as bs M M' a e e' q q' => ?_⟩
  · rw [List.getElem?_set] at e ⊢
    rw [h.len]
    split at e
    · split at e
      · cases e
        rename_i h1 h2
        rw [if_pos h1, if_pos h2]
        exact ⟨x, rfl, hx⟩
      · cases e
    · rename_i h1
      rw [if_neg h1]
      exact h.val j d' e
  · rw [List.getElem?_set] at e ⊢
    rw [h.len]
    split at e
    · split at e <;> cases e
    · rename_i h1
      rw [if_neg h1]
      exact h.own j T e
  · rw [List.getElem?_set] at e e' q q'
    split at e
    · split at e <;> cases e
    · split at e'
      · split at e' <;> cases e'
      · rename_i h1 h2
        rw [if_neg h1] at q
        rw [if_neg h2] at q'
        exact h.inj j j' T T' y y' as bs M M' a e e' q q'
theorem Held.setn {K : PySem.W.Frag} {H : Hp} {W : WM} {σ : L2.St} {E : Ev} (h : Held K H W σ E) (i : Nat) (x : Option V) : Held K H W (σ.set i x) (E.set i none) := by
  refine ⟨h.dom, by rw [List.length_set, List.length_set]; exact h.len, fun j d' e => ?_, fun j T e => ?_, fun j j' T T' y y' as bs M M' a e e' q q' => ?_⟩
  · rw [List.getElem?_set] at e ⊢
    rw [h.len]
    split at e
    · split at e
      · cases e
      · cases e
    · rename_i h1
      rw [if_neg h1]
      exact h.val j d' e
  · rw [List.getElem?_set] at e ⊢
    rw [h.len]
    split at e
    · split at e <;> cases e
    · rename_i h1
      rw [if_neg h1]
      exact h.own j T e
  · rw [List.getElem?_set] at e e' q q'
    split at e
    · split at e <;> cases e
    · split at e'
      · split at e' <;> cases e'
      · rename_i h1 h2
        rw [if_neg h1] at q
        rw [if_neg h2] at q'
        exact h.inj j j' T T' y y' as bs M M' a e e' q q'
theorem Held.setAll {K : PySem.W.Frag} {H : Hp} {W : WM} : ∀ {is : List Nat} {vs : List V} {ds : List D} {σ : L2.St} {E : Ev}, Held K H W σ E → DpAll K (hid W.w H) vs ds → Held K H W (MD.setAll σ is vs) (setAllE E is ds)
  | [], _, _, _, _, h, _ => h
  | i :: is, _, _, _, _, h, .nil => h
  | i :: is, _, _, _, _, h, .cons hd t => Held.setAll (is := is) (h.setv i hd) t
def wipeE (E : Ev) : List Nat → Ev
  | [] => E
  | i :: is => (wipeE E is).set i none
theorem Held.wipe {K : PySem.W.Frag} {H : Hp} {W : WM} {σ : L2.St} {E : Ev} (h : Held K H W σ E) : ∀ is : List Nat, Held K H W (L2.wipe σ is) (wipeE E is)
  | [] => h
  | i :: is => (Held.wipe h is).setn i none
theorem wipe_get (σ : L2.St) (j : Nat) : ∀ is : List Nat, (L2.wipe σ is)[j]? = if j ∈ is then (if j < σ.length then some none else none) else σ[j]?
  | [] => by simp [L2.wipe]
  | i :: is => by
    unfold L2.wipe
    rw [List.getElem?_set, wipe_get σ j is, L2.wipe_length]
    by_cases h : i = j
    · subst h; simp
    · have h' : ¬ j = i := fun z => h z.symm
      simp [h, h']
theorem setAll_len : ∀ (is : List Nat) (vs : List V) (σ : L2.St), (MD.setAll σ is vs).length = σ.length
  | [], _, _ => by simp [MD.setAll]
  | _ :: _, [], _ => by simp [MD.setAll]
  | i :: is, v :: vs, σ => by
    show (MD.setAll (σ.set i (some v)) is vs).length = _
    rw [setAll_len is vs, List.length_set]
theorem setAll_get : ∀ (is : List Nat) (vs : List V) (σ : L2.St) (j : Nat), j ∉ is → (MD.setAll σ is vs)[j]? = σ[j]?
  | [], _, _, _, _ => by simp [MD.setAll]
  | _ :: _, [], _, _, _ => by simp [MD.setAll]
  | i :: is, v :: vs, σ, j, h => by
    show (MD.setAll (σ.set i (some v)) is vs)[j]? = _
    rw [setAll_get is vs _ j (fun z => h (List.mem_cons_of_mem _ z)), List.getElem?_set, if_neg (fun z => h (by rw [z]; exact List.mem_cons_self))]
theorem wipe_setAll (σ : L2.St) (is : List Nat) (vs : List V) : L2.wipe (MD.setAll (L2.wipe σ is) is vs) is = L2.wipe σ is := by
  apply List.ext_getElem?
  intro j
  rw [wipe_get, wipe_get, setAll_len, L2.wipe_length]
  by_cases h : j ∈ is
  · simp [h]
  · simp only [h, if_false]
    rw [setAll_get is vs _ j h, wipe_get]
    simp [h]

/-! ### what a for or a comprehension goes over -/
def Walk (K : PySem.W.Frag) (J : It) (B : Hp) (l : List D) : Prop := ∀ (i : Nat) (M : Msk) (H : Hp), Same B (hid M H) → Dom M H →
  (∀ d, l[i]? = some d → J.go i H ∧ ∀ x H', J.yld i H x H' → Same H H' ∧ Dp K (hid M H') x d) ∧ (l.length ≤ i → J.stop i H)
abbrev MI := Ev → Option (Bool × List D)
def WM.of (W : WM) (c : Bool) : Msk := if c = true then W.w else W.z
def tMI (K : PySem.W.Frag) (m : MI) : TI := fun σ H Q => ∃ E W c l, Held K H W σ E ∧ m E = some (c, l) ∧ ∀ J H', Same H H' → Walk K J (hid (W.of c) H') l → Q J H'
theorem pi_imp {X : Cx} {tg e : Expr} {t t' : TI} (h : PI X tg e t) (i : ∀ σ H Q, t' σ H Q → t σ H Q) : PI X tg e t' := fun pins s σ H Q I q => h pins s σ H Q I (i σ H Q q)
section
variable {X : Cx} {K : PySem.W.Frag} {e tg : Expr} {m ma mb : ME} {n : MA} {pos p : Pos} {es : List Expr}
def mIL (m : ME) : MI := fun E => (m E).bind fun r => match r.d with | .list l => some (r.cl, l) | _ => none
theorem walk_list {H1 : Hp} {B : Hp} {a : Addr} {xs : List V} {l : List D} (h1 : SqL K B a xs) (h2 : DpAll K B xs l) : Walk K (Itl K a) B l := by
  intro i M H e _
  have hs : SqL K H a xs := hid_sub.seq (e.seq h1)
  have hs' : SqL K (hid M H) a xs := e.seq h1
  refine ⟨fun d hd => ?_, fun hi => ⟨xs, hs, by rw [DpAll_len h2]; exact hi⟩⟩
  obtain ⟨v, hv, dv⟩ := DpAll_get h2 hd
  refine ⟨⟨xs, v, hs, hv⟩, fun x H' y => ?_⟩
  obtain ⟨e1, hy⟩ := y
  subst e1
  have := hy xs hs
  rw [hv] at this
  cases this
  exact ⟨Same.refl _, Dpm dv e⟩
theorem m_ilist (h : PE X e (tM X.K m)) : PI X tg e (tMI X.K (mIL m)) := pi_imp (pi_list h) fun σ H Q ⟨E, W, c, l, hH, hm, k⟩ => by
  obtain ⟨r, ea, hm⟩ := bindSome hm
  split at hm
  · rename_i l' el
    cases hm
    refine ⟨E, W, r, hH, ea, fun x H1 s1 r1 f1 => ?_⟩
    cases hc : r.cl with
    | true =>
      rw [hc] at k
      have q := r1.cln hc
      rw [el] at q
      obtain ⟨a, xs, rfl, h1, h2⟩ := Dp_list q
      exact ⟨a, rfl, ⟨xs, hid_sub.seq h1⟩, k _ H1 s1 (walk_list (H1 := H1) h1 h2)⟩
    | false =>
      rw [hc] at k
      have q := r1.dz
      rw [el] at q
      obtain ⟨a, xs, rfl, h1, h2⟩ := Dp_list q
      exact ⟨a, rfl, ⟨xs, hid_sub.seq h1⟩, k _ H1 s1 (walk_list (H1 := H1) h1 h2)⟩
  · cases hm
def rng (lo : Int) (n : Nat) : List D := (List.range n).map fun (i : Nat) => D.int (lo + i)
theorem walk_rng {B : Hp} (lo : Int) (n : Nat) : Walk K (Itr lo n) B (rng lo n) := by
  intro i M H e _
  refine ⟨fun d hd => ?_, fun hi => show n ≤ i by simpa [rng] using hi⟩
  unfold rng at hd
  rw [List.getElem?_map] at hd
  have hi : i < n := by
    cases q : (List.range n)[i]? with
    | none => rw [q] at hd; cases hd
    | some z => have := (List.getElem?_eq_some_iff.mp q).1; simpa using this
  have hz : (List.range n)[i]? = some i := by simp [hi]
  rw [hz] at hd
  cases hd
  refine ⟨hi, fun x H' y => ?_⟩
  obtain ⟨e1, e2⟩ := y
  subst e1 e2
  exact ⟨Same.refl _, Dp.int _⟩
def big62 (j : Int) : Bool := decide (-(2 ^ 62) ≤ j ∧ j < 2 ^ 62)
def mIR1 (n : MA) : MI := fun E => (n E).bind fun rs => match rs with
  | [x] => (match x.d with | .int j => if big62 j then some (true, rng 0 j.toNat) else none | _ => none)
  | _ => none
theorem m_irange1 {a : Expr} (hm : X.mg "range" = none) (ha : PA X [a] (tMA X.K n)) (hg : Gl X "range" := by rfl) (hs : starEach [a] X.env = [(false, eval a X.env)] := by rfl) : PI X tg (.Call (.Name "range" p) [a] [] pos) (tMI X.K (mIR1 n)) :=
  pi_imp (pi_range1 hg hm ha hs) fun σ H Q ⟨E, W, c, l, hH, hm, k⟩ => by
    obtain ⟨rs, ea, hm⟩ := bindSome hm
    split at hm
    · rename_i x
      split at hm
      · rename_i j ej
        split at hm
        · rename_i hb
          cases hm
          have hb := of_decide_eq_true hb
          refine ⟨E, W, _, hH, ea, fun vs H1 s1 r1 => ?_⟩
          cases r1 with
          | cons h t =>
            cases t
            have q := h.dp
            rw [ej] at q
            cases Dp_int q
            exact ⟨j, rfl, hb.1, hb.2, k _ H1 s1 (walk_rng _ _)⟩
        · cases hm
      · cases hm
    · cases hm
def mIR2 (n : MA) : MI := fun E => (n E).bind fun rs => match rs with
  | [x, y] => (match x.d, y.d with | .int i, .int j => if big62 i && big62 j then some (true, rng i (j - i).toNat) else none | _, _ => none)
  | _ => none
theorem m_irange2 {a b : Expr} (hm : X.mg "range" = none) (ha : PA X [a, b] (tMA X.K n)) (hg : Gl X "range" := by rfl) (hs : starEach [a, b] X.env = [(false, eval a X.env), (false, eval b X.env)] := by rfl) (hs2 : starEach [b] X.env = [(false, eval b X.env)] := by rfl) :
    PI X tg (.Call (.Name "range" p) [a, b] [] pos) (tMI X.K (mIR2 n)) :=
  pi_imp (pi_range2 hg hm ha hs hs2) fun σ H Q ⟨E, W, c, l, hH, hm, k⟩ => by
    obtain ⟨rs, ea, hm⟩ := bindSome hm
    split at hm
    · rename_i x y
      split at hm
      · rename_i i j ei ej
        split at hm
        · rename_i hb
          cases hm
          rw [Bool.and_eq_true] at hb
          have hb1 := of_decide_eq_true hb.1
          have hb2 := of_decide_eq_true hb.2
          refine ⟨E, W, _, hH, ea, fun vs H1 s1 r1 => ?_⟩
          cases r1 with
          | cons h t =>
            cases t with
            | cons h' t =>
              cases t
              have q := h.dp
              have q' := h'.dp
              rw [ei] at q
              rw [ej] at q'
              cases Dp_int q
              cases Dp_int q'
              exact ⟨i, j, rfl, ⟨hb1.1, hb1.2, hb2.1, hb2.2⟩, k _ H1 s1 (walk_rng _ _)⟩
        · cases hm
      · cases hm
    · cases hm
def zips : List D → List D → List D
  | x :: xs, y :: ys => .tuple [x, y] :: zips xs ys
  | _, _ => []
def mIZ (n : MA) : MI := fun E => (n E).bind fun rs => match rs with
  | [x, y] => (match x.d, y.d with | .list l, .list l' => some (x.cl && y.cl, zips l l') | _, _ => none)
  | _ => none
/-! ### targets -/
def TgOk (K : PySem.W.Frag) (g : TG) (is : List Nat) (pick : D → Option (List D)) : Prop :=
  ∀ (M : Msk) (v : V) (d : D) (ds : List D) (σ : L2.St) (H : Hp) (Q : L2.St → Hp → Prop), Dp K (hid M H) v d → pick d = some ds → (∀ vs, DpAll K (hid M H) vs ds → Q (MD.setAll σ is vs) H) → g v σ H Q
def pick1 : D → Option (List D) := fun d => some [d]
theorem tg1 (i : Nat) : TgOk K (gName i) [i] pick1 := fun M v d ds σ H Q h e k => by
  cases e
  exact k [v] (.cons h .nil)
def pick2 : D → Option (List D) := fun d => match d with | .tuple [x, y] => some [x, y] | _ => none
theorem tg2 (i j : Nat) : TgOk K (gTup K 2 (gCons (gName i) (gCons (gName j) gNil))) [i, j] pick2 := fun M v d ds σ H Q h e k => by
  unfold pick2 at e
  split at e
  · cases e
    obtain ⟨a, xs, rfl, h1, h2⟩ := Dp_tup h
    cases h2 with
    | cons d1 t =>
      cases t with
      | cons d2 t =>
        cases t
        exact ⟨a, _, rfl, same_tup hid_sub h1, rfl, _, _, rfl, _, _, rfl, rfl, k _ (.cons d1 (.cons d2 .nil))⟩
  · cases e

/-! ### comprehensions -/
def lcD (is : List Nat) (pick : D → Option (List D)) (c : Bool) (mt : MT) (me : ME) (E0 : Ev) : List D → Option (List D)
  | [] => some []
  | d :: ds => if c || flat d then (pick d).bind fun qs => (mt (setAllE E0 is qs)).bind fun b => if b = true then (me (setAllE E0 is qs)).bind fun x => x.pro.bind fun y => (lcD is pick c mt me E0 ds).bind fun ys => some (y :: ys) else lcD is pick c mt me E0 ds else none
def mLc (is : List Nat) (pick : D → Option (List D)) (mi : MI) (mt : MT) (me : ME) : ME := fun E => (mi E).bind fun cl => if cl.2.length ≤ lim then (lcD is pick cl.1 mt me (wipeE E is) cl.2).map R.o else none
theorem Held.inj_of {H H' : Hp} {W W' : WM} {σ : L2.St} {E : Ev} (h : Held K H W σ E) (own : ∀ (i : Nat) (T : Tr), E[i]? = some (some (.t T)) → ∀ x as, σ[i]? = some (some x) → Lk K H W.w x as T → Lk K H' W'.w x as T) :
    ∀ (i j : Nat) (T T' : Tr) (x x' : V) (as bs : List Addr) (M M' : Msk) (a : Addr), E[i]? = some (some (.t T)) → E[j]? = some (some (.t T')) → σ[i]? = some (some x) → σ[j]? = some (some x') → Lk K H' M x as T → Lk K H' M' x' bs T' → a ∈ as → a ∈ bs → i = j := by
  intro i j T T' x x' as bs M M' a e1 e2 q1 q2 l1 l2 ha hb
  obtain ⟨y, as', g1, g2, g3, g4⟩ := h.own i T e1
  obtain ⟨y', bs', k1, k2, k3, k4⟩ := h.own j T' e2
  rw [q1] at g1
  cases g1
  rw [q2] at k1
  cases k1
  have z1 := lk_det T _ _ _ l1 (own i T e1 _ _ q1 g2)
  have z2 := lk_det T' _ _ _ l2 (own j T' e2 _ _ q2 k2)
  subst z1 z2
  exact h.inj i j T T' _ _ _ _ _ _ a e1 e2 q1 q2 g2 k2 ha hb
theorem Held.hideG {H : Hp} {W : WM} {σ : L2.St} {E : Ev} (h : Held K H W σ E) {D : Addr} (hD : H D = none) (o : HO) (mo : Mu o) : Held K (upd H D o) (W.add D) σ E := by
  have sn := same_new (o := o) hD
  have hw : (W.add D).w = adm D W.w := W.add_w D
  have sm : Same (hid W.w H) (hid (W.add D).w (upd H D o)) := by rw [hw]; exact hid_new hD
  refine ⟨fun a ha => ?_, h.len, fun i d q => let ⟨x, h1, h2⟩ := h.val i d q; ⟨x, h1, Dpm h2 sm⟩, fun i T q => ?_, h.inj_of fun i T q x as _ l => lk_mono sn sm T x as l⟩
  · rw [hw] at ha
    unfold adm at ha
    rw [Bool.or_eq_true, decide_eq_true_eq] at ha
    rcases ha with ha | ha
    · obtain ⟨xs, e, m⟩ := h.dom a ha
      exact ⟨xs, sn _ _ e, m⟩
    · subst ha; exact ⟨o, upd_same, mo⟩
  · obtain ⟨x, as, h1, h2, h3, h4⟩ := h.own i T q
    refine ⟨x, as, h1, lk_mono sn sm T x as h2, h3, fun a ha => ⟨(h4 a ha).1, ?_⟩⟩
    obtain ⟨xs, e, _⟩ := lk_lst T x as h2 a ha
    show (W.z a || decide (a = D)) = false
    rw [(h4 a ha).2, decide_eq_false (ne_of_none e hD)]
    rfl
theorem Held.hide {H : Hp} {W : WM} {σ : L2.St} {E : Ev} (h : Held K H W σ E) {D : Addr} (hD : H D = none) (vs : List V) : Held K (upd H D (.lst vs)) (W.add D) σ E := h.hideG hD _ trivial
theorem hid_in {W : Msk} {H : Hp} {D : Addr} {o : HO} (h : W D = true) : hid W (upd H D o) = hid W H := by
  funext b
  unfold hid
  by_cases e : W b = true
  · rw [if_pos e, if_pos e]
  · rw [if_neg e, if_neg e]
    exact upd_ne (fun z => e (by rw [z]; exact h))
mutual
theorem lk_awayG {H : Hp} {M : Msk} {D : Addr} {o o' : HO} (hD : H D = some o) (mo : Mu o) (hM : M D = true) : ∀ (T : Tr) (v : V) (as : List Addr), D ∉ as → Lk K H M v as T → Lk K (upd H D o') M v as T
  | .leaf d, _, _, _, h => by cases h with | leaf h => exact .leaf (by rw [hid_in hM]; exact h)
  | .lst l, _, _, n, h => by
    cases h with
    | lst h1 h2 => exact .lst (by rw [upd_ne (fun z => n (by rw [z]; exact List.mem_cons_self))]; exact h1) (lks_awayG hD mo hM l _ _ (fun z => n (List.mem_cons_of_mem _ z)) h2)
  | .tup l, _, _, n, h => by
    cases h with
    | tup h1 h2 => exact .tup (by rw [upd_ne (fun z => by rw [z, hD] at h1; cases h1; exact mo)]; exact h1) (lks_awayG hD mo hM l _ _ n h2)
  | .obj C ns l, _, _, n, h => by
    cases h with
    | obj h1 h2 => exact .obj (by rw [upd_ne (fun z => by rw [z, hD] at h1; cases h1; exact mo)]; exact h1) (lks_awayG hD mo hM l _ _ n h2)
  | .dct ks l, _, _, n, h => by
    cases h with
    | dct h1 h2 => exact .dct (by rw [upd_ne (fun z => n (by rw [z]; exact List.mem_cons_self))]; exact h1) (lks_awayG hD mo hM l _ _ (fun z => n (List.mem_cons_of_mem _ z)) h2)
theorem lks_awayG {H : Hp} {M : Msk} {D : Addr} {o o' : HO} (hD : H D = some o) (mo : Mu o) (hM : M D = true) : ∀ (l : List Tr) (vs : List V) (as : List Addr), D ∉ as → Lks K H M vs as l → Lks K (upd H D o') M vs as l
  | [], _, _, _, h => by cases h; exact .nil
  | t :: ts, _, _, n, h => by
    cases h with
    | cons h1 h2 => exact .cons (lk_awayG hD mo hM t _ _ (fun z => n (List.mem_append_left _ z)) h1) (lks_awayG hD mo hM ts _ _ (fun z => n (List.mem_append_right _ z)) h2)
end
theorem lk_away {H : Hp} {M : Msk} {D : Addr} {xs ys : List V} (hD : H D = some (.lst xs)) (hM : M D = true) (T : Tr) (v : V) (as : List Addr) (n : D ∉ as) (h : Lk K H M v as T) : Lk K (upd H D (.lst ys)) M v as T := lk_awayG hD trivial hM T v as n h
theorem lks_away {H : Hp} {M : Msk} {D : Addr} {xs ys : List V} (hD : H D = some (.lst xs)) (hM : M D = true) (l : List Tr) (vs : List V) (as : List Addr) (n : D ∉ as) (h : Lks K H M vs as l) : Lks K (upd H D (.lst ys)) M vs as l := lks_awayG hD trivial hM l vs as n h
theorem Held.updzG {H : Hp} {W : WM} {σ : L2.St} {E : Ev} (h : Held K H W σ E) {D : Addr} (hD : W.z D = true) (o : HO) (mo : Mu o) : Held K (upd H D o) W σ E := by
  have eq : hid W.w (upd H D o) = hid W.w H := hid_in (WM.zw D hD)
  obtain ⟨xs, eD, mD⟩ := h.dom D (WM.zw D hD)
  have away : ∀ (i : Nat) (T : Tr), E[i]? = some (some (.t T)) → ∀ x as, σ[i]? = some (some x) → Lk K H W.w x as T → Lk K (upd H D o) W.w x as T := fun i T q x as q2 l => by
    obtain ⟨y, as', g1, g2, g3, g4⟩ := h.own i T q
    rw [q2] at g1
    cases g1
    have z := lk_det T _ _ _ l g2
    subst z
    exact lk_awayG eD mD (WM.zw D hD) T x as (fun hm => by rw [(g4 D hm).2] at hD; cases hD) l
  refine ⟨fun a ha => ?_, h.len, fun i d q => by rw [eq]; exact h.val i d q, fun i T q => ?_, h.inj_of away⟩
  · by_cases e : a = D
    · subst e; exact ⟨o, upd_same, mo⟩
    · rw [upd_ne e]; exact h.dom a ha
  · obtain ⟨x, as, h1, h2, h3, h4⟩ := h.own i T q
    exact ⟨x, as, h1, away i T q x as h1 h2, h3, h4⟩
theorem Held.updz {H : Hp} {W : WM} {σ : L2.St} {E : Ev} (h : Held K H W σ E) {D : Addr} (hD : W.z D = true) (vs : List V) : Held K (upd H D (.lst vs)) W σ E := h.updzG hD _ trivial
theorem adm_self {p : Addr} {W : Msk} : adm p W p = true := by unfold adm; simp
theorem tLc_of {is : List Nat} {pick : D → Option (List D)} {mi : MI} {mt : MT} {me : ME} {g : TG} (hg : TgOk K g is pick) : ∀ σ H Q, tM K (mLc is pick mi mt me) σ H Q → tLc (tMI K mi) g (tMT K mt) (tM K me) is σ H Q := fun σ H Q ⟨E, W, rc, hH, hm, k⟩ => by
  obtain ⟨⟨c, l⟩, ei, hm⟩ := bindSome hm
  split at hm
  · rename_i hlim
    obtain ⟨res, er, e2⟩ := mapSome hm
    subst e2
    have hlim : l.length ≤ lim := hlim
    refine ⟨E, W, c, l, hH, ei, fun J H1 s1 hw D hD => ?_⟩
    have hH1 := hH.grow s1
    have hD0 : W.w D = false := hH1.dom.free hD
    have zD : (W.add D).z D = true := adm_self
    -- the turns: the list so far, and what is to come
    let INV : Nat → Hp → Prop := fun i H2 => Same H1 H2 ∧ Held K H2 (W.add D) (L2.wipe σ is) (wipeE E is) ∧ ∃ acc ad rest, H2 D = some (.lst acc) ∧ DpAll K (hid (adm D W.w) H2) acc ad ∧ lcD is pick c mt me (wipeE E is) (l.drop i) = some rest ∧ ad ++ rest = res ∧ acc.length ≤ i
    refine ⟨fun i m H2 => m = l.length - i ∧ i ≤ l.length ∧ INV i H2, ⟨l.length, by simp, Nat.zero_le _, same_new hD, (hH1.hide hD []).wipe is, [], [], res, upd_same, .nil, by simpa using er, rfl, Nat.le_refl _⟩, ?_⟩
    rintro i mm H2 ⟨rfl, hi, S, hh, acc, ad, rest, eD, da, el, ea, hl⟩
    have hM : Dom (adm D (W.of c)) H2 := fun a ha => by
      have q : (W.add D).w a = true := by
        rw [W.add_w D]
        unfold adm at ha ⊢
        rw [Bool.or_eq_true] at ha ⊢
        rcases ha with ha | ha
        · left
          unfold WM.of at ha
          cases c with
          | true => exact ha
          | false => exact WM.zw a ha
        · exact .inr ha
      exact hh.dom a q
    have hB : Same (hid (W.of c) H1) (hid (adm D (W.of c)) H2) := fun b o e => by
      rw [hid_eq] at e ⊢
      refine ⟨?_, S _ _ e.2⟩
      unfold adm
      rw [e.1, decide_eq_false (ne_of_none e.2 hD)]
      rfl
    obtain ⟨hgo, hst⟩ := hw i _ H2 hB hM
    by_cases hlt : i < l.length
    · have hd : l[i]? = some l[i] := by simp [hlt]
      have edrop : l.drop i = l[i] :: l.drop (i + 1) := (List.drop_eq_getElem_cons hlt)
      rw [edrop] at el
      obtain ⟨g1, g2⟩ := hgo _ hd
      unfold lcD at el
      split at el
      · rename_i hcf
        obtain ⟨qs, ep, el⟩ := bindSome el
        obtain ⟨bt, et, el⟩ := bindSome el
        refine .inr ⟨g1, fun H' => INV (i + 1) H', fun H' p' => ⟨l.length - (i + 1), by omega, rfl, hlt, p'⟩, fun x H3 y => ?_⟩
        obtain ⟨s3, dx⟩ := g2 x H3 y
        have hh3 := hh.grow s3
        have dx' : Dp K (hid (W.add D).w H3) x l[i] := by
          rw [W.add_w D]
          cases c with
          | true => exact dx
          | false =>
            have := hh3.dom
            rw [W.add_w D] at this
            exact dp_flat this _ _ (by simpa using hcf) (Dpm dx hid_sub)
        refine hg (W.add D).w x _ qs _ H3 _ dx' ep fun vs dvs => ?_
        have hh4 := hh3.setAll (is := is) dvs
        refine ⟨wipe_setAll σ is vs, _, W.add D, bt, hh4, et, fun H4 s4 => ?_⟩
        cases bt with
        | false =>
          rw [if_neg Bool.false_ne_true] at el ⊢
          exact ⟨(S.trans s3).trans s4, (hh3.grow s4), acc, ad, rest, s4 _ _ (s3 _ _ eD), Dpam da (hid_same (s3.trans s4)), el, ea, Nat.le_succ_of_le hl⟩
        | true =>
          rw [if_pos rfl] at el ⊢
          obtain ⟨rx, ex, el⟩ := bindSome el
          obtain ⟨yd, ey, el⟩ := bindSome el
          obtain ⟨rest', el', e5⟩ := bindSome el
          cases e5
          refine ⟨_, W.add D, rx, hh4.grow s4, ex, fun yv H5 s5 r5 f5 => ?_⟩
          have hh5 := (hh3.grow s4).grow s5
          have S5 : Same H2 H5 := (s3.trans s4).trans s5
          have dy := r5.pro (hh5.dom) ey
          rw [W.add_w D] at dy
          have eD5 := S5 _ _ eD
          refine ⟨acc, eD5, Nat.lt_of_le_of_lt hl (Nat.lt_of_lt_of_le hlt (Nat.le_trans hlim lim_line)), ?_, hh5.updz zD _, acc ++ [yv], ad ++ [yd], rest', upd_same, ?_, el', by rw [List.append_assoc]; exact ea, by simp; exact hl⟩
          · intro b o e
            rw [upd_ne (ne_of_none e hD)]
            exact S5 _ _ (S _ _ e)
          · rw [hid_in adm_self]
            exact DpAll_app (Dpam da (hid_same S5)) (.cons dy .nil)
      · cases el
    · have e : i = l.length := by omega
      subst e
      rw [List.drop_length] at el
      cases el
      rw [List.append_nil] at ea
      subst ea
      exact .inl ⟨hst (Nat.le_refl _), k _ H2 (s1.trans S) ⟨(hH1.grow S).dom, [D], .lst eD (lks_fl (by rw [adms_one]; exact da)), by simp, fun a ha => by cases List.mem_singleton.mp ha; exact hD0⟩ (rf_o (s1.free hD))⟩
  · cases hm
theorem pts_imp {ifs : List Expr} {t t' : TT} (h : PTs X ifs t) (i : ∀ σ H Q, t' σ H Q → t σ H Q) : PTs X ifs t' := fun pins s σ H Q I q => h pins s σ H Q I (i σ H Q q)
def mYes : MT := fun _ => some true
theorem m_pts0 : PTs X [] (tMT X.K mYes) := pts_imp pts_nil fun σ H Q ⟨E, W, b, hH, hm, k⟩ => by cases hm; exact k H (Same.refl H)
theorem m_lc {elt iter : Expr} {ifs : List Expr} {scope : Scope} {own : List (Str × Nat)} {mi : MI} {mt : MT} {me : ME} {g : TG} {pick : D → Option (List D)} (hc : X.calm = true) (hN : X.N.Nodup) (ht' : TgOk X.K g (own.map (·.2)) pick) (hi : PI X tg iter (tMI X.K mi)) (ok : BlkOk X.N X.env.scope scope own)
    (hg : ∀ (s : Shared) (H : Hp) (C : Addr) (cl : List (Str × Addr)) (fp : List Addr), PG (X.blk s H scope (compEnvC scope cl C X.env) fp) tg g) (ht : ∀ (s : Shared) (H : Hp) (C : Addr) (cl : List (Str × Addr)) (fp : List Addr), PTs (X.blk s H scope (compEnvC scope cl C X.env) fp) ifs (tMT X.K mt))
    (he : ∀ (s : Shared) (H : Hp) (C : Addr) (cl : List (Str × Addr)) (fp : List Addr), PE (X.blk s H scope (compEnvC scope cl C X.env) fp) elt (tM X.K me)) (hs : ∀ x, foldedSetIterable iter X.env x = pure x := by intro _; rfl) :
    PE X (.ListComp elt [⟨tg, iter, ifs, 0⟩] scope pos) (tM X.K (mLc (own.map (·.2)) pick mi mt me)) :=
  pe_imp (pe_lc hc hN hi ok hg ht he hs) (tLc_of ht')
end
end MD

namespace MD
open PySem PySem.Spec L2

/-! ### statements -/
inductive Out where
  | nx (E : Ev)
  | bk (E : Ev)
  | ct (E : Ev)
  | rt (r : R)
abbrev MS := Ev → Option Out
/-- nothing but own lists was changed -/
def Fr (f : Bool) (H : Hp) (O : Msk) (H' : Hp) (O' : Msk) : Prop := (∀ a o, H a = some o → O a = false → H' a = some o ∧ O' a = false) ∧ (f = true → Same H H' ∧ O' = O)
theorem Fr.refl {f : Bool} {H : Hp} {O : Msk} : Fr f H O H O := ⟨fun _ _ h z => ⟨h, z⟩, fun _ => ⟨Same.refl H, rfl⟩⟩
theorem Fr.of {f : Bool} {H H' : Hp} {O : Msk} (s : Same H H') : Fr f H O H' O := ⟨fun a o h z => ⟨s a o h, z⟩, fun _ => ⟨s, rfl⟩⟩
theorem Fr.trans {f : Bool} {H H1 H2 : Hp} {O O1 O2 : Msk} (a : Fr f H O H1 O1) (b : Fr f H1 O1 H2 O2) : Fr f H O H2 O2 := ⟨fun p o h z => let ⟨h1, z1⟩ := a.1 p o h z; b.1 p o h1 z1, fun hf => let ⟨s1, e1⟩ := a.2 hf; let ⟨s2, e2⟩ := b.2 hf; ⟨s1.trans s2, e2.trans e1⟩⟩
def RG (H : Hp) (O : Msk) (H' : Hp) (v : V) : R → Prop
  | .t T => ∀ K M as, Lk K H' M v as T → ∀ a ∈ as, ∀ o, H a = some o → O a = true
  | _ => True
theorem RG.back {f : Bool} {H H1 H' : Hp} {O O1 : Msk} {v : V} {r : R} (a : Fr f H O H1 O1) (h : RG H1 O1 H' v r) : RG H O H' v r := by
  cases r with
  | c d => trivial
  | u d => trivial
  | t T =>
    refine fun K M as l p hp o e => ?_
    cases z : O p with
    | true => rfl
    | false => obtain ⟨e1, z1⟩ := a.1 p o e z; rw [h K M as l p hp o e1] at z1; cases z1
def EndsK (K : PySem.W.Frag) (f : Bool) (D : Ends) (Z : Msk) (H : Hp) (O : Msk) : Out → Prop
  | .nx E' => ∀ σ' H' O', Held K H' ⟨Z, O'⟩ σ' E' → Fr f H O H' O' → D.nx σ' H'
  | .bk E' => ∀ σ' H' O', Held K H' ⟨Z, O'⟩ σ' E' → Fr f H O H' O' → D.bk σ' H'
  | .ct E' => ∀ σ' H' O', Held K H' ⟨Z, O'⟩ σ' E' → Fr f H O H' O' → D.ct σ' H'
  | .rt r => ∀ v H' O', Fr f H O H' O' → RA K H' ⟨Z, noM⟩ v r → RG H O H' v r → D.rt v H'
def sM (K : PySem.W.Frag) (f : Bool) (m : MS) : TS := fun D σ H => ∃ E W o, Held K H W σ E ∧ m E = some o ∧ EndsK K f D W.z H W.o o
theorem EndsK.later {K : PySem.W.Frag} {f : Bool} {D : Ends} {Z : Msk} {H H1 : Hp} {O O1 : Msk} {o : Out} (a : Fr f H O H1 O1) (h : EndsK K f D Z H O o) : EndsK K f D Z H1 O1 o := by
  cases o with
  | nx E => exact fun σ' H' O' hh f => h σ' H' O' hh (a.trans f)
  | bk E => exact fun σ' H' O' hh f => h σ' H' O' hh (a.trans f)
  | ct E => exact fun σ' H' O' hh f => h σ' H' O' hh (a.trans f)
  | rt r => exact fun v H' O' f q g => h v H' O' (a.trans f) q (g.back a)

section
variable {X : Cx} {K : PySem.W.Frag} {ff : Bool} {st : Stmt} {rest : List Stmt} {e : Expr} {m : ME} {n : MA} {s t : MS} {pos : Pos}
def mNext : MS := fun E => some (.nx E)
theorem m_snil : PSs X [] (sM X.K ff mNext) := pss_imp pss_nil fun D σ H ⟨E, W, o, hH, hm, k⟩ => by
  cases hm
  exact k σ H W.o hH Fr.refl
def mSeq (s t : MS) : MS := fun E => (s E).bind fun o => match o with | .nx E' => t E' | o => some o
theorem tSeq_of : ∀ D σ H, sM K ff (mSeq s t) D σ H → tSeq (sM K ff s) (sM K ff t) D σ H := fun D σ H ⟨E, W, o, hH, hm, k⟩ => by
  obtain ⟨o1, e1, hm⟩ := bindSome hm
  refine ⟨E, W, o1, hH, e1, ?_⟩
  cases o1 with
  | nx E1 => exact fun σ' H' O' hh f => ⟨E1, ⟨W.z, O'⟩, o, hh, hm, k.later f⟩
  | bk E1 => cases hm; exact k
  | ct E1 => cases hm; exact k
  | rt r => cases hm; exact k
theorem m_cons (h1 : PS X st (sM X.K ff s)) (h2 : PSs X rest (sM X.K ff t)) : PSs X (st :: rest) (sM X.K ff (mSeq s t)) := pss_imp (pss_cons h1 h2) tSeq_of
theorem m_sone (h1 : PS X st (sM X.K ff s)) : PSs X [st] (sM X.K ff s) := pss_one h1
def mNo : MS := fun _ => none
theorem m_never : PS X st (sM X.K ff mNo) := ps_imp ps_never fun D σ H ⟨E, W, o, hH, hm, k⟩ => by cases hm
theorem m_nevers : PSs X rest (sM X.K ff mNo) := pss_imp pss_never fun D σ H ⟨E, W, o, hH, hm, k⟩ => by cases hm
def mBrk : MS := fun E => some (.bk E)
def mCnt : MS := fun E => some (.ct E)
def mIfS (c : MT) (s t : MS) : MS := fun E => (c E).bind fun b => if b = true then s E else t E
theorem m_if {c : Expr} {a b : List Stmt} {mc : MT} (hc : PT X c (tMT X.K mc)) (ha : PSs X a (sM X.K ff s)) (hb : PSs X b (sM X.K ff t)) : PS X (.If c a b pos) (sM X.K ff (mIfS mc s t)) := ps_imp (ps_if hc ha hb) fun D σ H ⟨E, W, o, hH, hm, k⟩ => by
  obtain ⟨bb, e1, hm⟩ := bindSome hm
  refine ⟨E, W, bb, hH, e1, fun H1 s1 => ?_⟩
  cases bb with
  | true => rw [if_pos rfl] at hm ⊢; exact ⟨E, W, o, hH.grow s1, hm, k.later (Fr.of s1)⟩
  | false => rw [if_neg Bool.false_ne_true] at hm ⊢; exact ⟨E, W, o, hH.grow s1, hm, k.later (Fr.of s1)⟩
/-- return e -/
def mRet (m : ME) : MS := fun E => (m E).bind fun r => some (.rt r.up)
theorem RA.ret {H' : Hp} {W : WM} {v : V} {r : R} (h : RA K H' W v r) : RA K H' ⟨W.z, noM⟩ v r.up := by
  cases r with
  | c d => show Dp K (hid (WM.mk W.z noM).w H') v d; rw [WM.w0]; exact Dpm h (hid_mono WM.zw)
  | u d => show Dp K (hid (WM.mk W.z noM).w H') v d; rw [WM.w0]; exact h
  | t T =>
    obtain ⟨hd, as, h1, h2, h3⟩ := h
    refine ⟨by rw [WM.w0]; exact fun a ha => hd a (WM.zw a ha), as, ?_, h2, fun a ha => ?_⟩
    · rw [WM.w0]
      refine lk_mono (Same.refl H') (hid_mono fun a ha => ?_) T v as h1
      rcases adms_mem ha with q | q
      · exact adms_le a (WM.zw a q)
      · exact adms_in q
    · rw [WM.w0]
      cases z : W.z a with
      | false => rfl
      | true => have := h3 a ha; rw [WM.zw a z] at this; cases this
theorem m_ret (he : PE X e (tM X.K m)) : PS X (.Return (some e) pos) (sM X.K ff (mRet m)) := ps_imp (ps_ret he) fun D σ H ⟨E, W, o, hH, hm, k⟩ => by
  obtain ⟨r, e1, hm⟩ := bindSome hm
  cases hm
  refine ⟨E, W, r, hH, e1, fun v H1 s1 r1 f1 => k v H1 W.o (Fr.of s1) r1.ret ?_⟩
  cases r with
  | c d => trivial
  | u d => trivial
  | t T => exact fun K M as l a ha o q => by rw [f1 K M as l a ha] at q; cases q
/-- return x, an own thing -/
def mRetO (i : Nat) : MS := fun E => match E[i]? with | some (some (.t T)) => some (.rt (.t T)) | _ => none
theorem own_ret {H : Hp} {W : WM} {v : V} {as : List Addr} {T : Tr} (hd : Dom W.w H) (h2 : Lk K H W.w v as T) (h3 : as.Nodup) (h4 : ∀ a ∈ as, W.o a = true ∧ W.z a = false) : RA K H ⟨W.z, noM⟩ v (.t T) ∧ RG H W.o H v (.t T) := by
  refine ⟨⟨by rw [WM.w0]; exact fun a ha => hd a (WM.zw a ha), as, ?_, h3, fun a ha => by rw [WM.w0]; exact (h4 a ha).2⟩, fun K' M bs l a ha o q => ?_⟩
  · rw [WM.w0]
    refine lk_mono (Same.refl H) (hid_mono fun a ha => ?_) T v as h2
    rcases adms_mem ha with q | q
    · exact WM.zw a q
    · exact WM.ow a (h4 a q).1
  · have z : bs = as := by
      clear h3 h4 ha q
      exact lk_det2 T v bs as l h2
    subst z
    exact (h4 a ha).1
theorem m_reto {i : Nat} (he : PE X e (tVar i)) : PS X (.Return (some e) pos) (sM X.K ff (mRetO i)) := ps_imp (ps_ret he) fun D σ H ⟨E, W, o, hH, hm, k⟩ => by
  unfold mRetO at hm
  split at hm
  · rename_i T el
    cases hm
    obtain ⟨x, as, h1, h2, h3, h4⟩ := hH.own i T el
    obtain ⟨q1, q2⟩ := own_ret hH.dom h2 h3 h4
    exact ⟨x, h1, k _ H W.o Fr.refl q1 q2⟩
  · cases hm
/-- return (x, e), x an own thing -/
def mRetP (i : Nat) (m : ME) : MS := fun E => match E[i]? with
  | some (some (.t T)) => (m E).bind fun r => r.pro.bind fun d => some (.rt (.t (.tup [T, .leaf d])))
  | _ => none
def mRetN : MS := fun _ => some (.rt (.c .none))
/-- x = e -/
def mAsgV (i : Nat) (m : ME) : MS := fun E => (m E).bind fun r => r.pro.bind fun d => some (.nx (E.set i (some (.v d))))
theorem asgV_of {i : Nat} : ∀ D σ H, sM K ff (mAsgV i m) D σ H → tAsg (tM K m) (gName i) D σ H := fun D σ H ⟨E, W, o, hH, hm, k⟩ => by
  obtain ⟨r, e1, hm⟩ := bindSome hm
  obtain ⟨d, e2, hm⟩ := bindSome hm
  cases hm
  refine ⟨E, W, r, hH, e1, fun v H1 s1 r1 f1 => ?_⟩
  have hH1 := hH.grow s1
  exact k _ H1 W.o (hH1.setv i (r1.pro hH1.dom e2)) (Fr.of s1)
theorem Held.seto {H H' : Hp} {W : WM} {σ : L2.St} {E : Ev} {T : Tr} {v : V} (h : Held K H W σ E) (s : Same H H') (i : Nat) (hr : RA K H' W v (.t T)) (hf : RF H H' v (.t T)) : ∃ O', Held K H' ⟨W.z, O'⟩ (σ.set i (some v)) (E.set i (some (.t T))) ∧ Fr false H W.o H' O' := by
  obtain ⟨hd, as, h1, h2, h3⟩ := hr
  have hfr := hf K _ as h1
  have hw : (WM.mk W.z (adms as W.o)).w = adms as W.w := by
    funext a
    show (W.z a || (W.o a || decide (a ∈ as))) = ((W.z a || W.o a) || decide (a ∈ as))
    rw [Bool.or_assoc]
  have sm : Same (hid W.w H) (hid (adms as W.w) H') := fun b o q => by
    rw [hid_eq] at q ⊢
    refine ⟨?_, s _ _ q.2⟩
    unfold adms
    rw [q.1, decide_eq_false (fun hb => by rw [hfr b hb] at q; cases q.2)]
    rfl
  have tr : ∀ (j : Nat) (T' : Tr), E[j]? = some (some (.t T')) → ∀ x bs, σ[j]? = some (some x) → Lk K H W.w x bs T' → Lk K H' (WM.mk W.z (adms as W.o)).w x bs T' := fun j T' e x bs q l => by
    rw [hw]
    exact lk_mono s sm T' x bs l
  refine ⟨adms as W.o, ⟨fun a ha => ?_, by rw [List.length_set, List.length_set]; exact h.len, fun j d' e => ?_, fun j T' e => ?_, fun j j' T1 T2 y y' bs cs M M' a e e' q q' l l' hb hc => ?_⟩, ⟨fun a o q z => ⟨s _ _ q, ?_⟩, fun z => by cases z⟩⟩
  · rw [hw] at ha
    exact adms_dom (hd) h1 a ha
  · rw [hw]
    rw [List.getElem?_set] at e ⊢
    rw [h.len]
    split at e
    · split at e <;> cases e
    · rename_i h1
      rw [if_neg h1]
      obtain ⟨x, q1, q2⟩ := h.val j d' e
      exact ⟨x, q1, Dpm q2 sm⟩
  · rw [hw]
    rw [List.getElem?_set] at e ⊢
    rw [h.len]
    split at e
    · split at e
      · cases e
        rename_i g1 g2
        rw [if_pos g1, if_pos g2]
        refine ⟨v, as, rfl, h1, h2, fun a ha => ⟨adms_in ha, ?_⟩⟩
        cases z : W.z a with
        | false => rfl
        | true => have := h3 a ha; rw [WM.zw a z] at this; cases this
      · cases e
    · rename_i g1
      rw [if_neg g1]
      obtain ⟨x, bs, q1, q2, q3, q4⟩ := h.own j T' e
      exact ⟨x, bs, q1, lk_mono s sm T' x bs q2, q3, fun a ha => ⟨adms_le a (q4 a ha).1, (q4 a ha).2⟩⟩
  · rw [List.getElem?_set] at e e' q q'
    -- an old own thing reaches none of the new lists
    have nof : ∀ (k : Nat) (T3 : Tr) (z : V) (ds : List Addr) (M3 : Msk), E[k]? = some (some (.t T3)) → σ[k]? = some (some z) → Lk K H' M3 z ds T3 → a ∈ ds → a ∈ as → False := fun k T3 z ds M3 z1 z2 z3 hm hm2 => by
      obtain ⟨z', ds', q1, q2, q3, q4⟩ := h.own k T3 z1
      rw [q1] at z2
      cases z2
      have ee := lk_det T3 _ _ _ z3 (tr k T3 z1 _ _ q1 q2)
      subst ee
      obtain ⟨xs, ex, _⟩ := lk_lst T3 _ _ q2 a hm
      rw [hfr a hm2] at ex
      cases ex
    split at e
    · rename_i z1
      split at e'
      · rename_i z2
        rw [← z1, ← z2]
      · exfalso
        rename_i z2
        rw [if_pos z1] at q
        rw [if_neg z2] at q'
        split at q
        · cases q
          split at e
          · cases e
            exact nof _ _ _ _ _ e' q' l' hc (by rw [lk_det T _ _ _ h1 l]; exact hb)
          · cases e
        · cases q
    · rename_i z1
      split at e'
      · exfalso
        rename_i z2
        rw [if_pos z2] at q'
        rw [if_neg z1] at q
        split at q'
        · cases q'
          split at e'
          · cases e'
            exact nof _ _ _ _ _ e q l hb (by rw [lk_det T _ _ _ h1 l']; exact hc)
          · cases e'
        · cases q'
      · rename_i z2
        rw [if_neg z1] at q
        rw [if_neg z2] at q'
        obtain ⟨w1, w2, g1, g2, g3, g4⟩ := h.own j T1 e
        obtain ⟨u1, u2, k1, k2, k3, k4⟩ := h.own j' T2 e'
        rw [q] at g1
        cases g1
        rw [q'] at k1
        cases k1
        have y1 := lk_det T1 _ _ _ l (tr j T1 e _ _ q g2)
        have y2 := lk_det T2 _ _ _ l' (tr j' T2 e' _ _ q' k2)
        subst y1 y2
        exact h.inj j j' T1 T2 _ _ _ _ _ _ a e e' q q' g2 k2 hb hc
  · unfold adms
    rw [z, decide_eq_false (fun hb => by rw [hfr a hb] at q; cases q)]
    rfl
def rAsgO (i : Nat) (E : Ev) (r : R) : Option Out := match r with | .t T => some (.nx (E.set i (some (.t T)))) | _ => none
def mAsgO (i : Nat) (m : ME) : MS := fun E => (m E).bind (rAsgO i E)
theorem asgO_of {i : Nat} : ∀ D σ H, sM K false (mAsgO i m) D σ H → tAsg (tM K m) (gName i) D σ H := fun D σ H ⟨E, W, o, hH, hm, k⟩ => by
  obtain ⟨r, e1, hm⟩ := bindSome hm
  cases r with
  | c d => cases hm
  | u d => cases hm
  | t T =>
    cases hm
    refine ⟨E, W, .t T, hH, e1, fun v H1 s1 r1 f1 => ?_⟩
    obtain ⟨O', h1, h2⟩ := hH.seto s1 i r1 f1
    exact k _ H1 O' h1 h2
theorem m_set {i : Nat} {x : Str} {pos' : Pos} (hN : X.N.Nodup) (he : PE X e (tM X.K m)) (hi : X.N[i]? = some x := by rfl) (hx : Loc X.env.scope x := by first | exact Or.inl rfl | exact Or.inr rfl) (hs : swapsWith e (some (.Name x pos')) pos.line X.env = pure false := by rfl) (hf : X.fn x = true ∨ X.env.scope.names.lookup x = some .local := by first | exact .inl rfl | exact .inr rfl | assumption) :
    PS X (.Assign [.Name x pos'] e pos) (sM X.K ff (mAsgV i m)) := ps_imp (ps_set hN hi hx he hs hf) asgV_of
theorem m_seto {i : Nat} {x : Str} {pos' : Pos} (hN : X.N.Nodup) (he : PE X e (tM X.K m)) (hi : X.N[i]? = some x := by rfl) (hx : Loc X.env.scope x := by first | exact Or.inl rfl | exact Or.inr rfl) (hs : swapsWith e (some (.Name x pos')) pos.line X.env = pure false := by rfl) (hf : X.fn x = true ∨ X.env.scope.names.lookup x = some .local := by first | exact .inl rfl | exact .inr rfl | assumption) :
    PS X (.Assign [.Name x pos'] e pos) (sM X.K false (mAsgO i m)) := ps_imp (ps_set hN hi hx he hs hf) asgO_of
/-- a, b = e, e' (names, written) -/
def mPar (i j : Nat) (n : MA) : MS := fun E => (n E).bind fun rs => (pros rs).bind fun ds => match ds with | [d, d'] => some (.nx ((E.set i (some (.v d))).set j (some (.v d')))) | _ => none
theorem m_par {i j : Nat} {x y : Str} {a b : Expr} {px py pt : Pos} {kt k2 : Nat} {pt2 : Pos} (hc : X.calm = true) (hN : X.N.Nodup) (ha : PA X [a, b] (tMA X.K n)) (hi : X.N[i]? = some x := by rfl) (hj : X.N[j]? = some y := by rfl) (hij : i ≠ j := by decide)
    (hx : X.env.scope.names.lookup x = some .local := by rfl) (hy : X.env.scope.names.lookup y = some .local := by rfl)
    (hw : swappedStores [.Tuple [.Name x px, .Name y py] kt pt] (.Tuple [a, b] k2 pt2) X.env = pure (some [x, y]) := by rfl)
    (hs : swapsWithSole [.Tuple [.Name x px, .Name y py] kt pt] (.Tuple [a, b] k2 pt2) pos.line X.env = pure false := by rfl) :
    PS X (.Assign [.Tuple [.Name x px, .Name y py] kt pt] (.Tuple [a, b] k2 pt2) pos) (sM X.K ff (mPar i j n)) :=
  ps_imp (ps_par hc hN hi hj hij hx hy ha hw hs) fun D σ H ⟨E, W, o, hH, hm, k⟩ => by
    obtain ⟨rs, e1, hm⟩ := bindSome hm
    obtain ⟨ds, e2, hm⟩ := bindSome hm
    split at hm
    · rename_i d d'
      cases hm
      refine ⟨E, W, rs, hH, e1, fun vs H1 s1 r1 => ?_⟩
      have hH1 := hH.grow s1
      have q := r1.pros hH1.dom e2
      cases q with
      | cons q1 t =>
        cases t with
        | cons q2 t =>
          cases t
          exact ⟨_, _, rfl, k _ H1 W.o ((hH1.setv i q1).setv j q2) (Fr.of s1)⟩
    · cases hm
/-- targets = e, any targets -/
def mAsgT (is : List Nat) (pick : D → Option (List D)) (m : ME) : MS := fun E => (m E).bind fun r => r.pro.bind fun d => (pick d).bind fun ds => some (.nx (setAllE E is ds))
/-! own lists change -/
theorem Held.ownl {H : Hp} {W : WM} {σ : L2.St} {E : Ev} {i : Nat} {l : List Tr} (h : Held K H W σ E) (e : E[i]? = some (some (.t (.lst l)))) : ∃ a vs as, σ[i]? = some (some (.ref a)) ∧ H a = some (.lst vs) ∧ Lks K H W.w vs as l ∧ (a :: as).Nodup ∧ ∀ b ∈ a :: as, W.o b = true ∧ W.z b = false := by
  obtain ⟨x, as, h1, h2, h3, h4⟩ := h.own i _ e
  cases h2 with
  | lst q1 q2 => exact ⟨_, _, _, h1, q1, q2, h3, h4⟩
theorem Held.updo {H : Hp} {W : WM} {σ : L2.St} {E : Ev} {i : Nat} {l l' : List Tr} {a : Addr} {vs vs' : List V} {as as' : List Addr} (h : Held K H W σ E) (e : E[i]? = some (some (.t (.lst l)))) (ha : σ[i]? = some (some (.ref a))) (hH : H a = some (.lst vs)) (hl : Lks K H W.w vs as l)
    (hv : Lks K H W.w vs' as' l') (hn : as'.Nodup) (hs : ∀ x ∈ as', x ∈ as) :
    Held K (upd H a (.lst vs')) W σ (E.set i (some (.t (.lst l')))) ∧ Fr false H W.o (upd H a (.lst vs')) W.o := by
  obtain ⟨x, as0, h1, h2, h3, h4⟩ := h.own i _ e
  rw [ha] at h1
  cases h1
  have e0 : as0 = a :: as := lk_det _ _ _ _ h2 (.lst hH hl)
  subst e0
  have oa := h4 a List.mem_cons_self
  have hM : W.w a = true := WM.ow a oa.1
  have eq : hid W.w (upd H a (.lst vs')) = hid W.w H := hid_in hM
  have hi : i < E.length := (List.getElem?_eq_some_iff.mp e).1
  have nas : a ∉ as := (List.nodup_cons.mp h3).1
  have nas' : a ∉ as' := fun z => nas (hs a z)
  have new : Lk K (upd H a (.lst vs')) W.w (.ref a) (a :: as') (.lst l') := .lst upd_same (lks_away hH hM l' _ _ nas' hv)
  have away : ∀ (j : Nat) (T : Tr), i ≠ j → E[j]? = some (some (.t T)) → ∀ x bs, σ[j]? = some (some x) → Lk K H W.w x bs T → Lk K (upd H a (.lst vs')) W.w x bs T := fun j T hij q x bs q2 lk =>
    lk_away hH hM T x bs (fun z => hij (h.inj i j _ T _ _ _ _ _ _ a e q ha q2 (.lst hH hl) lk List.mem_cons_self z)) lk
  refine ⟨⟨fun b hb => ?_, by rw [List.length_set]; exact h.len, fun j d q => ?_, fun j T q => ?_, fun j j' T1 T2 y y' bs cs M M' b q q' z z' lk lk' hb hc => ?_⟩, ⟨fun b o q z => ?_, fun z => by cases z⟩⟩
  · by_cases eb : b = a
    · subst eb; exact ⟨_, upd_same, trivial⟩
    · rw [upd_ne eb]; exact h.dom b hb
  · rw [eq]
    rw [List.getElem?_set] at q
    split at q
    · cases q
    · exact h.val j d q
  · rw [List.getElem?_set] at q
    split at q
    · rename_i hij
      cases q
      subst hij
      refine ⟨.ref a, a :: as', ha, new, List.nodup_cons.mpr ⟨nas', hn⟩, fun b hb => ?_⟩
      rcases List.mem_cons.mp hb with z | z
      · subst z; exact oa
      · exact h4 b (List.mem_cons_of_mem _ (hs b z))
    · rename_i hij
      obtain ⟨x, bs, q1, q2, q3, q4⟩ := h.own j T q
      exact ⟨x, bs, q1, away j T hij q x bs q1 q2, q3, q4⟩
  · -- what an own thing reaches now, it reached before
    have old : ∀ (k : Nat) (T3 : Tr) (w : V) (ds : List Addr) (M3 : Msk), (E.set i (some (.t (.lst l'))))[k]? = some (some (.t T3)) → σ[k]? = some (some w) → Lk K (upd H a (.lst vs')) M3 w ds T3 → b ∈ ds → ∃ T4 ds', E[k]? = some (some (.t T4)) ∧ Lk K H W.w w ds' T4 ∧ b ∈ ds' := fun k T3 w ds M3 y1 y2 y3 y4 => by
      rw [List.getElem?_set] at y1
      split at y1
      · rename_i hik
        subst hik
        cases y1
        rw [ha] at y2
        cases y2
        have ee := lk_det _ _ _ _ y3 new
        subst ee
        refine ⟨_, a :: as, e, .lst hH hl, ?_⟩
        rcases List.mem_cons.mp y4 with u | u
        · rw [u]; exact List.mem_cons_self
        · exact List.mem_cons_of_mem _ (hs b u)
      · rename_i hik
        obtain ⟨w', ds', g1, g2, g3, g4⟩ := h.own k T3 y1
        rw [y2] at g1
        cases g1
        have ee := lk_det _ _ _ _ y3 (away k T3 hik y1 _ _ y2 g2)
        subst ee
        exact ⟨T3, _, y1, g2, y4⟩
    obtain ⟨T3, ds, y1, y2, y3⟩ := old j T1 y bs M q z lk hb
    obtain ⟨T4, ds', y1', y2', y3'⟩ := old j' T2 y' cs M' q' z' lk' hc
    exact h.inj j j' T3 T4 _ _ _ _ _ _ b y1 y1' z z' y2 y2' y3 y3'
  · refine ⟨?_, z⟩
    rw [upd_ne (fun y => by rw [y, oa.1] at z; cases z)]
    exact q
def mApp (i : Nat) (n : MA) : MS := fun E => match E[i]? with
  | some (some (.t (.lst l))) => (n E).bind fun rs => (pros rs).bind fun ds => (match ds with | [d] => if l.length < lim then some (.nx (E.set i (some (.t (.lst (l ++ [.leaf d])))))) else none | _ => none)
  | _ => none
theorem app_of {i : Nat} : ∀ D σ H, sM K false (mApp i n) D σ H → tDrop (tBM K "list" rAppend (tVar i) (tMA K n)) D σ H := fun D σ H ⟨E, W, o, hH, hm, k⟩ => by
  unfold mApp at hm
  split at hm
  · rename_i l el
    obtain ⟨rs, e1, hm⟩ := bindSome hm
    obtain ⟨ds, e2, hm⟩ := bindSome hm
    split at hm
    · rename_i d
      split at hm
      · rename_i hl
        cases hm
        obtain ⟨a, vs, as, h1, h2, h3, h4, h5⟩ := hH.ownl el
        refine ⟨.ref a, h1, .inl ⟨rfl, vs, SqL.of h2⟩, E, W, rs, hH, e1, fun xs H1 s1 r1 => ?_⟩
        have hH1 := hH.grow s1
        have q := r1.pros hH1.dom e2
        cases q with
        | cons q1 t =>
          cases t
          have hlen : vs.length = l.length := lks_len h3
          refine ⟨a, vs, _, rfl, rfl, s1 _ _ h2, by rw [hlen]; exact Nat.lt_of_lt_of_le hl lim_line, ?_⟩
          have h3' := lks_mono s1 (hid_same s1) l vs as h3
          have lk := lks_app h3' (Lks.cons (.leaf q1) .nil)
          rw [List.append_nil, List.append_nil] at lk
          obtain ⟨g1, g2⟩ := hH1.updo el h1 (s1 _ _ h2) h3' lk (List.nodup_cons.mp h4).2 fun _ z => z
          exact k _ _ W.o g1 ((Fr.of s1).trans g2)
      · cases hm
    · cases hm
  · cases hm
theorem m_append {i : Nat} {o : Expr} {apos cpos : Pos} {es : List Expr} (ho : PE X o (tVar i)) (ha : PA X (e :: es) (tMA X.K n)) (hbase : attributeBase o "append" X.env (eval o X.env) = eval o X.env := by rfl)
    (hfew : ((backTo cpos (starEach (e :: es) X.env)).all (fun x => !x.1) && (backToKw cpos (keywordEach [] X.env)).all (fun x => x.1.isSome)
      && decide ((e :: es).length + ([] : List Keyword).length + (if ([] : List Keyword).isEmpty then 0 else 1) < 30)) = true := by rfl)
    (hline : (apos.endLine == cpos.line) = true := by rfl) (hs : starEach (e :: es) X.env = (false, eval e X.env) :: starEach es X.env := by rfl) (hplain : (backTo cpos (starEach es X.env)).any (·.1) = false := by rfl)
    (hsw : swapsWith (.Call (.Attribute o "append" apos) (e :: es) [] cpos) none pos.line X.env = pure false := by rfl) : PS X (.Expr (.Call (.Attribute o "append" apos) (e :: es) [] cpos) pos) (sM X.K false (mApp i n)) :=
  ps_imp (ps_expr (pe_bm PySem.F.plainAttrs_list PySem.F.slot_list_append PySem.F.type_list_append mt_append ho ha hbase hfew hline hs hplain) hsw) app_of
/-! xs.insert(k, e) -/
def insAt {α : Type} (l : List α) (x : Int) (y : α) : List α :=
  l.take (if x < 0 then (x + (l.length : Int)).toNat else min x.toNat l.length) ++ y :: l.drop (if x < 0 then (x + (l.length : Int)).toNat else min x.toNat l.length)
def rInsert : V → List V → Hp → VK → Prop := fun x vs H Q => ∃ l xs k y, x = .ref l ∧ vs = [.int k, y] ∧ H l = some (.lst xs) ∧ (-(2 ^ 63) ≤ k ∧ k < 2 ^ 63) ∧ xs.length < sizeLine ∧ Q .non (upd H l (.lst (insAt xs k y)))
def mIns (i : Nat) (n : MA) : MS := fun E => match E[i]? with
  | some (some (.t (.lst l))) => (n E).bind fun rs => (pros rs).bind fun ds => (match ds with | [.int k, d] => if l.length < lim ∧ -(2 ^ 63) ≤ k ∧ k < 2 ^ 63 then some (.nx (E.set i (some (.t (.lst (insAt l k (.leaf d))))))) else none | _ => none)
  | _ => none
/-! xs[k] = e -/
def mSetI (i : Nat) (mi m : ME) : MS := fun E => (m E).bind fun r => r.pro.bind fun d => match E[i]? with
  | some (some (.t (.lst l))) => (mi E).bind fun ri => (match ri.d with | .int k => (ixN l.length k).bind fun j => some (.nx (E.set i (some (.t (.lst (l.set j (.leaf d))))))) | _ => none)
  | _ => none
/-! a, b = x, x an own pair: x is not known behind -/
def mUnpk (k i j : Nat) : MS := fun E => match E[k]? with
  | some (some (.t (.tup [T1, .leaf d]))) => some (.nx (((E.set k none).set i (some (.t T1))).set j (some (.v d))))
  | _ => none
/-! for -/
def forD (is : List Nat) (pick : D → Option (List D)) (mb : MS) : List D → Ev → Option Out
  | [], E => some (.nx E)
  | d :: ds, E => (pick d).bind fun qs => (mb (setAllE E is qs)).bind fun o => match o with
    | .nx E' => forD is pick mb ds E'
    | .ct E' => forD is pick mb ds E'
    | .bk E' => some (.nx E')
    | .rt r => some (.rt r)
def mFor (is : List Nat) (pick : D → Option (List D)) (mi : MI) (mb : MS) : MS := fun E => (mi E).bind fun cl => if cl.1 = true then forD is pick mb cl.2 E else none
theorem for_of {is : List Nat} {pick : D → Option (List D)} {mi : MI} {mb : MS} {g : TG} (hg : TgOk K g is pick) : ∀ D σ H, sM K ff (mFor is pick mi mb) D σ H → tFor (tMI K mi) g (sM K ff mb) D σ H := fun D σ H ⟨E, W, o, hH, hm, k⟩ => by
  obtain ⟨⟨c, l⟩, ei, hm⟩ := bindSome hm
  split at hm
  · rename_i hc
    have hc : c = true := hc
    subst hc
    have hm : forD is pick mb l E = some o := hm
    refine ⟨E, W, true, l, hH, ei, fun J H1 s1 hw => ?_⟩
    have k1 : EndsK K ff D W.z H1 W.o o := k.later (Fr.of s1)
    let INV : Nat → L2.St → Hp → Prop := fun i σ2 H2 => ∃ E2 O2, Held K H2 ⟨W.z, O2⟩ σ2 E2 ∧ Fr ff H1 W.o H2 O2 ∧ forD is pick mb (l.drop i) E2 = some o
    refine ⟨fun i mm σ2 H2 => mm = l.length - i ∧ i ≤ l.length ∧ INV i σ2 H2, ⟨l.length, by simp, Nat.zero_le _, E, W.o, hH.grow s1, Fr.refl, by simpa using hm⟩, ?_⟩
    rintro i mm σ2 H2 ⟨rfl, hi, E2, O2, hh, fr, ef⟩
    have hB : Same (hid W.w H1) (hid (WM.mk W.z O2).w H2) := fun b ob q => by
      rw [hid_eq] at q ⊢
      have zb : W.z b = false := by
        cases z : W.z b with
        | false => rfl
        | true => rw [WM.zw b z] at q; cases q.1
      have ob' : W.o b = false := by
        cases z : W.o b with
        | false => rfl
        | true => rw [WM.ow b z] at q; cases q.1
      obtain ⟨f1, f2⟩ := fr.1 b ob q.2 ob'
      refine ⟨?_, f1⟩
      show (W.z b || O2 b) = false
      rw [zb, f2]
      rfl
    obtain ⟨hgo, hst⟩ := hw i _ H2 hB hh.dom
    by_cases hlt : i < l.length
    · have hd : l[i]? = some l[i] := by simp [hlt]
      have edrop : l.drop i = l[i] :: l.drop (i + 1) := (List.drop_eq_getElem_cons hlt)
      rw [edrop] at ef
      obtain ⟨g1, g2⟩ := hgo _ hd
      unfold forD at ef
      obtain ⟨qs, ep, ef⟩ := bindSome ef
      obtain ⟨ob, eb, ef⟩ := bindSome ef
      refine .inr ⟨g1, fun σ' H' => INV (i + 1) σ' H', fun σ' H' p' => ⟨l.length - (i + 1), by omega, rfl, hlt, p'⟩, fun x H3 y => ?_⟩
      obtain ⟨s3, dx⟩ := g2 x H3 y
      have hh3 := hh.grow s3
      refine hg _ x _ qs _ H3 _ dx ep fun vs dvs => ⟨_, ⟨W.z, O2⟩, ob, hh3.setAll (is := is) dvs, eb, ?_⟩
      have fr3 : Fr ff H1 W.o H3 O2 := fr.trans (Fr.of s3)
      cases ob with
      | nx E' => exact fun σ' H' O' h' f' => ⟨E', O', h', fr3.trans f', ef⟩
      | ct E' => exact fun σ' H' O' h' f' => ⟨E', O', h', fr3.trans f', ef⟩
      | bk E' => cases ef; exact fun σ' H' O' h' f' => k1 σ' H' O' h' (fr3.trans f')
      | rt r => cases ef; exact fun v H' O' f' q gq => k1 v H' O' (fr3.trans f') q (gq.back fr3)
    · have e : i = l.length := by omega
      subst e
      rw [List.drop_length] at ef
      cases ef
      exact .inl ⟨hst (Nat.le_refl _), k1 σ2 H2 O2 hh fr⟩
  · cases hm
/-- over a list that may be an own one: the block changes no own list -/
def mForP (is : List Nat) (pick : D → Option (List D)) (mi : MI) (mb : MS) : MS := fun E => (mi E).bind fun cl => if (cl.1 || flats cl.2) = true then forD is pick mb cl.2 E else none
theorem m_for {iter tg : Expr} {body : List Stmt} {is : List Nat} {pick : D → Option (List D)} {mi : MI} {mb : MS} {g : TG} (ht : TgOk X.K g is pick) (hp : PassesOwn (model X.prog X.w) X.A X.env X.xe) (hc : X.calm = true) (hi : PI X tg iter (tMI X.K mi)) (hg : PG X tg g) (hb : PSs X body (sM X.K ff mb)) (hs : ∀ x, foldedSetIterable iter X.env x = pure x := by intro _; rfl) :
    PS X (.For tg iter body [] pos) (sM X.K ff (mFor is pick mi mb)) := ps_imp (ps_for hp hc hi hg hb hs) (for_of ht)
end

/-! ### a def -/
def startE (N : List Str) (ds : List D) : Ev := ds.map (fun d => some (.v d)) ++ List.replicate (N.length - ds.length) none
theorem held_start {K : PySem.W.Frag} {H : Hp} {Z : Msk} {N : List Str} {vs : List V} {ds : List D} (hZ : Dom Z H) (h : DpAll K (hid Z H) vs ds) : Held K H ⟨Z, noM⟩ (L2.start N vs) (startE N ds) := by
  have hl := DpAll_len h
  have nov : ∀ (j : Nat) (s : Sl), (startE N ds)[j]? = some (some s) → ∃ d, ds[j]? = some d ∧ s = .v d := fun j s q => by
    unfold startE at q
    rw [List.getElem?_append] at q
    split at q
    · rw [List.getElem?_map] at q
      cases e : ds[j]? with
      | none => rw [e] at q; cases q
      | some d => rw [e] at q; cases q; exact ⟨d, rfl, rfl⟩
    · rw [List.getElem?_replicate] at q
      split at q <;> cases q
  refine ⟨by rw [WM.w0]; exact hZ, ?_, fun j d q => ?_, fun j l q => ?_, fun j j' T T' x x' as bs M M' a q => ?_⟩
  · unfold L2.start startE
    simp only [List.length_append, List.length_map, List.length_replicate, hl]
  · obtain ⟨d', e, e2⟩ := nov j _ q
    cases e2
    obtain ⟨v, ev, dv⟩ := DpAll_get h e
    refine ⟨v, ?_, by rw [WM.w0]; exact dv⟩
    unfold L2.start
    rw [List.getElem?_append_left (by simpa using (List.getElem?_eq_some_iff.mp ev).1), List.getElem?_map, ev]
    rfl
  · obtain ⟨d', e, e2⟩ := nov j _ q
    cases e2
  · obtain ⟨d', e, e2⟩ := nov j _ q
    cases e2
theorem fn_D {P : Program} {w : World} {K : PySem.W.Frag} {mg : Str → Option Value} {base : Heap} {x qual : Str} {st : Stmt} {f : Addr} {fd : FuncData} {N ps : List Str} {k n0 : Nat} {g : List D → Option R} {m : MS} (F : Fun K x qual st f fd) (S : FnScope N ps (defScope st)) (hn : n0 = ps.length)
    (hbody : ∀ (cdv : Value) (A : Around) (outer : List Env) (s : Shared) (H : Hp) (E : XK), Room k (A.deeper (PyProof.Rows.envOfC qual (defScope st) s.heap.objs.size f cdv)) →
      PSs (cxOf CX0 P w K mg base N qual (defScope st) f cdv A outer s H E).nox (defBody st) (sM K false m))
    (hm : ∀ ds r, g ds = some r → ds.length = n0 → ∃ r', m (startE N ds) = some (.rt r') ∧ r'.up = r) : FnOk P w K mg base CX0 (k + 1) f fd ps (spD K n0 g) := by
  refine F.ok S (fun vs H Q E h => by rw [← hn]; exact h.1) (fun cdv A outer s H vs Q E hr h => ?_)
  obtain ⟨hl, Z, ds, r, hZ, hd, hg, q⟩ := h
  obtain ⟨r', hm, hup⟩ := hm ds r hg (by rw [← DpAll_len hd]; exact hl)
  refine ⟨_, hbody cdv A outer s H E hr, startE N ds, ⟨Z, noM⟩, .rt r', held_start hZ hd, hm, ?_⟩
  intro v H' O' fr ra rg
  have sm : Same H H' := fun a o e => (fr.1 a o e rfl).1
  subst hup
  have ra' : RA K H' ⟨(WM.mk Z noM).w, noM⟩ v r' := by rw [WM.w0]; exact ra
  refine q v H' sm (up_ok ra') (up_f ?_)
  cases r' with
  | c d => trivial
  | u d => trivial
  | t T =>
    refine fun K' M as l p hp => ?_
    cases y : H p with
    | none => rfl
    | some ob => have := rg K' M as l p hp ob y; cases this
end MD

namespace MD
open PySem PySem.Spec L2

/-! ### defs of the text, and what they promise -/
structure Cal (P : Program) (w : World) (K : PySem.W.Frag) (mg : Str → Option Value) (base : Heap) (x : Str) (k : Nat) (ps : List Str) (g : List D → Option R) : Prop where
  ex : ∃ f fd, FnOk P w K mg base CX0 k f fd ps (spD K ps.length g) ∧ mg x = some (.ref f) ∧ PySem.W.keepIn K (.ref f) = true ∧ Binds K fd ps []
structure FunG (K : PySem.W.Frag) (mg : Str → Option Value) (x : Str) (st : Stmt) (ps : List Str) : Prop where
  ex : ∃ f fd, Fun K x x st f fd ∧ mg x = some (.ref f) ∧ Binds K fd ps []
theorem cal_of {P : Program} {w : World} {K : PySem.W.Frag} {mg : Str → Option Value} {base : Heap} {x : Str} {st : Stmt} {N ps : List Str} {k : Nat} {g : List D → Option R} {m : MS} (F : FunG K mg x st ps) (S : FnScope N ps (defScope st))
    (hbody : ∀ (f : Addr) (cdv : Value) (A : Around) (outer : List Env) (s : Shared) (H : Hp) (E : XK), Room k (A.deeper (PyProof.Rows.envOfC x (defScope st) s.heap.objs.size f cdv)) →
      PSs (cxOf CX0 P w K mg base N x (defScope st) f cdv A outer s H E).nox (defBody st) (sM K false m))
    (hm : ∀ ds r, g ds = some r → ∃ r', m (startE N ds) = some (.rt r') ∧ r'.up = r) : Cal P w K mg base x (k + 1) ps g := by
  obtain ⟨f, fd, h1, h2, h3⟩ := F.ex
  exact ⟨f, fd, fn_D h1 S rfl (hbody f) (fun ds r h _ => hm ds r h), h2, h1.kp, h3⟩
theorem m_callC {X : Cx} {x : Str} {k : Nat} {ps : List Str} {g : List D → Option R} {e : Expr} {es : List Expr} {n : MA} {p pos : Pos} (C : Cal X.prog X.w X.K X.mg X.base x k ps g) (hr : Room k X.A)
    (ha : PA X (e :: es) (tMA X.K n)) (hg : Gl X x := by rfl) (hdb : (x == ("__debug__" : Str)) = false := by decide) (he : starEach (e :: es) X.env = (false, eval e X.env) :: starEach es X.env := by rfl) (hpl : (backTo pos (starEach es X.env)).any (·.1) = false := by rfl) :
    PE X (.Call (.Name x p) (e :: es) [] pos) (tM X.K (mCall ps.length g n)) := by
  obtain ⟨f, fd, h1, h2, h3, h4⟩ := C.ex
  exact m_call h1 hr h2 h3 h4 ha hg hdb he hpl
theorem _root_.L2.Room.u1 {k : Nat} {A : Around} (r : Room k A) : A.in1.units + 64 < cLine := by have := r.un; show A.units + 1 + 64 < _; omega
/-- a module's number -/
theorem m_gint {X : Cx} {x : Str} {i : Int} {pos : Pos} (h : ∃ t, X.mg x = some (.int i t)) (hg : Gl X x := by rfl) (hd : (x == ("__debug__" : Str)) = false := by decide) : PE X (.Name x pos) (tM X.K (mC (.int i))) := by
  obtain ⟨t, h⟩ := h
  exact m_c (pe_glob (v := .int i) hg h ⟨t, rfl⟩ hd) fun _ => .int i

/-! a promise by typed arguments -/
open Classical in
noncomputable def gOf {α : Type} (args : α → List D) (pre : α → Prop) (f : α → R) : List D → Option R := fun ds => if h : ∃ a, pre a ∧ args a = ds then some (f h.choose) else none
/-! ### loops and comprehensions over known lists -/
theorem lcD_map {α : Type} {is : List Nat} {pick : D → Option (List D)} {c : Bool} {mt : MT} {me : ME} {E0 : Ev} {enc : α → D} {qs : α → List D} {b : α → Bool} {y : α → D} : ∀ (l : List α),
    (∀ a ∈ l, (c || flat (enc a)) = true ∧ pick (enc a) = some (qs a) ∧ mt (setAllE E0 is (qs a)) = some (b a) ∧ (b a = true → ∃ r, me (setAllE E0 is (qs a)) = some r ∧ r.pro = some (y a))) →
    lcD is pick c mt me E0 (l.map enc) = some ((l.filter b).map y)
  | [], _ => rfl
  | a :: l, h => by
    obtain ⟨h1, h2, h3, h4⟩ := h a List.mem_cons_self
    have ih := lcD_map (b := b) (y := y) (qs := qs) l fun x hx => h x (List.mem_cons_of_mem _ hx)
    show (if (c || flat (enc a)) = true then _ else none) = _
    rw [if_pos h1, h2]
    show (mt (setAllE E0 is (qs a))).bind _ = _
    rw [h3]
    show (if b a = true then _ else _) = _
    rw [List.filter_cons]
    split
    · rename_i hb
      obtain ⟨r, e1, e2⟩ := h4 hb
      rw [e1]
      show (r.pro).bind _ = _
      rw [e2]
      show (lcD is pick c mt me E0 (l.map enc)).bind _ = _
      rw [ih]
      rfl
    · exact ih
end MD
namespace MD
open PySem PySem.Spec L2
/-- what a def gives, by its mirror -/
def runD (m : MS) (N : List Str) : List D → Option R := fun ds => match m (startE N ds) with
  | some (.rt r) => some r.up
  | _ => none
theorem runD_ok {m : MS} {N : List Str} : ∀ ds r, runD m N ds = some r → ∃ r', m (startE N ds) = some (.rt r') ∧ r'.up = r := fun ds r h => by
  unfold runD at h
  split at h
  · rename_i r' e
    exact ⟨r', e, Option.some.inj h⟩
  · cases h
theorem runD_eq {m : MS} {N : List Str} {ds : List D} {r : R} (h : m (startE N ds) = some (.rt r)) : runD m N ds = some r.up := by
  unfold runD
  rw [h]
theorem cal_ex {P : Program} {w : World} {K : PySem.W.Frag} {mg : Str → Option Value} {base : Heap} {x : Str} {st : Stmt} {N ps : List Str} {k : Nat} {m : MS} {Spec : (List D → Option R) → Prop} (F : FunG K mg x st ps) (S : FnScope N ps (defScope st))
    (hbody : ∀ (f : Addr) (cdv : Value) (A : Around) (outer : List Env) (s : Shared) (H : Hp) (E : XK), Room k (A.deeper (PyProof.Rows.envOfC x (defScope st) s.heap.objs.size f cdv)) →
      PSs (cxOf CX0 P w K mg base N x (defScope st) f cdv A outer s H E).nox (defBody st) (sM K false m))
    (hs : Spec (runD m N)) : ∃ g, Cal P w K mg base x (k + 1) ps g ∧ Spec g := ⟨runD m N, cal_of F S hbody runD_ok, hs⟩
end MD

namespace MD
open PySem PySem.Spec L2
/-! ### reckoning with mirrors -/
theorem Rd_c (d : D) : (R.c d).d = d := rfl
theorem Rd_u (d : D) : (R.u d).d = d := rfl
theorem Rd_t (T : Tr) : (R.t T).d = T.d := rfl
theorem Rd_o (l : List D) : (R.o l).d = .list l := Tr.fl_d l
theorem Rcl_c (d : D) : (R.c d).cl = true := rfl
theorem Rcl_u (d : D) : (R.u d).cl = false := rfl
theorem Rcl_t (T : Tr) : (R.t T).cl = true := rfl
theorem Rcl_o (l : List D) : (R.o l).cl = true := rfl
theorem Rtr_b (k : Bool) : (R.c (.bool k)).tr = some k := rfl
theorem Rup_c (d : D) : (R.c d).up = .c d := rfl
theorem Rup_u (d : D) : (R.u d).up = .c d := rfl
theorem Rup_t (T : Tr) : (R.t T).up = .t T := rfl
theorem Rup_o (l : List D) : (R.o l).up = .o l := rfl
theorem Rpro_c (d : D) : (R.c d).pro = some d := rfl
theorem Rpro_o (l : List D) : (R.o l).pro = some (.list l) := by show (if (true || _) = true then some (Tr.fl l).d else none) = _; rw [Bool.true_or, if_pos rfl, Tr.fl_d]
theorem Rpro_t (T : Tr) : (R.t T).pro = some T.d := rfl
theorem Rpro_u (d : D) : (R.u d).pro = if flat d = true then some d else none := by show (if (false || _) = true then _ else none) = _; rw [Bool.false_or]; rfl
theorem Rtaint_o (l : List D) : (R.o l).taint = if flats l = true then .o l else .u (.list l) := by
  show (if (Tr.fl l).fleaf = true then R.t (Tr.fl l) else .u (Tr.fl l).d) = _
  rw [Tr.fleaf_fl, Tr.fl_d]
  rfl
theorem Rtaint_c (d : D) : (R.c d).taint = if flat d = true then .c d else .u d := rfl
theorem Rmk_t (d : D) : R.mk' true d = .c d := rfl
theorem Rmk_f (d : D) : R.mk' false d = if flat d = true then .c d else .u d := by unfold R.mk'; rw [Bool.false_or]
theorem pros_nil : pros [] = some [] := rfl
theorem pros_cons (r : R) (rs : List R) : pros (r :: rs) = r.pro.bind fun d => (pros rs).bind fun ds => some (d :: ds) := rfl
theorem sh_int (i : Int) : okD (.int i) = true := rfl
theorem sh_bool (i : Bool) : okD (.bool i) = true := rfl
theorem peqv_int (i j : Int) : PySem.PyData.eqv (.int i) (.int j) = decide (i = j) := by rw [PySem.PyData.eqv]; rfl
theorem eqv_int (i j : Int) : deq (.int i) (.int j) = decide (i = j) := by unfold deq; rw [D.pd, D.pd, peqv_int]
theorem eqv_bool (i j : Bool) : deq (.bool i) (.bool j) = decide (i = j) := by unfold deq; rw [D.pd, D.pd, PySem.PyData.eqv]; cases i <;> cases j <;> rfl
theorem flat_int (i : Int) : flat (.int i) = true := by simp [flat]
theorem flat_bool (i : Bool) : flat (.bool i) = true := by simp [flat]
theorem flat_list (l : List D) : flat (.list l) = false := by simp [flat]
theorem atI_0 {α : Type} (x : α) (l : List α) : atI (x :: l) 0 = some x := by simp [atI, ixN]
/-! points -/
abbrev Pt := Int × Int
def eP (p : Pt) : D := .tuple [.int p.1, .int p.2]
theorem flat_P (p : Pt) : flat (eP p) = true := by simp [eP, flat, flats]
theorem flats_P : ∀ ps : List Pt, flats (ps.map eP) = true
  | [] => by simp [flats]
  | p :: ps => by simp [flats, flat_P, flats_P ps]
def pP (p : Pt) : PySem.PyData := .tuple [.int p.1, .int p.2]
theorem pd_P (p : Pt) : (eP p).pd = pP p := by simp [eP, D.pd, D.pds, pP]
theorem pds_P : ∀ ps : List Pt, D.pds (ps.map eP) = ps.map pP
  | [] => by simp [D.pds]
  | p :: ps => by simp [D.pds, pd_P, pds_P ps]
theorem pure_P (p : Pt) : (eP p).pure = true := by simp [eP, D.pure, D.pures]
theorem pures_P : ∀ ps : List Pt, D.pures (ps.map eP) = true
  | [] => by simp [D.pures]
  | p :: ps => by simp [D.pures, pure_P, pures_P ps]
theorem sh_P (p : Pt) : okD (eP p) = true := rfl
theorem lay_P (p : Pt) : (pP p).canLay0 = true := rfl
theorem lays_P : ∀ ps : List Pt, PySem.PyData.canLayAll0 (ps.map pP) = true
  | [] => by simp [PySem.PyData.canLayAll0]
  | p :: ps => by simp [PySem.PyData.canLayAll0, lay_P, lays_P ps]
theorem dep_P (p : Pt) : (pP p).depth = 1 := by simp [pP, PySem.PyData.depth, PySem.PyData.depthAll]
theorem deps_P : ∀ ps : List Pt, PySem.PyData.depthAll (ps.map pP) ≤ 1
  | [] => by simp [PySem.PyData.depthAll]
  | p :: ps => by
    have := deps_P ps
    simp [PySem.PyData.depthAll, dep_P]
    omega
theorem sh_L (ps : List Pt) : okD (.list (ps.map eP)) = true := by
  unfold okD SeqAt.shaped
  have := deps_P ps
  rw [D.pure, pures_P, D.pd, pds_P, PySem.PyData.canLay0, lays_P, PySem.PyData.depth]
  simp
  omega
theorem shs_P (ps : List Pt) : (ps.map eP).all okD = true := by
  rw [List.all_eq_true]
  intro x hx
  obtain ⟨p, _, rfl⟩ := List.mem_map.mp hx
  exact sh_P p
theorem peqv_P (p q : Pt) : PySem.PyData.eqv (pP p) (pP q) = decide (p = q) := by
  obtain ⟨a, b⟩ := p
  obtain ⟨c, d⟩ := q
  show PySem.PyData.eqv (.tuple [.int a, .int b]) (.tuple [.int c, .int d]) = _
  rw [PySem.PyData.eqv, PySem.PyData.eqvAll, PySem.PyData.eqvAll, PySem.PyData.eqvAll, peqv_int, peqv_int]
  by_cases h1 : a = c <;> by_cases h2 : b = d <;> simp [h1, h2]
theorem eqv_P (p q : Pt) : deq (eP p) (eP q) = decide (p = q) := by unfold deq; rw [pd_P, pd_P, peqv_P]
theorem eqvs_P : ∀ ps qs : List Pt, PySem.PyData.eqvAll (ps.map pP) (qs.map pP) = decide (ps = qs)
  | [], [] => by simp [PySem.PyData.eqvAll]
  | [], _ :: _ => by simp [PySem.PyData.eqvAll]
  | _ :: _, [] => by simp [PySem.PyData.eqvAll]
  | p :: ps, q :: qs => by
    rw [List.map_cons, List.map_cons, PySem.PyData.eqvAll, peqv_P, eqvs_P ps qs]
    by_cases h1 : p = q <;> by_cases h2 : ps = qs <;> simp [h1, h2]
theorem eqv_L (ps qs : List Pt) : deq (.list (ps.map eP)) (.list (qs.map eP)) = decide (ps = qs) := by unfold deq; rw [D.pd, D.pd, pds_P, pds_P, PySem.PyData.eqv, eqvs_P]
theorem any_P (ps : List Pt) (q : Pt) : ((ps.map eP).any fun e => deq e (eP q)) = decide (q ∈ ps) := by
  rw [List.any_map]
  induction ps with
  | nil => simp
  | cons p ps ih =>
    rw [List.any_cons, ih]
    show (deq (eP p) (eP q) || _) = _
    rw [eqv_P]
    by_cases h1 : p = q
    · subst h1; simp
    · have h2 : ¬ q = p := fun z => h1 z.symm
      by_cases h3 : q ∈ ps <;> simp [h1, h2, h3]
theorem ix_P0 (p : Pt) : gIx (.c (eP p)) (.c (.int 0)) = some (.c (.int p.1)) := rfl
theorem ix_P1 (p : Pt) : gIx (.c (eP p)) (.c (.int 1)) = some (.c (.int p.2)) := rfl
theorem mul_r {i j : Int} (h : -(2 ^ 64) < j ∧ j < 2 ^ 64) : mulOk i j = true := mulOk_of (.of_right (intBits_le_64 h.1 h.2))
theorem tup_P (i j : Int) : R.c (.tuple [.int i, .int j]) = .c (eP (i, j)) := rfl
theorem isi_P (p : Pt) : gIsi .tuple (.c (eP p)) = some (.c (.bool true)) := rfl
theorem len_P (p : Pt) : gLen [.c (eP p)] = some (.c (.int 2)) := rfl
theorem isi_L (l : List D) : gIsi .list (.c (.list l)) = some (.c (.bool true)) := rfl
theorem isi_Lu (l : List D) : gIsi .list (.u (.list l)) = some (.c (.bool true)) := rfl
theorem isi_Tu (l : List D) : gIsi .tuple (.u (.tuple l)) = some (.c (.bool true)) := rfl
theorem len_L (l : List D) : gLen [.c (.list l)] = some (.c (.int l.length)) := rfl
theorem len_Lu (l : List D) : gLen [.u (.list l)] = some (.c (.int l.length)) := rfl
theorem len_Lo (l : List D) : gLen [.o l] = some (.c (.int l.length)) := by show (match (R.o l).d with | .list l => some (R.c (.int l.length)) | .tuple l => some (.c (.int l.length)) | _ => none) = _; rw [Rd_o]
theorem len_Tu (l : List D) : gLen [.u (.tuple l)] = some (.c (.int l.length)) := rfl
theorem any_o (bs : List Bool) : gAny [.o (bs.map .bool)] = some (.c (.bool (bs.any id))) := by show (match (R.o (bs.map .bool)).d with | .list l => (bls? l).map fun (ns : List Bool) => R.c (.bool (ns.any id)) | _ => none) = _; rw [Rd_o]; simp only [bls?_map]; rfl
theorem all_o (bs : List Bool) : gAll [.o (bs.map .bool)] = some (.c (.bool (bs.all id))) := by show (match (R.o (bs.map .bool)).d with | .list l => (bls? l).map fun (ns : List Bool) => R.c (.bool (ns.all id)) | _ => none) = _; rw [Rd_o]; simp only [bls?_map]; rfl
theorem sum_o (ns : List Int) : gSum [.o (ns.map .int)] = some (.c (.int ns.sum)) := by show (match (R.o (ns.map .int)).d with | .list l => (ints? l).map fun (ns : List Int) => R.c (.int ns.sum) | _ => none) = _; rw [Rd_o]; simp only [ints?_map]; rfl
theorem sum_c (ns : List Int) : gSum [.c (.list (ns.map .int))] = some (.c (.int ns.sum)) := by show (ints? (ns.map .int)).map (fun (ns : List Int) => R.c (.int ns.sum)) = _; rw [ints?_map]; rfl
theorem in_L (neg : Bool) (ps : List Pt) (q : Pt) : gIn neg (.c (eP q)) (.c (.list (ps.map eP))) = some (.c (.bool (neg != decide (q ∈ ps)))) := by
  show (if okD (eP q) && (ps.map eP).all okD then some (R.c (.bool (neg != (ps.map eP).any fun e => deq e (eP q)))) else none) = _
  rw [sh_P, shs_P, any_P]
  rfl
def sp (p q : Pt) : Int := p.1 * q.2 - p.2 * q.1
def std (p : Pt) : Bool := decide (0 < p.2) || (decide (p.2 = 0) && decide (0 < p.1))
def ad (p q : Pt) : Pt := (p.1 + q.1, p.2 + q.2)
def ng (p : Pt) : Pt := (-p.1, -p.2)
def stnd (p : Pt) : Pt := if std p then p else ng p
def Sm (p : Pt) : Prop := (-(2 ^ 64) < p.1 ∧ p.1 < 2 ^ 64) ∧ (-(2 ^ 64) < p.2 ∧ p.2 < 2 ^ 64)
def absI (i : Int) : Int := if i < 0 then -i else i
def near (p : Pt) : Bool := decide (absI p.1 ≤ 20) && decide (absI p.2 ≤ 20)
def psum : List Pt → Pt
  | [] => (0, 0)
  | p :: ps => ad p (psum ps)
end MD
namespace MD
open PySem PySem.Spec L2
theorem filter_true {α : Type} (l : List α) : l.filter (fun _ => true) = l := List.filter_eq_self.mpr fun _ _ => rfl
theorem mIL_c (l : List D) {m : ME} {E : Ev} (h : m E = some (.c (.list l))) : mIL m E = some (true, l) := by unfold mIL; rw [h]; rfl
theorem mIL_o (l : List D) {m : ME} {E : Ev} (h : m E = some (.o l)) : mIL m E = some (true, l) := by unfold mIL; rw [h]; show (match (R.o l).d with | .list l => some ((R.o l).cl, l) | _ => none) = _; rw [Rd_o]; rfl
/-- a loop, its turns by an invariant -/
theorem mFor_ind {α : Type} {i : Nat} {mi : MI} {mb : MS} {E : Ev} {l : List α} {enc : α → D} (Pv : List α → Ev → Prop) (hi : mi E = some (true, l.map enc)) (h0 : Pv [] E)
    (step : ∀ (pre : List α) (a : α) (E : Ev), a ∈ l → pre.length < l.length → (∃ post, l = pre ++ a :: post) → Pv pre E → ∃ E', mb (E.set i (some (.v (enc a)))) = some (.nx E') ∧ Pv (pre ++ [a]) E') : ∃ E', mFor [i] pick1 mi mb E = some (.nx E') ∧ Pv l E' := by
  have main : ∀ (post pre : List α) (E : Ev), l = pre ++ post → Pv pre E → ∃ E', forD [i] pick1 mb (post.map enc) E = some (.nx E') ∧ Pv l E' := by
    intro post
    induction post with
    | nil => intro pre E e h; rw [List.append_nil] at e; subst e; exact ⟨E, rfl, h⟩
    | cons a post ih =>
      intro pre E e h
      obtain ⟨E', h1, h2⟩ := step pre a E (by rw [e]; simp) (by rw [e]; simp) ⟨post, e⟩ h
      obtain ⟨E2, h3, h4⟩ := ih (pre ++ [a]) E' (by rw [e]; simp) h2
      refine ⟨E2, ?_, h4⟩
      show (mb (E.set i (some (.v (enc a))))).bind _ = _
      rw [h1]
      exact h3
  obtain ⟨E', h1, h2⟩ := main l [] E rfl h0
  refine ⟨E', ?_, h2⟩
  unfold mFor
  rw [hi]
  exact h1
end MD
namespace MD
open PySem PySem.Spec L2
theorem all_f {α : Type} (l : List α) (f : α → Bool) : gAll [.o (l.map fun a => D.bool (f a))] = some (.c (.bool (l.all f))) := by
  have e : (l.map fun a => D.bool (f a)) = (l.map f).map .bool := by rw [List.map_map]; rfl
  rw [e, all_o, List.all_map]
  rfl
theorem sum_f {α : Type} (l : List α) (f : α → Int) : gSum [.o (l.map fun a => D.int (f a))] = some (.c (.int (l.map f).sum)) := by
  have e : (l.map fun a => D.int (f a)) = (l.map f).map .int := by rw [List.map_map]; rfl
  rw [e, sum_o]
theorem Td_fl (l : List D) : (Tr.fl l).d = .list l := Tr.fl_d l
theorem Td_pair (T : Tr) (d : D) : (Tr.tup [T, .leaf d]).d = .tuple [T.d, d] := by simp [Tr.d, Tr.ds]
theorem Ro_t (T : List D) : R.t (Tr.fl T) = .o T := rfl
theorem rng_map (lo : Int) (n : Nat) : rng lo n = (List.range n).map fun (i : Nat) => D.int (lo + i) := rfl
theorem lst_fl (l : List D) : Tr.lst (l.map .leaf) = Tr.fl l := rfl
theorem mApp_fl {i : Nat} {n : MA} {E : Ev} {l : List D} {d : D} {rs : List R} (h : E[i]? = some (some (.t (Tr.fl l)))) (hn : n E = some rs) (hp : pros rs = some [d]) (hl : l.length < lim) : mApp i n E = some (.nx (E.set i (some (.t (Tr.fl (l ++ [d])))))) := by
  unfold mApp
  rw [h]
  show (n E).bind _ = _
  rw [hn]
  show (pros rs).bind _ = _
  rw [hp]
  show (if (l.map Tr.leaf).length < lim then _ else none) = _
  rw [List.length_map, if_pos hl]
  unfold Tr.fl
  rw [List.map_append]
  rfl
end MD
namespace MD
theorem rAsgO_o (i : Nat) (E : Ev) (l : List D) : rAsgO i E (.o l) = some (.nx (E.set i (some (.t (Tr.fl l))))) := rfl
theorem rAsgO_t (i : Nat) (E : Ev) (T : Tr) : rAsgO i E (.t T) = some (.nx (E.set i (some (.t T)))) := rfl
end MD
namespace MD
open PySem PySem.Spec L2
theorem mSeq_nx {s t : MS} {E E1 : Ev} (h : s E = some (.nx E1)) : mSeq s t E = t E1 := by unfold mSeq; rw [h]; rfl
theorem mSeq_ex {s t : MS} {E : Ev} {P : Ev → Prop} {Q : Out → Prop} (h : ∃ E', s E = some (.nx E') ∧ P E') (k : ∀ E', P E' → ∃ b, t E' = some b ∧ Q b) : ∃ b, mSeq s t E = some b ∧ Q b := by
  obtain ⟨E', e, p⟩ := h
  rw [mSeq_nx e]
  exact k E' p
theorem mIfS_t {c : MT} {s t : MS} {E : Ev} (h : c E = some true) : mIfS c s t E = s E := by unfold mIfS; rw [h]; rfl
theorem mIfS_f {c : MT} {s t : MS} {E : Ev} (h : c E = some false) : mIfS c s t E = t E := by unfold mIfS; rw [h]; rfl
theorem cut_c (l : List D) (lo hi : Option Int) : gCut (.c (.list l)) lo hi = some (.o (cutD l lo hi)) := rfl
theorem sh_nil : okD (.list []) = true := rfl
end MD
namespace MD
open PySem PySem.Spec L2
theorem mIR1_eq {n : MA} {E : Ev} {j : Int} (h : n E = some [.c (.int j)]) (hb : big62 j = true) : mIR1 n E = some (true, (List.range j.toNat).map fun (i : Nat) => D.int (0 + (i : Int))) := by
  unfold mIR1
  rw [h]
  show (if big62 j = true then _ else none) = _
  rw [if_pos hb]
  rfl
end MD
namespace MD
open PySem PySem.Spec L2
theorem mSeq_nxE {s t : MS} {E : Ev} {P Q : Ev → Prop} (h : ∃ E1, s E = some (.nx E1) ∧ P E1) (k : ∀ E1, P E1 → ∃ E', t E1 = some (.nx E') ∧ Q E') : ∃ E', mSeq s t E = some (.nx E') ∧ Q E' := by
  obtain ⟨E1, e, p⟩ := h
  rw [mSeq_nx e]
  exact k E1 p
theorem ix_T0 (d : D) (l : List D) : gIx (.u (.tuple (d :: l))) (.c (.int 0)) = some (R.mk' false d) := by
  show (atI (d :: l) 0).map (R.mk' false) = _
  rw [atI_0]
  rfl
theorem list_c (l : List D) : gList [.c (.list l)] = some (.o l) := rfl
end MD
namespace MD
open PySem PySem.Spec L2
theorem runD_to {m : MS} {N : List Str} {ds : List D} {r0 : R} (h : ∃ o, m (startE N ds) = some o ∧ ∃ r, o = .rt r ∧ r.up = r0) : runD m N ds = some r0 := by
  obtain ⟨o, e, r, rfl, q⟩ := h
  rw [← q]
  exact runD_eq e
end MD

namespace MD
open PySem PySem.Spec L2
/-! ### the mathematics of gathered sticks -/
def sm2 (l : List Pt) : Pt := ((l.map (·.1)).sum, (l.map (·.2)).sum)
theorem sm2_nil : sm2 [] = (0, 0) := rfl
theorem sm2_cons (p : Pt) (l : List Pt) : sm2 (p :: l) = ad p (sm2 l) := by simp [sm2, ad]
theorem ad_assoc (a b c : Pt) : ad (ad a b) c = ad a (ad b c) := by unfold ad; simp only [Int.add_assoc]
theorem ad_zero (a : Pt) : ad a (0, 0) = a := by simp [ad]
theorem zero_ad (a : Pt) : ad (0, 0) a = a := by simp [ad]
theorem sm2_app (l r : List Pt) : sm2 (l ++ r) = ad (sm2 l) (sm2 r) := by simp [sm2, ad]
def Std (p : Pt) : Prop := 0 < p.2 ∨ (p.2 = 0 ∧ 0 < p.1)
theorem std_iff {p : Pt} : std p = true ↔ Std p := by unfold std Std; simp
theorem sp_anti (a b : Pt) : sp b a = - sp a b := by unfold sp; have h1 := Int.mul_comm b.1 a.2; have h2 := Int.mul_comm b.2 a.1; omega
theorem sp_self (a : Pt) : sp a a = 0 := by unfold sp; rw [Int.mul_comm]; omega
theorem sp_adl (a b c : Pt) : sp (ad a b) c = sp a c + sp b c := by unfold sp ad; simp only [Int.add_mul]; omega
theorem sp_adr (a b c : Pt) : sp a (ad b c) = sp a b + sp a c := by unfold sp ad; simp only [Int.mul_add]; omega
theorem Std.ad {a b : Pt} (ha : Std a) (hb : Std b) : Std (ad a b) := by unfold Std MD.ad at *; simp only; omega
theorem pl (a b c : Pt) : b.2 * sp a c = a.2 * sp b c + c.2 * sp a b := by
  unfold sp
  simp only [Int.mul_sub]
  have e1 : b.2 * (a.1 * c.2) = c.2 * (a.1 * b.2) := by rw [← Int.mul_assoc, Int.mul_comm b.2 a.1, Int.mul_comm (a.1 * b.2) c.2]
  have e2 : b.2 * (a.2 * c.1) = a.2 * (b.2 * c.1) := by rw [← Int.mul_assoc, ← Int.mul_assoc, Int.mul_comm b.2 a.2]
  have e3 : a.2 * (b.1 * c.2) = c.2 * (a.2 * b.1) := by rw [← Int.mul_assoc, Int.mul_comm (a.2 * b.1) c.2]
  omega
theorem pos_of_mul {b x : Int} (hb : 0 < b) (h : 0 < b * x) : 0 < x := by
  rcases Int.lt_trichotomy x 0 with q | q | q
  · have := Int.mul_neg_of_pos_of_neg hb q; omega
  · subst q; simp at h
  · exact q
theorem zero_of_mul {b x : Int} (hb : 0 < b) (h : b * x = 0) : x = 0 := by
  rcases Int.mul_eq_zero.mp h with q | q
  · omega
  · exact q
/-- a standing b that is farther round than some standing a leads up -/
theorem up_of {a b : Pt} (ha : Std a) (hb : Std b) (h : 0 < sp a b) : 0 < b.2 := by
  rcases hb with q | ⟨q1, q2⟩
  · exact q
  · exfalso
    unfold sp at h
    rw [q1, Int.mul_zero] at h
    have ha2 : 0 ≤ a.2 := by rcases ha with z | z <;> omega
    have := Int.mul_nonneg ha2 (Int.le_of_lt q2)
    omega
theorem tr1 {a b c : Pt} (ha : Std a) (hb : Std b) (hc : Std c) (h1 : 0 < sp a b) (h2 : 0 < sp b c) : 0 < sp a c := by
  have b2 := up_of ha hb h1
  have c2 := up_of hb hc h2
  have a2 : 0 ≤ a.2 := by rcases ha with z | z <;> omega
  have e := pl a b c
  have e1 := Int.mul_nonneg a2 (Int.le_of_lt h2)
  have e2 := Int.mul_pos c2 h1
  exact pos_of_mul b2 (by omega)
theorem tr2 {a b c : Pt} (ha : Std a) (hb : Std b) (hc : Std c) (h1 : sp a b = 0) (h2 : 0 < sp b c) : 0 < sp a c := by
  have c2 := up_of hb hc h2
  rcases hb with b2 | ⟨b2, b1⟩
  · have a2 : 0 < a.2 := by
      rcases ha with z | ⟨z1, z2⟩
      · exact z
      · exfalso
        unfold sp at h1
        rw [z1, Int.zero_mul] at h1
        have := Int.mul_pos z2 b2
        omega
    have e := pl a b c
    rw [h1, Int.mul_zero] at e
    have e1 := Int.mul_pos a2 h2
    exact pos_of_mul b2 (by omega)
  · have a2 : a.2 = 0 := by
      unfold sp at h1
      rw [b2, Int.mul_zero] at h1
      have : a.2 * b.1 = 0 := by omega
      rcases Int.mul_eq_zero.mp this with q | q
      · exact q
      · omega
    have a1 : 0 < a.1 := by rcases ha with z | z <;> omega
    unfold sp
    rw [a2, Int.zero_mul]
    have := Int.mul_pos a1 c2
    omega
theorem tr3 {a b c : Pt} (ha : Std a) (hb : Std b) (hc : Std c) (h1 : 0 < sp a b) (h2 : sp b c = 0) : 0 < sp a c := by
  have b2 := up_of ha hb h1
  have c2 : 0 < c.2 := by
    rcases hc with z | ⟨z1, z2⟩
    · exact z
    · exfalso
      unfold sp at h2
      rw [z1, Int.mul_zero] at h2
      have := Int.mul_pos b2 z2
      omega
  have e := pl a b c
  rw [h2, Int.mul_zero] at e
  have e1 := Int.mul_pos c2 h1
  exact pos_of_mul b2 (by omega)
theorem tr4 {a b c : Pt} (ha : Std a) (hb : Std b) (hc : Std c) (h1 : sp a b = 0) (h2 : sp b c = 0) : sp a c = 0 := by
  rcases hb with b2 | ⟨b2, b1⟩
  · have e := pl a b c
    rw [h1, h2, Int.mul_zero, Int.mul_zero] at e
    exact zero_of_mul b2 (by omega)
  · have a2 : a.2 = 0 := by
      unfold sp at h1
      rw [b2, Int.mul_zero] at h1
      have : a.2 * b.1 = 0 := by omega
      rcases Int.mul_eq_zero.mp this with q | q
      · exact q
      · omega
    have c2 : c.2 = 0 := by
      unfold sp at h2
      rw [b2, Int.zero_mul] at h2
      have : b.1 * c.2 = 0 := by omega
      rcases Int.mul_eq_zero.mp this with q | q
      · omega
      · exact q
    unfold sp
    rw [a2, c2]
    omega
theorem sp0_sym {a b : Pt} (h : sp a b = 0) : sp b a = 0 := by rw [sp_anti, h]; rfl

/-! one more stick -/
def along (ss : List Pt) (p : Pt) : List Pt := ss.filter fun s => decide (sp s p = 0)
def newSt (ss : List Pt) (p : Pt) : Pt := (along ss p).foldl (fun a o => ad o a) p
def swith (ss : List Pt) (p : Pt) : List Pt := ss.filter (fun s => decide (0 < sp s p)) ++ [newSt ss p] ++ ss.filter (fun s => decide (sp s p < 0))
/-- the sticks of the standing rows S -/
structure GInv (ss S : List Pt) : Prop where
  sd : ∀ s ∈ ss, Std s
  rd : ∀ r ∈ S, Std r
  pw : ss.Pairwise fun a b => 0 < sp a b
  su : ∀ s ∈ ss, s = sm2 (S.filter fun r => decide (sp s r = 0)) ∧ ∃ r ∈ S, sp s r = 0
  ex : ∀ r ∈ S, ∃ s ∈ ss, sp s r = 0
theorem GInv.nil : GInv [] [] := ⟨fun _ h => (by cases h), fun _ h => (by cases h), List.Pairwise.nil, fun _ h => (by cases h), fun _ h => (by cases h)⟩
theorem pw_one {α : Type} {R : α → α → Prop} {P : α → Prop} (hn : ∀ a b, P a → P b → R a b → False) : ∀ {l : List α}, l.Pairwise R → (∀ a ∈ l, P a) → l = [] ∨ ∃ a, l = [a]
  | [], _, _ => .inl rfl
  | [a], _, _ => .inr ⟨a, rfl⟩
  | a :: b :: l, h, hp => by
    have h1 := (List.pairwise_cons.mp h).1 b List.mem_cons_self
    exact (hn a b (hp a List.mem_cons_self) (hp b (List.mem_cons_of_mem _ List.mem_cons_self)) h1).elim
theorem GInv.along {ss S : List Pt} (h : GInv ss S) {p : Pt} (hp : Std p) : MD.along ss p = [] ∨ ∃ o, MD.along ss p = [o] ∧ o ∈ ss ∧ sp o p = 0 := by
  have mem : ∀ o ∈ MD.along ss p, o ∈ ss ∧ sp o p = 0 := fun o ho => by
    unfold MD.along at ho
    rw [List.mem_filter, decide_eq_true_eq] at ho
    exact ho
  rcases pw_one (P := fun o => o ∈ ss ∧ sp o p = 0) (R := fun a b => 0 < sp a b) (fun a b ha hb hr => by
      have := tr4 (h.sd a ha.1) hp (h.sd b hb.1) ha.2 (sp0_sym hb.2)
      omega) (List.Pairwise.filter _ h.pw) mem with e | ⟨o, e⟩
  · exact .inl e
  · exact .inr ⟨o, e, mem o (by rw [show MD.along ss p = [o] from e]; exact List.mem_cons_self)⟩
theorem filter_none {α : Type} {P : α → Bool} {l : List α} (h : ∀ a ∈ l, P a = false) : l.filter P = [] := List.filter_eq_nil_iff.mpr fun a ha => by rw [h a ha]; simp
theorem GInv.step {ss S : List Pt} (h : GInv ss S) {p : Pt} (hp : Std p) : GInv (swith ss p) (S ++ [p]) := by
  -- the new stick
  have hq : Std (newSt ss p) ∧ sp (newSt ss p) p = 0 ∧ newSt ss p = sm2 ((S ++ [p]).filter fun r => decide (sp (newSt ss p) r = 0)) := by
    rcases h.along hp with e | ⟨o, e, ho, e2⟩
    · have eq : newSt ss p = p := by unfold newSt; rw [e]; rfl
      rw [eq]
      refine ⟨hp, sp_self p, ?_⟩
      rw [List.filter_append, filter_none (l := S), List.nil_append]
      · rw [List.filter_cons, if_pos (by rw [sp_self]; rfl)]
        rw [List.filter_nil, sm2_cons, sm2_nil, ad_zero]
      · intro r hr
        refine decide_eq_false fun z => ?_
        obtain ⟨s, hs, es⟩ := h.ex r hr
        have := tr4 (h.sd s hs) (h.rd r hr) hp es (sp0_sym z)
        have hm : s ∈ MD.along ss p := by unfold MD.along; rw [List.mem_filter, decide_eq_true_eq]; exact ⟨hs, this⟩
        rw [e] at hm
        cases hm
    · have eq : newSt ss p = ad o p := by unfold newSt; rw [e]; rfl
      have so := h.sd o ho
      have sq : Std (ad o p) := so.ad hp
      have e3 : sp (ad o p) p = 0 := by rw [sp_adl, e2, sp_self]; rfl
      have e4 : sp o (ad o p) = 0 := by rw [sp_adr, sp_self, e2]; rfl
      rw [eq]
      refine ⟨sq, e3, ?_⟩
      have ef : (S.filter fun r => decide (sp (ad o p) r = 0)) = S.filter fun r => decide (sp o r = 0) := by
        apply List.filter_congr
        intro r hr
        have hr' := h.rd r hr
        by_cases z : sp o r = 0
        · rw [decide_eq_true z, decide_eq_true (tr4 sq so hr' (sp0_sym e4) z)]
        · rw [decide_eq_false z, decide_eq_false fun y => z (tr4 so sq hr' e4 y)]
      rw [List.filter_append, ef, sm2_app, ← (h.su o ho).1, List.filter_cons, if_pos (by rw [e3]; rfl), List.filter_nil, sm2_cons, sm2_nil, ad_zero]
  obtain ⟨sq, eq, em⟩ := hq
  have old : ∀ s ∈ ss, sp s p ≠ 0 → s = sm2 ((S ++ [p]).filter fun r => decide (sp s r = 0)) ∧ ∃ r ∈ S ++ [p], sp s r = 0 := fun s hs hn => by
    obtain ⟨h1, r, hr, h2⟩ := h.su s hs
    refine ⟨?_, r, List.mem_append_left _ hr, h2⟩
    rw [List.filter_append, List.filter_cons, if_neg (by simp [hn]), List.filter_nil, List.append_nil]
    exact h1
  have mem : ∀ s, s ∈ swith ss p ↔ (s ∈ ss ∧ 0 < sp s p) ∨ s = newSt ss p ∨ (s ∈ ss ∧ sp s p < 0) := fun s => by
    unfold swith
    simp only [List.mem_append, List.mem_filter, decide_eq_true_eq, List.mem_singleton]
    constructor
    · rintro ((q | q) | q)
      · exact .inl q
      · exact .inr (.inl q)
      · exact .inr (.inr q)
    · rintro (q | q | q)
      · exact .inl (.inl q)
      · exact .inl (.inr q)
      · exact .inr q
  refine ⟨fun s hs => ?_, fun r hr => ?_, ?_, fun s hs => ?_, fun r hr => ?_⟩
  · rcases (mem s).mp hs with ⟨q, _⟩ | q | ⟨q, _⟩
    · exact h.sd s q
    · rw [q]; exact sq
    · exact h.sd s q
  · rcases List.mem_append.mp hr with q | q
    · exact h.rd r q
    · rw [List.mem_singleton.mp q]; exact hp
  · unfold swith
    rw [List.append_assoc, List.pairwise_append]
    refine ⟨List.Pairwise.filter _ h.pw, ?_, fun a ha b hb => ?_⟩
    · rw [List.singleton_append, List.pairwise_cons]
      refine ⟨fun b hb => ?_, List.Pairwise.filter _ h.pw⟩
      rw [List.mem_filter, decide_eq_true_eq] at hb
      refine tr2 sq hp (h.sd b hb.1) eq ?_
      rw [sp_anti]
      omega
    · rw [List.mem_filter, decide_eq_true_eq] at ha
      rw [List.singleton_append] at hb
      rcases List.mem_cons.mp hb with z | z
      · rw [z]
        exact tr3 (h.sd a ha.1) hp sq ha.2 (sp0_sym eq)
      · rw [List.mem_filter, decide_eq_true_eq] at z
        refine tr1 (h.sd a ha.1) hp (h.sd b z.1) ha.2 ?_
        rw [sp_anti]
        omega
  · rcases (mem s).mp hs with ⟨q, z⟩ | q | ⟨q, z⟩
    · exact old s q (by omega)
    · rw [q]
      exact ⟨em, p, List.mem_append_right _ List.mem_cons_self, eq⟩
    · exact old s q (by omega)
  · rcases List.mem_append.mp hr with q | q
    · obtain ⟨s, hs, es⟩ := h.ex r q
      rcases Int.lt_trichotomy (sp s p) 0 with z | z | z
      · exact ⟨s, (mem s).mpr (.inr (.inr ⟨hs, z⟩)), es⟩
      · refine ⟨newSt ss p, (mem _).mpr (.inr (.inl rfl)), ?_⟩
        have e1 : sp p r = 0 := tr4 hp (h.sd s hs) (h.rd r q) (sp0_sym z) es
        exact tr4 sq hp (h.rd r q) eq e1
      · exact ⟨s, (mem s).mpr (.inl ⟨hs, z⟩), es⟩
    · rw [List.mem_singleton.mp q]
      exact ⟨newSt ss p, (mem _).mpr (.inr (.inl rfl)), eq⟩
def gstep (a : List Pt × Pt) (r : Pt) : List Pt × Pt := (swith a.1 (stnd r), if std r then a.2 else ad a.2 r)
def gth (rows : List Pt) : List Pt × Pt := rows.foldl gstep ([], (0, 0))
def Good (p : Pt) : Prop := near p = true ∧ p ≠ (0, 0)
theorem Good.std {p : Pt} (h : Good p) : Std (stnd p) := by
  unfold stnd
  split
  · rename_i q; exact std_iff.mp q
  · rename_i q
    have q' : ¬ Std p := fun z => q (std_iff.mpr z)
    unfold Std ng at *
    have h2 := h.2
    obtain ⟨a, b⟩ := p
    simp only [ne_eq, Prod.mk.injEq, not_and] at h2
    simp only at q' ⊢
    by_cases hb : b = 0
    · have : a ≠ 0 := fun z => h2 z hb
      omega
    · omega
theorem near_iff {p : Pt} : near p = true ↔ (-20 ≤ p.1 ∧ p.1 ≤ 20) ∧ (-20 ≤ p.2 ∧ p.2 ≤ 20) := by
  unfold near absI
  simp only [Bool.and_eq_true, decide_eq_true_eq]
  constructor
  · rintro ⟨h1, h2⟩
    split at h1 <;> split at h2 <;> omega
  · rintro ⟨h1, h2⟩
    refine ⟨?_, ?_⟩ <;> (split <;> omega)
theorem near_sm {p : Pt} (h : near p = true) : Sm p := by
  rw [near_iff] at h
  unfold Sm
  omega
end MD
namespace MD
open PySem PySem.Spec L2 PySem.Builtin.Int
theorem mulOk_bits {a b : Int} {m n : Nat} (ha : intBits a ≤ m) (hb : intBits b ≤ n) (h : m + n ≤ 134217728) : mulOk a b = true := mulOk_of (PyProof.Rows.mulOk_of_bits ha hb h)
/-- a pair by a number -/
def lpair (n : Int) : Pt := (if n / 41 % 21 = 0 then 1 + absI (n % 41 - 20) % 20 else n % 41 - 20, n / 41 % 21)
theorem Good.ng {p : Pt} (h : Good p) : Good (ng p) := by
  obtain ⟨h1, h2⟩ := h
  rw [near_iff] at h1
  refine ⟨near_iff.mpr (by unfold MD.ng; simp only; omega), fun z => h2 ?_⟩
  unfold MD.ng at z
  simp only [Prod.mk.injEq] at z
  obtain ⟨a, b⟩ := p
  simp only [Prod.mk.injEq]
  simp only at z
  omega
theorem Good.two {p : Pt} (h : Good p) (hx : absI p.1 < 11) (hy : absI p.2 < 11) : Good (-2 * p.1, -2 * p.2) := by
  obtain ⟨h1, h2⟩ := h
  unfold absI at hx hy
  refine ⟨near_iff.mpr ?_, fun z => h2 ?_⟩
  · simp only
    split at hx <;> split at hy <;> omega
  · simp only [Prod.mk.injEq] at z
    obtain ⟨a, b⟩ := p
    simp only [Prod.mk.injEq]
    simp only at z
    omega
theorem pds_ints : ∀ ns : List Int, D.pds (ns.map .int) = ns.map .int
  | [] => by simp [D.pds]
  | n :: ns => by simp [D.pds, D.pd, pds_ints ns]
theorem pures_ints : ∀ ns : List Int, D.pures (ns.map .int) = true
  | [] => by simp [D.pures]
  | n :: ns => by simp [D.pures, D.pure, pures_ints ns]
theorem sh_ints (ns : List Int) : okD (.list (ns.map .int)) = true := by
  unfold okD
  rw [D.pure, pures_ints, D.pd, pds_ints, PySem.W.ke_shaped_ints]
  rfl
theorem eqv_ints_nil (ns : List Int) : deq (.list (ns.map .int)) (.list []) = decide (ns = []) := by
  unfold deq
  rw [D.pd, D.pd, pds_ints, D.pds, PySem.PyData.eqv]
  cases ns with
  | nil => simp [PySem.PyData.eqvAll]
  | cons n ns => simp [PySem.PyData.eqvAll]
end MD
namespace MD
open PySem PySem.Spec L2
theorem ex_nx {A : Ev → Prop} {P Q : Ev → Prop} (h : ∃ E', A E' ∧ P E') (k : ∀ E', P E' → Q E') : ∃ E', A E' ∧ Q E' := let ⟨E', a, p⟩ := h; ⟨E', a, k E' p⟩
theorem eqv_L_nil (ps : List Pt) : deq (.list (ps.map eP)) (.list []) = decide (ps = []) := by
  have h := eqv_L ps []
  rw [List.map_nil] at h
  exact h
theorem flat_PP (a b : Pt) : flat (.tuple [eP a, eP b]) = true := by simp [flat, flats, flat_P]
end MD

namespace Att
open PySem PySem.W PySem.Spec PyProof.Rows
theorem weight_mem : ∀ {ns : List Int} {n : Int}, n ∈ ns → WData.weight (.int n) ≤ WData.weightAll (ns.map .int)
  | [], _, h => by cases h
  | m :: ns, n, h => by
    rw [List.map_cons, WData.weightAll]
    rcases List.mem_cons.mp h with e | e
    · subst e; omega
    · have := weight_mem e; omega
theorem bits_mem {ns : List Int} (h : WData.layable (.list (ns.map .int)) = true) : ∀ n ∈ ns, Builtin.Int.intBits n ≤ 1048576 := fun n hn => by
  unfold WData.layable at h
  simp only [Bool.and_eq_true, decide_eq_true_eq] at h
  have h2 := h.2
  rw [WData.weight] at h2
  have h3 := weight_mem hn
  rw [WData.weight] at h3
  unfold Builtin.Int.intBits
  omega
end Att
namespace Att
open PySem PySem.W PySem.Calls PyProof.Rows
/-- the call, with the script's numbers bounded -/
theorem attach_callB {l : OpenLaw} {n : Nat} {q : Program} {loose : List Str} {XP : (Str → Option Value) → Heap → Prop} {YP : World → Heap → Prop} {d : DefRec}
    (hn : l.most = some n) (hdf : d.params.defaults = [])
    (call : ∀ (w : World) (s₀ s₁ : Shared) (mg mb : Str → Option Value) (fa : Addr) (o : Obj) (pm cd doc : Value) (a : Addr) (vs : List Value) (ns : List Int),
      Ground q loose [] XP w s₀ mg mb s₁.heap → YP w s₁.heap →
      s₁.heap.get? fa = some o → o.data = .func (docDef d.name d.params d.body d.scope pm cd doc) → s₁.heap.CodeRec cd d.name → mg d.name = some (.ref fa) →
      s₁.heap.get? a = some { cls := .type "list", data := .seq vs.toArray } → IntsAre vs ns → ns.length ≤ n → s₁.gens = #[] → (∀ m ∈ ns, Builtin.Int.intBits m ≤ 1048576) →
      codeAny (model l.prog w) callerA (.call (.ref fa) ⟨[.ref a], []⟩) (fun r s' => r = .ok (.ret (.bool true)) ∧ OldK s₁.heap s'.heap ∧ s'.os = s₁.os ∧ AllBare s'.gens) s₁) :
    WalkO q loose XP YP l.row.toRowW d [] (fun f vs => PySem.call f vs) := by
  intro w s₀ s₁ mg mb G Y fa o pm cd doc dV kV ho hd hcd hD hmg hg args vals as hpre hlay hrd hwl hlo
  obtain rfl : dV = .none := Dflts.none hD hdf
  obtain rfl : kV = .none := Dflts.noKw hD
  obtain ⟨a, vs, ns, rfl, rfl, hobj, hints, hlen⟩ := script_of hn hpre hwl
  have hb : ∀ m ∈ ns, Builtin.Int.intBits m ≤ 1048576 := by
    unfold WData.layableAll at hlay
    rw [List.all_cons, Bool.and_eq_true] at hlay
    exact bits_mem hlay.1
  refine enter_call (codeAny_mono (call w s₀ s₁ mg mb fa o pm cd doc a vs ns G Y ho (fd_plain hd) hcd hmg hobj hints hlen hg hb) fun r s' hq => ?_)
  obtain ⟨rfl, h2, h3, h4⟩ := hq
  exact ⟨.inl ⟨.bool true, .bool true, [], rfl, fun _ => rfl, .bool true, post_true l _, fun _ => ⟨List.Pairwise.nil, fun _ hm => (nomatch hm)⟩⟩, h2, h3, h4⟩
end Att
namespace MD
open PySem PySem.Spec PyProof.Rows L2
/-- the law's promise -/
def spLaw (K : PySem.W.Frag) : Sp := fun vs H Q _ => ∃ (a : Addr) (ns : List Int), vs = [.ref a] ∧ SqL K H a (ns.map V.int) ∧ ns.length ≤ 63 ∧ (∀ m ∈ ns, Builtin.Int.intBits m ≤ 1048576) ∧ ∀ H', Q (.bl true) H'
theorem walk_ofB {l : PySem.W.OpenLaw} {k : Nat} {q : Program} {loose : List Str} {XP : (Str → Option Value) → Heap → Prop} {YP : World → Heap → Prop} {d : DefRec} {K : Params → PySem.W.Frag} {x : Str}
    (hn : l.most = some 63) (hdf : d.params.defaults = []) (hr : Room k callerA)
    (hY : ∀ (w : World) (h : Heap), YP w h → (K w.params).In h)
    (F : ∀ (w : World) (mg : Str → Option Value) (fa : Addr) (h : Heap), (K w.params).In h → h.Ns mainGlobals mg → mg d.name = some (.ref fa) →
      ∃ fd : FuncData, (∀ (s : Shared) (u : Value), BindsTo s fd ⟨[u], []⟩ [(x, u)]) ∧
        ∀ base : Heap, (K w.params).In base → base.Ns mainGlobals mg → FnOk l.prog w (K w.params) mg base CX0 k fa fd [x] (spLaw (K w.params))) :
    PySem.W.WalkO q loose XP YP l.row.toRowW d [] (fun f vs => PySem.call f vs) := by
  refine Att.attach_callB hn hdf fun w s₀ s₁ mg mb fa o pm cd doc a vs ns G Y ho hd hcd hmg hobj hints hlen hg hb => ?_
  have KX := hY w _ Y
  obtain ⟨fd, hbi, hF⟩ := F w mg fa _ KX G.T.g hmg
  exact law_call KX G.T.g G.T.b G.T.builtins G.T.nolimit hg hobj hints (Nat.le_trans hlen (by decide)) hr hF hbi (fun H hO hS => ⟨a, ns, rfl, hS, hlen, hb, fun _ => rfl⟩) fun H e s' h => h
theorem law_of {P : Program} {w : World} {K : PySem.W.Frag} {mg : Str → Option Value} {base : Heap} {k : Nat} {f : Addr} {fd : FuncData} {x : Str} {g : List D → Option R} (F : FnOk P w K mg base CX0 k f fd [x] (spD K 1 g))
    (hg : ∀ ns : List Int, (∀ n ∈ ns, Builtin.Int.intBits n ≤ 1048576) → ns.length ≤ 63 → g [.list (ns.map .int)] = some (.c (.bool true))) : FnOk P w K mg base CX0 k f fd [x] (spLaw K) := by
  refine F.imp fun vs H Q E h => ?_
  obtain ⟨a, ns, rfl, hS, hl, hb, q⟩ := h
  refine ⟨rfl, noM, [.list (ns.map .int)], .c (.bool true), (fun a h => (by cases h)), .cons (.lst (hid_none.seq hS) (DpAll_ofInts ns)) .nil, hg ns hb hl, fun v H' s ra rf => ?_⟩
  have ra : Dp K (hid (WM.mk noM noM).w H') v (.bool true) := ra
  cases Dp_bool ra
  exact q H'
theorem fn_ex {P : Program} {w : World} {K : PySem.W.Frag} {mg : Str → Option Value} {base : Heap} {x : Str} {st : Stmt} {f : Addr} {fd : FuncData} {N ps : List Str} {k : Nat} {m : MS} {Spec : (List D → Option R) → Prop} (F : Fun K x x st f fd) (S : FnScope N ps (defScope st))
    (hbody : ∀ (f : Addr) (cdv : Value) (A : Around) (outer : List Env) (s : Shared) (H : Hp) (E : XK), Room k (A.deeper (PyProof.Rows.envOfC x (defScope st) s.heap.objs.size f cdv)) →
      PSs (cxOf CX0 P w K mg base N x (defScope st) f cdv A outer s H E).nox (defBody st) (sM K false m))
    (hs : Spec (runD m N)) : ∃ g, FnOk P w K mg base CX0 (k + 1) f fd ps (spD K ps.length g) ∧ Spec g := ⟨runD m N, fn_D F S rfl (hbody f) (fun ds r h _ => runD_ok ds r h), hs⟩
theorem fung_mk {K : PySem.W.Frag} {mg : Str → Option Value} {h : Heap} {x : Str} {st : Stmt} {ps : List Str} {f : Addr} {oc : Value} {od an : Option Addr} {osl : Array (Option Value)} {kV doc pm cdv ct : Value} (X : K.In h) (G : h.Ns mainGlobals mg)
    (a : PySem.W.nsIn K mainGlobals x = some (some (.ref f))) (l : K.lookup f = some ⟨oc, od, .func (PySem.W.fnOf x x (defArgs st) (defBody st) (defScope st) .none kV doc pm an cdv ct), osl⟩) (c : PySem.W.codeIn K cdv x = true) (k : PySem.W.keepIn K (.ref f) = true)
    (hb : ∀ (kV doc pm : Value) (an : Option Addr) (cdv ct : Value) (us : List Value), us.length = ps.length → bindArgs (PySem.W.fnOf x x (defArgs st) (defBody st) (defScope st) .none kV doc pm an cdv ct) ⟨us, []⟩ = pure (ps.zip us)) : FunG K mg x st ps :=
  ⟨_, _, fun_mk l c k, PySem.W.mg_of X G a, (fun_mk l c k).binds hb⟩
end MD

namespace MD
open PySem PySem.Spec L2
section
variable {X : Cx} {K : PySem.W.Frag} {e tg : Expr} {m ma mb : ME} {n : MA} {pos p : Pos} {es : List Expr} {ff : Bool}
/-! ### enumerate -/
def enums : Nat → List D → List D
  | _, [] => []
  | i, x :: xs => .tuple [.int (i : Nat), x] :: enums (i + 1) xs
theorem enums_get : ∀ {xs : List D} {k i : Nat} {d : D}, (enums k xs)[i]? = some d → ∃ x, d = .tuple [.int ((k + i : Nat) : Int), x] ∧ xs[i]? = some x
  | [], _, _, _, h => by simp [enums] at h
  | x :: xs, k, 0, d, h => by simp [enums] at h; exact ⟨x, h.symm, rfl⟩
  | x :: xs, k, i + 1, d, h => by
    have h : (enums (k + 1) xs)[i]? = some d := by simpa [enums] using h
    obtain ⟨y, e1, e2⟩ := enums_get h
    refine ⟨y, ?_, by simpa using e2⟩
    rw [e1, show k + 1 + i = k + (i + 1) by omega]
theorem enums_len : ∀ {xs : List D} {k : Nat}, (enums k xs).length = xs.length
  | [], _ => rfl
  | _ :: xs, k => by simp [enums, enums_len (xs := xs)]
theorem walk_enum {B : Hp} {a : Addr} {xs : List V} {l : List D} (h1 : SqL K B a xs) (h2 : DpAll K B xs l) : Walk K (Ite K a) B (enums 0 l) := by
  intro i M H e hM
  have hs : SqL K H a xs := hid_sub.seq (e.seq h1)
  refine ⟨fun d hd => ?_, fun hi => ⟨xs, hs, by rw [DpAll_len h2]; rw [enums_len] at hi; exact hi⟩⟩
  obtain ⟨x, rfl, ex⟩ := enums_get hd
  obtain ⟨v, hv, dv⟩ := DpAll_get h2 ex
  refine ⟨⟨xs, v, hs, hv⟩, fun z H' y => ?_⟩
  obtain ⟨T, x1, e1, hT, e2, q1⟩ := y
  subst e1 e2
  have z1 := q1 xs hs
  rw [hv] at z1
  cases z1
  have sn : Same (hid M H) (hid M (upd H T (.tup [.int (i : Nat), v]))) := hid_same (same_new hT)
  rw [Nat.zero_add]
  exact ⟨same_new hT, Dp.tup (.inl ((hid_eq.mpr ⟨hM.free hT, upd_same⟩))) (.cons (.int _) (.cons (Dpm dv (e.trans sn)) .nil))⟩
def mIE (n : MA) : MI := fun E => (n E).bind fun rs => match rs with
  | [x] => (match x.d with | .list l => some (x.cl, enums 0 l) | _ => none)
  | _ => none
theorem m_ienum {a : Expr} {elts : List Expr} {kk : Nat} {tpos : Pos} (hm : X.mg "enumerate" = none) (ha : PA X [a] (tMA X.K n)) (hg : Gl X "enumerate" := by rfl) (hs : starEach [a] X.env = [(false, eval a X.env)] := by rfl) :
    PI X (.Tuple elts kk tpos) (.Call (.Name "enumerate" p) [a] [] pos) (tMI X.K (mIE n)) :=
  pi_imp (pi_enum hg hm ha hs) fun σ H Q ⟨E, W, c, l, hH, hm, k⟩ => by
    obtain ⟨rs, ea, hm⟩ := bindSome hm
    split at hm
    · rename_i x
      split at hm
      · rename_i l1 e1
        cases hm
        refine ⟨E, W, _, hH, ea, fun vs H1 s1 r1 => ?_⟩
        cases r1 with
        | cons h t =>
          cases t
          obtain ⟨a', xs, rfl, h1, h2, h3⟩ := h.seqL e1
          refine ⟨a', xs, rfl, h1, k _ H1 s1 ?_⟩
          cases hc : x.cl with
          | true =>
            have q := h.cln hc
            rw [e1] at q
            obtain ⟨_, _, z1, z2, z3⟩ := Dp_list q
            cases z1
            exact walk_enum z2 z3
          | false =>
            have q := h.dz
            rw [e1] at q
            obtain ⟨_, _, z1, z2, z3⟩ := Dp_list q
            cases z1
            exact walk_enum z2 z3
      · cases hm
    · cases hm

/-! ### while -/
def whileD (c : MT) (b : MS) : Nat → Ev → Option Out
  | 0, _ => none
  | n + 1, E => (c E).bind fun k => if k = true then (b E).bind fun o => (match o with
    | .nx E' => whileD c b n E'
    | .ct E' => whileD c b n E'
    | .bk E' => some (.nx E')
    | .rt r => some (.rt r)) else some (.nx E)
theorem whileD_up {c : MT} {b : MS} : ∀ {n : Nat} {E : Ev} {o : Out}, whileD c b n E = some o → whileD c b (n + 1) E = some o
  | 0, E, o, h => by cases h
  | n + 1, E, o, h => by
    unfold whileD at h ⊢
    obtain ⟨k, e1, h⟩ := bindSome h
    rw [e1]
    show (if k = true then _ else _) = _
    cases k with
    | false => exact h
    | true =>
      rw [if_pos rfl] at h ⊢
      obtain ⟨ob, e2, h⟩ := bindSome h
      rw [e2]
      cases ob with
      | nx E' => exact whileD_up h
      | ct E' => exact whileD_up h
      | bk E' => exact h
      | rt r => exact h
theorem whileD_le {c : MT} {b : MS} {n : Nat} {E : Ev} {o : Out} (h : whileD c b n E = some o) : ∀ k, whileD c b (n + k) E = some o
  | 0 => h
  | k + 1 => whileD_up (whileD_le h k)
open Classical in
noncomputable def mWhile (c : MT) (b : MS) : MS := fun E => if h : ∃ o n, whileD c b n E = some o then some h.choose else none
theorem mWhile_eq {c : MT} {b : MS} {n : Nat} {E : Ev} {o : Out} (h : whileD c b n E = some o) : mWhile c b E = some o := by
  unfold mWhile
  have q : ∃ o n, whileD c b n E = some o := ⟨o, n, h⟩
  rw [dif_pos q]
  obtain ⟨n', h'⟩ := q.choose_spec
  have h1 := whileD_le h n'
  have h2 := whileD_le h' n
  rw [Nat.add_comm] at h2
  rw [h2] at h1
  exact h1
theorem mWhile_get {c : MT} {b : MS} {E : Ev} {o : Out} (h : mWhile c b E = some o) : ∃ n, whileD c b n E = some o := by
  unfold mWhile at h
  split at h
  · rename_i q
    cases h
    exact q.choose_spec
  · cases h
theorem while_of {c : MT} {b : MS} : ∀ D σ H, sM K ff (mWhile c b) D σ H → tWhile (tMT K c) (sM K ff b) D σ H := fun D σ H ⟨E, W, o, hH, hm, k⟩ => by
  obtain ⟨n0, hn⟩ := mWhile_get hm
  refine ⟨fun m σ2 H2 => ∃ E2 O2, Held K H2 ⟨W.z, O2⟩ σ2 E2 ∧ Fr ff H W.o H2 O2 ∧ whileD c b m E2 = some o, ⟨n0, E, W.o, hH, Fr.refl, hn⟩, ?_⟩
  rintro m σ2 H2 ⟨E2, O2, hh, fr, ew⟩
  cases m with
  | zero => cases ew
  | succ m =>
    unfold whileD at ew
    obtain ⟨kk, e1, ew⟩ := bindSome ew
    refine ⟨E2, ⟨W.z, O2⟩, kk, hh, e1, fun H3 s3 => ?_⟩
    have fr3 : Fr ff H W.o H3 O2 := fr.trans (Fr.of s3)
    cases kk with
    | false =>
      rw [if_neg Bool.false_ne_true] at ew
      cases ew
      exact iteF (k _ _ O2 (hh.grow s3) fr3)
    | true =>
      rw [if_pos rfl] at ew
      obtain ⟨ob, e2, ew⟩ := bindSome ew
      refine iteT ⟨fun σ' H' => ∃ E2 O2, Held K H' ⟨W.z, O2⟩ σ' E2 ∧ Fr ff H W.o H' O2 ∧ whileD c b m E2 = some o, fun σ' H' q => ⟨m, Nat.lt_succ_self m, q⟩, E2, ⟨W.z, O2⟩, ob, hh.grow s3, e2, ?_⟩
      cases ob with
      | nx E' => exact fun σ' H' O' h' f' => ⟨E', O', h', fr3.trans f', ew⟩
      | ct E' => exact fun σ' H' O' h' f' => ⟨E', O', h', fr3.trans f', ew⟩
      | bk E' => cases ew; exact fun σ' H' O' h' f' => k σ' H' O' h' (fr3.trans f')
      | rt r => cases ew; exact fun v H' O' f' q gq => k v H' O' (fr3.trans f') q (gq.back fr3)
theorem m_while {c : Expr} {body : List Stmt} {mc : MT} {mb : MS} (hp : PassesOwn (model X.prog X.w) X.A X.env X.xe) (hc : PT X c (tMT X.K mc)) (hb : PSs X body (sM X.K ff mb)) : PS X (.While c body [] pos) (sM X.K ff (mWhile mc mb)) :=
  ps_imp (ps_while hp hc hb) while_of
/-- a while by a word and a number that falls -/
theorem mWhile_ind {c : MT} {b : MS} (Pv : Ev → Prop) (μ : Ev → Nat) (step : ∀ E, Pv E → c E = some false ∨ (c E = some true ∧ ∃ E', b E = some (.nx E') ∧ Pv E' ∧ μ E' < μ E)) : ∀ (E : Ev), Pv E → ∃ E', mWhile c b E = some (.nx E') ∧ Pv E' ∧ c E' = some false := by
  have main : ∀ (n : Nat) (E : Ev), Pv E → μ E < n → ∃ E', whileD c b n E = some (.nx E') ∧ Pv E' ∧ c E' = some false := by
    intro n
    induction n with
    | zero => intro E _ h; exact absurd h (Nat.not_lt_zero _)
    | succ n ih =>
      intro E hE hn
      rcases step E hE with h | ⟨h, E1, h1, h2, h3⟩
      · refine ⟨E, ?_, hE, h⟩
        unfold whileD
        rw [h]
        rfl
      · obtain ⟨E2, h4, h5, h6⟩ := ih E1 h2 (by omega)
        refine ⟨E2, ?_, h5, h6⟩
        unfold whileD
        rw [h]
        show (b E).bind _ = _
        rw [h1]
        exact h4
  intro E hE
  obtain ⟨E', h1, h2, h3⟩ := main (μ E + 1) E hE (Nat.lt_succ_self _)
  exact ⟨E', mWhile_eq h1, h2, h3⟩

/-! ### a, b = e, e' where a is to be an own thing -/
def mParO (i j : Nat) (m : ME) (m' : ME) : MS := fun E => (m E).bind fun r => (m' E).bind fun r' => r'.pro.bind fun d => if flat d = true then (rAsgO i E r).bind fun o => match o with | .nx E' => some (.nx (E'.set j (some (.v d)))) | o => some o else none
end
end MD

namespace MD
open PySem PySem.Spec L2
section
variable {X : Cx} {K : PySem.W.Frag} {e a b o : Expr} {m ma mb : ME} {n : MA} {pos p p2 apos : Pos} {es : List Expr}

/-! ### objects: a field -/
def fldOf : List Str → List D → Str → Option D
  | x :: ns, d :: ds, f => if f == x then some d else fldOf ns ds f
  | _, _, _ => none
def gFld (Cs : List Addr) (f : Str) : G1 := fun x => match x.d with
  | .obj C ns ds => if C ∈ Cs then (fldOf ns ds f).map (R.mk' x.cl) else none
  | _ => none
/-! ### one of two ways -/
def mAlt (m1 m2 : ME) : ME := fun E => match m1 E with | some r => some r | none => m2 E
/-! ### a method -/
def mMeth (C : Addr) (mn : Str) (n0 : Nat) (g : List D → Option R) (mo : ME) (n : MA) : ME := fun E => (mo E).bind fun x => match x.d with
  | .obj C' ns _ => if C' = C ∧ mn ∉ ns then mCall n0 g (fun E => (n E).bind fun rs => some (x :: rs)) E else none
  | _ => none
/-! ### x is True, x is not True, of truths -/
def rIsB (neg : Bool) : R2 := fun x y H Q => ∃ i j, x = .bl i ∧ y = .bl j ∧ Q (.bl (neg != (i == j))) H
def gIsB (neg : Bool) : G2 := fun x y => match x.d, y.d with
  | .bool i, .bool j => some (.c (.bool (neg != (i == j))))
  | _, _ => none
end
end MD
namespace MD
open PySem PySem.Spec L2
/-! ### isinstance of an own class -/
structure ClsI (K : PySem.W.Frag) (C : Addr) : Prop where
  hg : PySem.W.plainGet K C "__class__" = true
  hd : PySem.W.hasDictIn K C = true
  ha : PySem.W.findIn K (.ref C) "__class__" = some (some (.builtin "object.__class__"))
  hn : PySem.W.specialIn K (.builtin "object.__class__") "__get__" = some (some (.builtin "getset_descriptor.__get__"))
  ht : PySem.W.takesIn K (.builtin "object.__class__") = some true
  hm : PySem.W.mroIn K C (.type "object") = some true
def isiO (K : PySem.W.Frag) (Cs : List Addr) (C : Addr) : D → Option Bool
  | .none => PySem.W.kitOne K (.type "NoneType") (.ref C)
  | .bool _ => PySem.W.kitOne K (.type "bool") (.ref C)
  | .int _ => PySem.W.kitOne K (.type "int") (.ref C)
  | .str _ => PySem.W.kitOne K (.type "str") (.ref C)
  | .list _ => PySem.W.kitOne K (.type "list") (.ref C)
  | .tuple _ => PySem.W.kitOne K (.type "tuple") (.ref C)
  | .obj C0 _ _ => if C0 ∈ Cs then PySem.W.kitOne K (.ref C0) (.ref C) else none
  | .dict _ _ => none
  | .fn _ => none
  | .exc _ _ => none
def rIsiO (K : PySem.W.Frag) (Cs : List Addr) (C : Addr) : List V → Hp → VK → Prop := fun xs H Q => ∃ x d b, xs = [x, .ref C] ∧ Dp K H x d ∧ isiO K Cs C d = some b ∧ Q (.bl b) H
section
variable {X : Cx} {e : Expr} {m : ME} {pos p p2 : Pos}
def gIsiO (K : PySem.W.Frag) (Cs : List Addr) (C : Addr) : G1 := fun x => (isiO K Cs C x.d).map fun k => .c (.bool k)
end
end MD
namespace MD
open PySem PySem.Spec L2
/-! ### C(..): a new object -/
def spInit (K : PySem.W.Frag) (C : Addr) (n0 : Nat) (ns : List Str) (g : List D → Option (List Tr)) : Sp := fun vs H Q _ => vs.length = n0 + 1 ∧ ∃ x dx avs, vs = .ref x :: avs ∧ H x = some (.ins C dx []) ∧ ∃ Z ds Ts, Dom Z H ∧ DpAll K (hid Z H) avs ds ∧ g ds = some Ts ∧
  ∀ H' fs as, (∀ b o, H b = some o → b ≠ x → H' b = some o) → H' x = some (.ins C dx fs) → fs.map (·.1) = ns → Lks K H' (adms as Z) (fs.map (·.2)) as Ts → as.Nodup → (∀ a ∈ as, H a = none) → Q .non H'
def mMake (C : Addr) (n0 : Nat) (ns : List Str) (g : List D → Option (List Tr)) (n : MA) : ME := fun E => (n E).bind fun rs => if rs.length = n0 then (match pros rs with
  | some ds => (g ds).map fun Ts => R.t (.obj C ns Ts)
  | none => (g (rs.map R.d)).map fun Ts => (R.t (.obj C ns Ts)).taint) else none
section
variable {X : Cx} {e : Expr} {m : ME} {n : MA} {es : List Expr} {pos p p2 : Pos}
end
end MD

namespace MD
open PySem PySem.Spec L2
section
variable {X : Cx} {K : PySem.W.Frag} {e tg : Expr} {m ma mb : ME} {n : MA} {pos p : Pos} {es : List Expr} {ff : Bool}
/-! ### an expression as a statement -/
def mDrop (m : ME) : MS := fun E => (m E).bind fun _ => some (.nx E)
theorem m_expr (he : PE X e (tM X.K m)) (hs : swapsWith e none pos.line X.env = pure false := by rfl) : PS X (.Expr e pos) (sM X.K ff (mDrop m)) :=
  ps_imp (ps_expr he hs) fun D σ H ⟨E, W, o, hH, hm, k⟩ => by
    obtain ⟨r, e1, hm⟩ := bindSome hm
    cases hm
    exact ⟨E, W, r, hH, e1, fun v H1 s1 r1 f1 => k σ H1 W.o (hH.grow s1) (Fr.of s1)⟩
/-! ### a def that may end without return -/
theorem fn_DN {P : Program} {w : World} {K : PySem.W.Frag} {mg : Str → Option Value} {base : Heap} {x qual : Str} {st : Stmt} {f : Addr} {fd : FuncData} {N ps : List Str} {k n0 : Nat} {g : List D → Option R} {m : MS} (F : Fun K x qual st f fd) (S : FnScope N ps (defScope st)) (hn : n0 = ps.length)
    (hbody : ∀ (cdv : Value) (A : Around) (outer : List Env) (s : Shared) (H : Hp) (E : XK), Room k (A.deeper (PyProof.Rows.envOfC qual (defScope st) s.heap.objs.size f cdv)) →
      PSs (cxOf CX0 P w K mg base N qual (defScope st) f cdv A outer s H E).nox (defBody st) (sM K false m))
    (hm : ∀ ds r, g ds = some r → ds.length = n0 → (∃ r', m (startE N ds) = some (.rt r') ∧ r'.up = r) ∨ (∃ E', m (startE N ds) = some (.nx E') ∧ r = .c .none)) : FnOk P w K mg base CX0 (k + 1) f fd ps (spD K n0 g) := by
  refine F.ok S (fun vs H Q E h => by rw [← hn]; exact h.1) (fun cdv A outer s H vs Q E hr h => ?_)
  obtain ⟨hl, Z, ds, r, hZ, hd, hg, q⟩ := h
  rcases hm ds r hg (by rw [← DpAll_len hd]; exact hl) with ⟨r', hm, hup⟩ | ⟨E', hm, hup⟩
  · refine ⟨_, hbody cdv A outer s H E hr, startE N ds, ⟨Z, noM⟩, .rt r', held_start hZ hd, hm, ?_⟩
    intro v H' O' fr ra rg
    have sm : Same H H' := fun a o e => (fr.1 a o e rfl).1
    subst hup
    have ra' : RA K H' ⟨(WM.mk Z noM).w, noM⟩ v r' := by rw [WM.w0]; exact ra
    refine q v H' sm (up_ok ra') (up_f ?_)
    cases r' with
    | c d => trivial
    | u d => trivial
    | t T =>
      refine fun K' M as l p hp => ?_
      cases y : H p with
      | none => rfl
      | some ob => have := rg K' M as l p hp ob y; cases this
  · refine ⟨_, hbody cdv A outer s H E hr, startE N ds, ⟨Z, noM⟩, .nx E', held_start hZ hd, hm, ?_⟩
    intro σ' H' O' hh fr
    have sm : Same H H' := fun a o e => (fr.1 a o e rfl).1
    subst hup
    exact q .non H' sm .non trivial
end
def runN (m : MS) (N : List Str) : List D → Option R := fun ds => match m (startE N ds) with
  | some (.rt r) => some r.up
  | some (.nx _) => some (.c .none)
  | _ => none
theorem runN_ok {m : MS} {N : List Str} : ∀ ds r, runN m N ds = some r → (∃ r', m (startE N ds) = some (.rt r') ∧ r'.up = r) ∨ (∃ E', m (startE N ds) = some (.nx E') ∧ r = .c .none) := fun ds r h => by
  unfold runN at h
  split at h
  · rename_i r' e
    exact .inl ⟨r', e, Option.some.inj h⟩
  · rename_i E' e
    exact .inr ⟨E', e, (Option.some.inj h).symm⟩
  · cases h
theorem runN_nx {m : MS} {N : List Str} {ds : List D} {E : Ev} (h : m (startE N ds) = some (.nx E)) : runN m N ds = some (.c .none) := by
  unfold runN
  rw [h]
theorem cal_exN {P : Program} {w : World} {K : PySem.W.Frag} {mg : Str → Option Value} {base : Heap} {x : Str} {st : Stmt} {N ps : List Str} {k : Nat} {m : MS} {Spec : (List D → Option R) → Prop} (F : FunG K mg x st ps) (S : FnScope N ps (defScope st))
    (hbody : ∀ (f : Addr) (cdv : Value) (A : Around) (outer : List Env) (s : Shared) (H : Hp) (E : XK), Room k (A.deeper (PyProof.Rows.envOfC x (defScope st) s.heap.objs.size f cdv)) →
      PSs (cxOf CX0 P w K mg base N x (defScope st) f cdv A outer s H E).nox (defBody st) (sM K false m))
    (hs : Spec (runN m N)) : ∃ g, Cal P w K mg base x (k + 1) ps g ∧ Spec g := by
  obtain ⟨f, fd, h1, h2, h3⟩ := F.ex
  exact ⟨runN m N, ⟨f, fd, fn_DN h1 S rfl (hbody f) (fun ds r h _ => runN_ok ds r h), h2, h1.kp, h3⟩, hs⟩
/-! ### loops and comprehensions in general -/
theorem mLcG {α : Type} {is : List Nat} {pick : D → Option (List D)} {mi : MI} {mt : MT} {me : ME} {E : Ev} {c : Bool} {l : List α} {enc : α → D} {qs : α → List D} {b : α → Bool} {y : α → D} (hi : mi E = some (c, l.map enc)) (hl : l.length ≤ lim)
    (h : ∀ a ∈ l, (c || flat (enc a)) = true ∧ pick (enc a) = some (qs a) ∧ mt (setAllE (wipeE E is) is (qs a)) = some (b a) ∧ (b a = true → ∃ r, me (setAllE (wipeE E is) is (qs a)) = some r ∧ r.pro = some (y a))) :
    mLc is pick mi mt me E = some (.o ((l.filter b).map y)) := by
  unfold mLc
  rw [hi]
  show (if (l.map enc).length ≤ lim then _ else none) = _
  rw [List.length_map, if_pos hl]
  show (lcD is pick c mt me (wipeE E is) (l.map enc)).map R.o = _
  rw [lcD_map (b := b) (y := y) (qs := qs) l h]
  rfl
/-- a loop that may end early: at an a with stop a it gives r a, else it goes on -/
theorem mForG {α : Type} {is : List Nat} {pick : D → Option (List D)} {mi : MI} {mb : MS} {E : Ev} {c : Bool} {l : List α} {enc : α → D} {qs : α → List D} (Pv : List α → Ev → Prop) (stop : α → Prop) (res : R → Prop) (hi : mi E = some (c, l.map enc)) (hc : c = true) (h0 : Pv [] E)
    (step : ∀ (pre : List α) (a : α) (E : Ev), a ∈ l → pre.length < l.length → (∃ post, l = pre ++ a :: post) → Pv pre E → pick (enc a) = some (qs a) ∧ ((¬ stop a ∧ ∃ E', mb (setAllE E is (qs a)) = some (.nx E') ∧ Pv (pre ++ [a]) E') ∨ (stop a ∧ ∃ r, mb (setAllE E is (qs a)) = some (.rt r) ∧ res r))) :
    ((∀ a ∈ l, ¬ stop a) ∧ ∃ E', mFor is pick mi mb E = some (.nx E') ∧ Pv l E') ∨ ((∃ a ∈ l, stop a) ∧ ∃ r, mFor is pick mi mb E = some (.rt r) ∧ res r) := by
  have main : ∀ (post pre : List α) (E : Ev), l = pre ++ post → Pv pre E → ((∀ a ∈ post, ¬ stop a) ∧ ∃ E', forD is pick mb (post.map enc) E = some (.nx E') ∧ Pv l E') ∨ ((∃ a ∈ post, stop a) ∧ ∃ r, forD is pick mb (post.map enc) E = some (.rt r) ∧ res r) := by
    intro post
    induction post with
    | nil => intro pre E e h; rw [List.append_nil] at e; subst e; exact .inl ⟨fun _ z => (by cases z), E, rfl, h⟩
    | cons a post ih =>
      intro pre E e h
      obtain ⟨hp, h1⟩ := step pre a E (by rw [e]; simp) (by rw [e]; simp) ⟨post, e⟩ h
      have ef : ∀ X, mb (setAllE E is (qs a)) = X → forD is pick mb ((a :: post).map enc) E = X.bind (fun o => match o with | .nx E' => forD is pick mb (post.map enc) E' | .ct E' => forD is pick mb (post.map enc) E' | .bk E' => some (.nx E') | .rt r => some (.rt r)) := by
        intro X hX
        show (pick (enc a)).bind _ = _
        rw [hp]
        show (mb (setAllE E is (qs a))).bind _ = _
        rw [hX] <;> (cases X with
        | none => rfl
        | some o => cases o <;> rfl)
      rcases h1 with ⟨ns, E', h1, h2⟩ | ⟨s, r, h1, h2⟩
      · rw [ef _ h1]
        rcases ih (pre ++ [a]) E' (by rw [e]; simp) h2 with ⟨q1, q2⟩ | ⟨⟨b, hb, hs⟩, q2⟩
        · exact .inl ⟨fun x hx => by rcases List.mem_cons.mp hx with z | z; (subst z; exact ns); exact q1 x z, q2⟩
        · exact .inr ⟨⟨b, List.mem_cons_of_mem _ hb, hs⟩, q2⟩
      · rw [ef _ h1]
        exact .inr ⟨⟨a, List.mem_cons_self, s⟩, r, rfl, h2⟩
  have e : mFor is pick mi mb E = forD is pick mb (l.map enc) E := by
    unfold mFor
    rw [hi, hc]
    rfl
  rw [e]
  exact main l [] E rfl h0
/-- a loop that goes through -/
theorem mForN {α : Type} {is : List Nat} {pick : D → Option (List D)} {mi : MI} {mb : MS} {E : Ev} {l : List α} {enc : α → D} {qs : α → List D} (Pv : List α → Ev → Prop) (hi : mi E = some (true, l.map enc)) (h0 : Pv [] E)
    (step : ∀ (pre : List α) (a : α) (E : Ev), a ∈ l → pre.length < l.length → (∃ post, l = pre ++ a :: post) → Pv pre E → pick (enc a) = some (qs a) ∧ ∃ E', mb (setAllE E is (qs a)) = some (.nx E') ∧ Pv (pre ++ [a]) E') :
    ∃ E', mFor is pick mi mb E = some (.nx E') ∧ Pv l E' := by
  rcases mForG (c := true) (stop := fun _ => False) (res := fun _ => True) Pv hi rfl h0 (fun pre a E h1 h2 h3 h4 => let ⟨p1, p2⟩ := step pre a E h1 h2 h3 h4; ⟨p1, .inl ⟨id, p2⟩⟩) with ⟨_, h⟩ | ⟨⟨_, _, h⟩, _⟩
  · exact h
  · exact h.elim
theorem mIE_eq {n : MA} {E : Ev} {x : R} {l : List D} (h : n E = some [x]) (hx : x.d = .list l) : mIE n E = some (x.cl, enums 0 l) := by
  unfold mIE
  rw [h]
  show (match x.d with | .list l => some (x.cl, enums 0 l) | _ => none) = _
  rw [hx]
end MD

namespace MD
open PySem PySem.Spec L2
/-! ### the mathematics of bodies -/
def sb (a b : Pt) : Pt := (a.1 - b.1, a.2 - b.2)
structure SOk (ss : List Pt) : Prop where
  l1 : 1 ≤ ss.length
  l6 : ss.length ≤ 6
  nr : ∀ s ∈ ss, near s = true
  sd : ∀ s ∈ ss, Std s
  pw : ss.Pairwise fun a b => 0 < sp a b
theorem SOk.lim {ss : List Pt} (h : SOk ss) : ss.length ≤ MD.lim := Nat.le_trans h.l6 (by decide)
def wkF (h : Pt) : List Pt → List Pt
  | [] => []
  | s :: t => h :: wkF (ad h s) t
def wkB (h : Pt) : List Pt → List Pt
  | [] => []
  | s :: t => h :: wkB (sb h s) t
def cor (ss : List Pt) : List Pt := wkF (0, 0) ss ++ wkB (sm2 ss) ss
theorem wkF_len : ∀ (ss : List Pt) (h : Pt), (wkF h ss).length = ss.length
  | [], _ => rfl
  | s :: t, h => by simp [wkF, wkF_len t]
theorem wkB_len : ∀ (ss : List Pt) (h : Pt), (wkB h ss).length = ss.length
  | [], _ => rfl
  | s :: t, h => by simp [wkB, wkB_len t]
theorem sb_sb (h a b : Pt) : sb (sb h a) b = sb h (ad a b) := by unfold sb ad; ext <;> simp <;> omega
theorem sb_zero (h : Pt) : sb h (0, 0) = h := by simp [sb]
theorem wkF_snoc : ∀ (ss : List Pt) (h a : Pt), wkF h (ss ++ [a]) = wkF h ss ++ [ad h (sm2 ss)]
  | [], h, a => by simp [wkF, sm2_nil, ad_zero]
  | s :: t, h, a => by
    show h :: wkF (ad h s) (t ++ [a]) = h :: (wkF (ad h s) t ++ _)
    rw [wkF_snoc t, sm2_cons, ad_assoc]
theorem wkB_snoc : ∀ (ss : List Pt) (h a : Pt), wkB h (ss ++ [a]) = wkB h ss ++ [sb h (sm2 ss)]
  | [], h, a => by simp [wkB, sm2_nil, sb_zero]
  | s :: t, h, a => by
    show h :: wkB (sb h s) (t ++ [a]) = h :: (wkB (sb h s) t ++ _)
    rw [wkB_snoc t, sm2_cons, sb_sb]
theorem sm2_snoc (l : List Pt) (a : Pt) : sm2 (l ++ [a]) = ad (sm2 l) a := by rw [sm2_app, sm2_cons, sm2_nil, ad_zero]
/-- the corner at k -/
def cq (ss : List Pt) (k : Nat) : Pt := if k ≤ ss.length then sm2 (ss.take k) else sb (sm2 ss) (sm2 (ss.take (k - ss.length)))
theorem cq_zero (ss : List Pt) : cq ss 0 = (0, 0) := by unfold cq; rw [if_pos (Nat.zero_le _)]; rfl
theorem take_snoc {ss : List Pt} {k : Nat} {s : Pt} (h : ss[k]? = some s) : sm2 (ss.take (k + 1)) = ad (sm2 (ss.take k)) s := by
  rw [List.take_add_one, h]
  show sm2 (_ ++ [s]) = _
  rw [sm2_snoc]
theorem side_f {ss : List Pt} {k : Nat} {s : Pt} (h : ss[k]? = some s) : sb (cq ss (k + 1)) (cq ss k) = s := by
  have hk := (List.getElem?_eq_some_iff.mp h).1
  unfold cq
  rw [if_pos (by omega), if_pos (by omega), take_snoc h]
  unfold sb ad
  ext <;> simp <;> omega
theorem side_b {ss : List Pt} {k : Nat} {s : Pt} (h : ss[k]? = some s) : sb (cq ss (ss.length + k + 1)) (cq ss (ss.length + k)) = ng s ∧ cq ss (ss.length + k) = sb (sm2 ss) (sm2 (ss.take k)) := by
  have hk := (List.getElem?_eq_some_iff.mp h).1
  have e1 : cq ss (ss.length + k) = sb (sm2 ss) (sm2 (ss.take k)) := by
    unfold cq
    by_cases e : k = 0
    · subst e; rw [if_pos (by omega), Nat.add_zero, List.take_length, List.take_zero, sm2_nil, sb_zero]
    · rw [if_neg (by omega), show ss.length + k - ss.length = k by omega]
  refine ⟨?_, e1⟩
  rw [e1]
  unfold cq
  rw [if_neg (by omega), show ss.length + k + 1 - ss.length = k + 1 by omega, take_snoc h]
  unfold sb ad ng
  ext <;> simp <;> omega
/-! sums of sticks -/
def sums (ss : List Pt) : List Pt := ss.foldl (fun A s => A ++ A.map fun p => ad p s) [(0, 0)]
theorem fold_len : ∀ (ss A : List Pt), (ss.foldl (fun A s => A ++ A.map fun p => ad p s) A).length = A.length * 2 ^ ss.length
  | [], A => by simp
  | s :: ss, A => by
    rw [List.foldl_cons, fold_len ss, List.length_append, List.length_map, List.length_cons, Nat.pow_succ, ← Nat.mul_two, Nat.mul_assoc, Nat.mul_comm 2]
theorem sums_len (ss : List Pt) : (sums ss).length = 2 ^ ss.length := by unfold sums; rw [fold_len]; simp
theorem SOk.sums {ss : List Pt} (h : SOk ss) : (sums ss).length ≤ 64 := by
  rw [sums_len]
  exact Nat.pow_le_pow_right (by decide) h.l6
structure Lin (f : Pt → Int) : Prop where
  z : f (0, 0) = 0
  a : ∀ a b, f (ad a b) = f a + f b
theorem Lin.sum {f : Pt → Int} (h : Lin f) : ∀ l : List Pt, f (sm2 l) = (l.map f).sum
  | [] => h.z
  | p :: l => by rw [sm2_cons, h.a, h.sum l]; simp
theorem Lin.sb {f : Pt → Int} (h : Lin f) (a b : Pt) : f (sb a b) = f a - f b := by
  have := h.a (MD.sb a b) b
  rw [show ad (MD.sb a b) b = a by unfold ad MD.sb; ext <;> simp] at this
  omega
theorem lin_sp (s : Pt) : Lin (sp s) := ⟨by simp [sp], fun a b => sp_adr s a b⟩
def dt (a b : Pt) : Int := a.1 * b.1 + a.2 * b.2
theorem fold_box {f : Pt → Int} (h : Lin f) : ∀ (ss A : List Pt) (q : Pt), q ∈ ss.foldl (fun A s => A ++ A.map fun p => ad p s) A → ∃ a ∈ A, f a + (ss.map fun s => min 0 (f s)).sum ≤ f q ∧ f q ≤ f a + (ss.map fun s => max 0 (f s)).sum
  | [], A, q, hq => ⟨q, hq, by simp, by simp⟩
  | s :: ss, A, q, hq => by
    rw [List.foldl_cons] at hq
    obtain ⟨a, ha, h1, h2⟩ := fold_box h ss _ q hq
    simp only [List.map_cons, List.sum_cons]
    rcases List.mem_append.mp ha with ha | ha
    · exact ⟨a, ha, by omega, by omega⟩
    · obtain ⟨b, hb, rfl⟩ := List.mem_map.mp ha
      rw [h.a] at h1 h2
      exact ⟨b, hb, by omega, by omega⟩
theorem sums_box {f : Pt → Int} (h : Lin f) {ss : List Pt} {q : Pt} (hq : q ∈ sums ss) : (ss.map fun s => min 0 (f s)).sum ≤ f q ∧ f q ≤ (ss.map fun s => max 0 (f s)).sum := by
  obtain ⟨a, ha, h1, h2⟩ := fold_box h ss _ q hq
  cases List.mem_singleton.mp ha
  rw [h.z] at h1 h2
  omega
theorem min_neg {f : Pt → Int} : ∀ {l : List Pt}, (∀ t ∈ l, f t ≤ 0) → (l.map fun s => min 0 (f s)).sum = (l.map f).sum ∧ (l.map fun s => max 0 (f s)).sum = 0
  | [], _ => by simp
  | t :: l, h => by
    have h1 := h t List.mem_cons_self
    obtain ⟨h2, h3⟩ := min_neg (l := l) fun x hx => h x (List.mem_cons_of_mem _ hx)
    simp only [List.map_cons, List.sum_cons]
    omega
theorem min_pos {f : Pt → Int} : ∀ {l : List Pt}, (∀ t ∈ l, 0 ≤ f t) → (l.map fun s => min 0 (f s)).sum = 0 ∧ (l.map fun s => max 0 (f s)).sum = (l.map f).sum
  | [], _ => by simp
  | t :: l, h => by
    have h1 := h t List.mem_cons_self
    obtain ⟨h2, h3⟩ := min_pos (l := l) fun x hx => h x (List.mem_cons_of_mem _ hx)
    simp only [List.map_cons, List.sum_cons]
    omega
theorem split_at {ss : List Pt} {k : Nat} {s : Pt} (h : ss[k]? = some s) : ss = ss.take k ++ s :: ss.drop (k + 1) := by
  obtain ⟨hk, e⟩ := List.getElem?_eq_some_iff.mp h
  rw [← e]
  simp
theorem SOk.parts {ss : List Pt} (h : SOk ss) {k : Nat} {s : Pt} (hs : ss[k]? = some s) : (∀ t ∈ ss.take k, sp s t ≤ 0) ∧ (∀ t ∈ s :: ss.drop (k + 1), 0 ≤ sp s t) := by
  have e := split_at hs
  have pw := h.pw
  rw [e] at pw
  obtain ⟨p1, p2, p3⟩ := List.pairwise_append.mp pw
  refine ⟨fun t ht => ?_, fun t ht => ?_⟩
  · have := p3 t ht s List.mem_cons_self
    have := sp_anti t s
    omega
  · rcases List.mem_cons.mp ht with z | z
    · subst z; rw [sp_self]; omega
    · have := (List.pairwise_cons.mp p2).1 t z
      omega
/-- the least and the most of a side's line over the sums -/
theorem SOk.minmax {ss : List Pt} (h : SOk ss) {k : Nat} {s : Pt} (hs : ss[k]? = some s) : (ss.map fun t => min 0 (sp s t)).sum = sp s (sm2 (ss.take k)) ∧ (ss.map fun t => max 0 (sp s t)).sum = sp s (sb (sm2 ss) (sm2 (ss.take k))) := by
  have e := split_at hs
  obtain ⟨h1, h2⟩ := h.parts hs
  obtain ⟨a1, a2⟩ := min_neg h1
  obtain ⟨b1, b2⟩ := min_pos h2
  have L := lin_sp s
  have e3 : sp s (sm2 ss) = sp s (sm2 (ss.take k)) + sp s (sm2 (s :: ss.drop (k + 1))) := by
    conv => lhs; rw [e, sm2_app, L.a]
  have m1 : (ss.map fun t => min 0 (sp s t)).sum = ((ss.take k).map fun t => min 0 (sp s t)).sum + ((s :: ss.drop (k + 1)).map fun t => min 0 (sp s t)).sum := by
    conv => lhs; rw [e, List.map_append, List.sum_append]
  have m2 : (ss.map fun t => max 0 (sp s t)).sum = ((ss.take k).map fun t => max 0 (sp s t)).sum + ((s :: ss.drop (k + 1)).map fun t => max 0 (sp s t)).sum := by
    conv => lhs; rw [e, List.map_append, List.sum_append]
  rw [m1, m2, a1, a2, b1, b2, L.sb, e3, L.sum, L.sum]
  omega
/-- the side at k, seen from q -/
def side (ss : List Pt) (q : Pt) (k : Nat) : Int := sp (sb (cq ss (k + 1)) (cq ss k)) (sb q (cq ss k))
theorem sp_ng (s t : Pt) : sp (ng s) t = - sp s t := by unfold sp ng; simp only [Int.neg_mul]; omega
theorem side_lo {ss : List Pt} {k : Nat} {s : Pt} (hs : ss[k]? = some s) (q : Pt) : side ss q k = sp s q - sp s (sm2 (ss.take k)) := by
  have hk := (List.getElem?_eq_some_iff.mp hs).1
  unfold side
  rw [side_f hs, (lin_sp s).sb]
  unfold cq
  rw [if_pos (by omega)]
theorem side_hi {ss : List Pt} {k : Nat} {s : Pt} (hs : ss[k]? = some s) (q : Pt) : side ss q (ss.length + k) = sp s (sb (sm2 ss) (sm2 (ss.take k))) - sp s q := by
  unfold side
  obtain ⟨h1, h2⟩ := side_b hs
  rw [h1, h2, sp_ng, (lin_sp s).sb]
  omega
theorem side_all {ss : List Pt} {q : Pt} {P : Int → Prop} (h : ∀ (k : Nat) (s : Pt), ss[k]? = some s → P (side ss q k) ∧ P (side ss q (ss.length + k))) : ∀ k, k < 2 * ss.length → P (side ss q k) := fun k hk => by
  by_cases e : k < ss.length
  · exact (h k _ (List.getElem?_eq_getElem e)).1
  · have := (h (k - ss.length) _ (List.getElem?_eq_getElem (show k - ss.length < ss.length by omega))).2
    rw [show ss.length + (k - ss.length) = k by omega] at this
    exact this
def hld (ss : List Pt) (q : Pt) : Bool := (List.range (2 * ss.length)).all fun k => decide (0 ≤ side ss q k)
theorem hld_iff {ss : List Pt} {q : Pt} : hld ss q = true ↔ ∀ k, k < 2 * ss.length → 0 ≤ side ss q k := by unfold hld; simp
/-- whether a point is on no side's wrong side, by the law's own look -/
def holdB (ss : List Pt) (q : Pt) : Bool := hld ss q && (decide (1 < ss.length) || (decide (0 ≤ dt (ss.headD (0, 0)) q) && decide (dt (ss.headD (0, 0)) q ≤ dt (ss.headD (0, 0)) (ss.headD (0, 0)))))
theorem SOk.hld {ss : List Pt} (h : SOk ss) {q : Pt} (hq : q ∈ MD.sums ss) : MD.hld ss q = true := hld_iff.mpr (side_all (P := fun i => 0 ≤ i) fun k s hs => by
  obtain ⟨b1, b2⟩ := sums_box (lin_sp s) hq
  obtain ⟨m1, m2⟩ := h.minmax hs
  rw [side_lo hs, side_hi hs]
  omega)
theorem SOk.nrs {ss : List Pt} (h : SOk ss) {k : Nat} {s : Pt} (hs : ss[k]? = some s) : near s = true := h.nr s (List.mem_of_getElem? hs)
theorem near_ng {s : Pt} (h : near s = true) : near (ng s) = true := by
  rw [near_iff] at h ⊢
  unfold ng
  simp only
  omega
/-! the other side of the middle -/
/-! drawn sticks: a standing one put at its place -/
theorem SOk.neigh {ss : List Pt} (h : SOk ss) : ∀ (k : Nat) (a b : Pt), ss[k]? = some a → ss[k + 1]? = some b → 0 < sp a b := fun k a b ha hb => by
  obtain ⟨h1, rfl⟩ := List.getElem?_eq_some_iff.mp ha
  obtain ⟨h2, rfl⟩ := List.getElem?_eq_some_iff.mp hb
  exact List.pairwise_iff_getElem.mp h.pw k (k + 1) h1 h2 (by omega)
def lpairF (f n : Int) : Pt := (if n / 41 % (f + 1) = 0 then 1 + absI (n % (2 * f + 1) - f) % f else n % (2 * f + 1) - f, n / 41 % (f + 1))
def Far (f : Int) (p : Pt) : Prop := (-f ≤ p.1 ∧ p.1 ≤ f) ∧ (0 ≤ p.2 ∧ p.2 ≤ f)
theorem Far.near {f : Int} {p : Pt} (h : Far f p) (hf : f ≤ 20) : near p = true := by
  rw [near_iff]
  unfold Far at h
  omega
end MD
namespace MD
open PySem PySem.Spec L2
theorem mIR2_eq {n : MA} {E : Ev} {lo hi : Int} (h : n E = some [.c (.int lo), .c (.int hi)]) (hb : big62 lo = true) (hb2 : big62 hi = true) : mIR2 n E = some (true, (List.range (hi - lo).toNat).map fun (i : Nat) => D.int (lo + (i : Int))) := by
  unfold mIR2
  rw [h]
  show (if (big62 lo && big62 hi) = true then _ else none) = _
  rw [hb, hb2]
  rfl
theorem ix_Lc (ps : List Pt) {k : Int} {j : Nat} {p : Pt} (hk : k = j) (h : ps[j]? = some p) : gIx (.c (.list (ps.map eP))) (.c (.int k)) = some (.c (eP p)) := by
  have hj : j < ps.length := (List.getElem?_eq_some_iff.mp h).1
  show (atI (ps.map eP) k).map (R.mk' true) = _
  have : atI (ps.map eP) k = some (eP p) := by
    unfold atI ixN
    rw [List.length_map, if_pos (by omega), if_pos (by omega)]
    subst hk
    simp [h]
  rw [this]
  rfl
theorem cut_last (l : List D) : cutD l none (some (-1)) = l.dropLast := by
  unfold cutD
  show (l.drop 0).take ((if (-1 : Int) < 0 then ((-1 : Int) + (l.length : Int)).toNat else min (-1 : Int).toNat l.length) - 0) = _
  rw [if_pos (by decide), List.drop_zero, List.dropLast_eq_take]
  congr 1
  omega
end MD
namespace MD
open PySem PySem.Spec L2
theorem mRet_eq {m : ME} {E : Ev} {r : R} (h : m E = some r) : mRet m E = some (.rt r.up) := by unfold mRet; rw [h]; rfl
theorem mCl1 {g : GL} {m : ME} {E : Ev} {r : R} (h : m E = some r) : mCl g (mCons m mNil) E = g [r] := by unfold mCl mCons; rw [h]; rfl
theorem mSum_f {α : Type} {is : List Nat} {pick : D → Option (List D)} {mi : MI} {me : ME} {E : Ev} {c : Bool} {l : List α} {enc : α → D} {qs : α → List D} (f : α → Int) (hi : mi E = some (c, l.map enc)) (hl : l.length ≤ lim)
    (h : ∀ a ∈ l, (c || flat (enc a)) = true ∧ pick (enc a) = some (qs a) ∧ me (setAllE (wipeE E is) is (qs a)) = some (.c (.int (f a)))) :
    mCl gSum (mCons (mLc is pick mi mYes me) mNil) E = some (.c (.int (l.map f).sum)) := by
  rw [mCl1 (mLcG (l := l) (enc := enc) (qs := qs) (b := fun _ => true) (y := fun a => .int (f a)) hi hl fun a ha => let ⟨h1, h2, h3⟩ := h a ha; ⟨h1, h2, rfl, fun _ => ⟨_, h3, rfl⟩⟩), filter_true, sum_f]
end MD
namespace MD
open PySem PySem.Spec L2
theorem mTOr_f {a b : MT} {E : Ev} {k : Bool} (h1 : a E = some false) (h2 : b E = some k) : mTOr a b E = some k := by unfold mTOr; rw [h1]; exact h2
theorem mTOr_t {a b : MT} {E : Ev} (h1 : a E = some true) : mTOr a b E = some true := by unfold mTOr; rw [h1]; rfl
theorem mTNot_eq {a : MT} {E : Ev} {k : Bool} (h1 : a E = some k) : mTNot a E = some !k := by unfold mTNot; rw [h1]; rfl
theorem mB_eq {m : ME} {E : Ev} {k : Bool} (h1 : m E = some (.c (.bool k))) : mB m E = some k := by unfold mB; rw [h1]; rfl
theorem mOp_eq {g : G2} {a b : ME} {E : Ev} {x y : R} (h1 : a E = some x) (h2 : b E = some y) : mOp g a b E = g x y := by unfold mOp; rw [h1]; show (b E).bind _ = _; rw [h2]; rfl
end MD
namespace MD
open PySem PySem.Spec L2
end MD
namespace MD
open PySem PySem.Spec L2
theorem add_oo {l l' : List D} (h : l.length + l'.length ≤ 100000) : gAdd (.o l) (.o l') = some (.o (l ++ l')) := by
  unfold gAdd
  rw [Rd_o, Rd_o]
  simp [Rcl_c, Rcl_o, lim, h]
theorem mAsgV_eq {i : Nat} {m : ME} {E : Ev} {r : R} {d : D} (h : m E = some r) (hp : r.pro = some d) : mAsgV i m E = some (.nx (E.set i (some (.v d)))) := by
  unfold mAsgV
  rw [h]
  show (r.pro).bind _ = _
  rw [hp]
  rfl
instance (p : Pt) : Decidable (Std p) := by unfold Std; infer_instance
theorem SOk.of {ss : List Pt} (h : 1 ≤ ss.length ∧ ss.length ≤ 6 ∧ (∀ s ∈ ss, near s = true) ∧ (∀ s ∈ ss, Std s) ∧ ss.Pairwise fun a b => 0 < sp a b) : SOk ss := ⟨h.1, h.2.1, h.2.2.1, h.2.2.2.1, h.2.2.2.2⟩
end MD

namespace MD
open PySem PySem.Spec L2 PyProof.Rows
/-! ### a, b = a list -/
section
variable {prog : Program} {w : World} {A : Around} {E : Value → Shared → Prop} {s : Shared}
theorem draw_list {it t : Addr} {items : Array Value} (hne : t ≠ it) : ∀ (n i : Nat) (s : Shared) (Q : List Value → Shared → Prop), s.heap.IsListIter it t i → s.heap.IsList t items → i + n ≤ items.size →
    (∀ h', h'.IsListIter it t (i + n) → Heap.SameBut it s.heap h' → Q ((items.toList.drop i).take n) { s with heap := h' }) → wpAny (model prog w) A (draw (.ref it) n) Q E s
  | 0, i, s, Q, hit, _, _, hQ => by
    show wpAny _ _ (pure []) Q E s
    exact wpAny_pure (by simpa using hQ s.heap hit (Heap.SameBut.refl ..))
  | n + 1, i, s, Q, hit, ht, hle, hQ => by
    have hlt : i < items.size := by omega
    show wpAny _ _ (pyNext (.ref it) >>= _) Q E s
    refine wpAny_bind (wpAny_pyNext_list_item hit ht (x := items[i]) (by simp [hlt]) fun h₁ hit₁ hs₁ => ?_)
    refine wpAny_bind (wpAny_holding (draw_list hne n (i + 1) _ _ hit₁ (ht.extBut hs₁.extBut hne) (by omega) fun h₂ hit₂ hs₂ => wpAny_pure ?_))
    have hd : items.toList.drop i = items[i] :: items.toList.drop (i + 1) := by simp [List.drop_eq_getElem_cons, hlt]
    have := hQ h₂ (by rw [show i + (n + 1) = i + 1 + n by omega]; exact hit₂) (hs₁.trans hs₂)
    rw [hd, List.take_succ_cons] at this
    exact this
theorem unpackItems_list {t : Addr} {items : Array Value} {Q : List Value → Shared → Prop} (hh : A.handled = none) (ht : s.heap.IsList t items)
    (hQ : ∀ h', Heap.ExtBut s.heap.objs.size s.heap h' → Q items.toList { s with heap := h' }) : wpAny (model prog w) A (unpackItems (.ref t) items.size none) Q E s := by
  have hlt : t ≠ s.heap.objs.size := by obtain ⟨o, ho, _⟩ := ht; exact Nat.ne_of_lt (Heap.lt_size ho)
  unfold unpackItems
  refine wpAny_bind ?_
  · unfold notIterableAtAll
    refine wpAny_bind (wpAny_specialOf ht.typeIs slot_list_iter.lookup ?_)
    refine wpAny_pure ?_
    simp only [Bool.false_eq_true, if_false]
    refine wpAny_bind (wpAny_holding (wpAny_pyIter_list ht ?_))
    refine wpAny_bind (wpAny_holding (draw_list hlt items.size 0 _ _ ⟨_, Heap.get?_push_size _ rfl, rfl, rfl⟩ (ht.push _) (by omega) fun h₁ hit₁ hs₁ => ?_))
    have hall : List.take items.size (List.drop 0 items.toList) = items.toList := by
      rw [List.drop_zero]; exact List.take_of_length_le (by simp)
    rw [hall]
    rw [if_neg (by simp)]
    have ht₁ : h₁.IsList t items := (ht.push _).extBut hs₁.extBut hlt
    refine wpAny_bind (wpAny_holding (wpAny_pyNext_list_end hh hit₁ ht₁ (by simp) fun h₂ he₂ => ?_))
    simp only [Option.isSome_none, Bool.false_eq_true, if_false]
    refine wpAny_pure (hQ h₂ fun b o hb e => he₂ b o hb (hs₁.extBut b o hb (Heap.get?_push_of_some _ e)))
theorem unpack_list {t : Addr} {items : Array Value} {targets : List (Bool × (Value → Sem Unit))} {Q : Unit → Shared → Prop} (hh : A.handled = none) (ht : s.heap.IsList t items)
    (hn : targets.length = items.size) (hstar : targets.findIdx? (·.1) = none)
    (h : ∀ h', Heap.ExtBut s.heap.objs.size s.heap h' → wpAny (model prog w) A (assignInOrder (targets.map (·.2)) items.toList) Q E { s with heap := h' }) :
    wpAny (model prog w) A (unpack (.ref t) targets) Q E s := by
  unfold unpack
  rw [hn, hstar]
  exact wpAny_bind (wpAny_holding (unpackItems_list hh ht h))
end
section
variable {X : Cx} {K : PySem.W.Frag} {pos : Pos}
def gTupL (K : PySem.W.Frag) (n : Nat) (t : TGs) : TG := fun v σ H Q => ∃ a xs, v = .ref a ∧ SqL K H a xs ∧ xs.length = n ∧ t xs σ H Q
theorem pg_lst {es : List Expr} {k : Nat} {t : TGs} {n : Nat} (hc : X.calm = true) (h : PGs X es t)
    (hn : (assignEach es X.env).length = n := by rfl) (hst : (assignEach es X.env).findIdx? (·.1) = none := by rfl) : PG X (.Tuple es k pos) (gTupL X.K n t) := by
  intro pins s σ H v u Q I r hw
  obtain ⟨a, xs, e1, hq, hl, hw⟩ := hw
  subst e1
  cases r
  obtain ⟨its, rv, ht, hz⟩ := I.list hq
  rw [assign_Tuple]
  refine wpAny_bind (wpAny_standAt (unpack_list (I.ok.hd hc) ht.isList (by simp [hn, ← hl, rv.length]) hst fun h' hx => ?_))
  have I1 : Inv X pins σ H { s with heap := h' } := I.kept (t' := s.toks) fun b o e => hx b o (Nat.ne_of_lt (Heap.lt_size e)) e
  exact h pins _ σ H xs _ Q I1 (by simpa using rv) hw
def tgs : List Nat → TGs
  | [] => gNil
  | i :: is => gCons (gName i) (tgs is)
theorem tgs_of : ∀ {is : List Nat} {xs : List V} {σ : L2.St} {H : Hp} {Q : L2.St → Hp → Prop}, xs.length = is.length → Q (setAll σ is xs) H → tgs is xs σ H Q
  | [], [], _, _, _, _, k => ⟨rfl, k⟩
  | i :: is, x :: xs, _, _, _, h, k => ⟨x, xs, rfl, tgs_of (by simpa using h) k⟩
  | [], _ :: _, _, _, _, h, _ => by simp at h
  | _ :: _, [], _, _, _, h, _ => by simp at h
def pickT (n : Nat) : D → Option (List D) := fun d => match d with | .tuple l => if l.length = n then some l else none | _ => none
def pickL (n : Nat) : D → Option (List D) := fun d => match d with | .list l => if l.length = n then some l else none | _ => none
theorem tgT (is : List Nat) : TgOk K (gTup K is.length (tgs is)) is (pickT is.length) := fun M v d ds σ H Q h e k => by
  unfold pickT at e
  split at e
  · split at e
    · rename_i hl
      cases e
      obtain ⟨a, xs, rfl, h1, h2⟩ := Dp_tup h
      have hx : xs.length = is.length := by rw [DpAll_len h2, hl]
      exact ⟨a, xs, rfl, same_tup hid_sub h1, hx, tgs_of hx (k xs h2)⟩
    · cases e
  · cases e
theorem tgL (is : List Nat) : TgOk K (gTupL K is.length (tgs is)) is (pickL is.length) := fun M v d ds σ H Q h e k => by
  unfold pickL at e
  split at e
  · split at e
    · rename_i hl
      cases e
      obtain ⟨a, xs, rfl, h1, h2⟩ := Dp_list h
      have hx : xs.length = is.length := by rw [DpAll_len h2, hl]
      exact ⟨a, xs, rfl, hid_sub.seq h1, hx, tgs_of hx (k xs h2)⟩
    · cases e
  · cases e
end
end MD
namespace MD
open PySem PySem.Spec L2
section
variable {X : Cx} {K : PySem.W.Frag} {tg : Expr} {pos : Pos}
/-! ### a comprehension with two fors -/
def lc2D (is : List Nat) (pick : D → Option (List D)) (c : Bool) (mt : MT) (inner : Ev → Option (List D)) (E0 : Ev) : List D → Option (List D)
  | [] => some []
  | d :: ds => if c || flat d then (pick d).bind fun qs => (mt (setAllE E0 is qs)).bind fun b => if b = true then (inner (setAllE E0 is qs)).bind fun ys => (lc2D is pick c mt inner E0 ds).bind fun zs => some (ys ++ zs) else lc2D is pick c mt inner E0 ds else none
def mIn (is1 : List Nat) (pick1 : D → Option (List D)) (mi1 : MI) (mt1 : MT) (me : ME) : Ev → Option (List D) := fun E2 => (mi1 E2).bind fun cl => lcD is1 pick1 cl.1 mt1 me (wipeE E2 is1) cl.2
def mLc22 (vs is : List Nat) (pick : D → Option (List D)) (mi : MI) (mt : MT) (is1 : List Nat) (pick1 : D → Option (List D)) (mi1 : MI) (mt1 : MT) (me : ME) : ME := fun E => (mi E).bind fun cl =>
  (lc2D is pick cl.1 mt (mIn is1 pick1 mi1 mt1 me) (wipeE E vs) cl.2).bind fun res => if res.length ≤ lim then some (.o res) else none
theorem wipe_setAll2 (σ : L2.St) (is vs : List Nat) (xs : List V) (h : ∀ i ∈ is, i ∈ vs) : L2.wipe (MD.setAll (L2.wipe σ vs) is xs) vs = L2.wipe σ vs := by
  apply List.ext_getElem?
  intro j
  rw [wipe_get, wipe_get, setAll_len, L2.wipe_length]
  by_cases hj : j ∈ vs
  · simp [hj]
  · simp only [hj, if_false]
    rw [setAll_get is xs _ j (fun z => hj (h j z)), wipe_get]
    simp [hj]
theorem tLc2_of {vs is is1 : List Nat} {pick pick1 : D → Option (List D)} {mi mi1 : MI} {mt mt1 : MT} {me : ME} {g g1 : TG} (hg : TgOk K g is pick) (hg1 : TgOk K g1 is1 pick1) (hsub : ∀ i ∈ is, i ∈ vs) :
    ∀ σ H Q, tM K (mLc22 vs is pick mi mt is1 pick1 mi1 mt1 me) σ H Q → tLc2 (tMI K mi) g (tMT K mt) (tMI K mi1) g1 (tMT K mt1) (tM K me) vs is1 σ H Q := fun σ H Q ⟨E, W, rc, hH, hm, k⟩ => by
  obtain ⟨⟨c, l⟩, ei, hm⟩ := bindSome hm
  obtain ⟨res, er, hm⟩ := bindSome hm
  split at hm
  rotate_left
  · cases hm
  rename_i hlim
  cases hm
  refine ⟨E, W, c, l, hH, ei, fun J H1 s1 hw D hD => ?_⟩
  have hH1 := hH.grow s1
  have hD0 : W.w D = false := hH1.dom.free hD
  have zD : (W.add D).z D = true := adm_self
  let INV : Nat → Hp → Prop := fun i H2 => Same H1 H2 ∧ Held K H2 (W.add D) (L2.wipe σ vs) (wipeE E vs) ∧ ∃ acc ad rest, H2 D = some (.lst acc) ∧ DpAll K (hid (adm D W.w) H2) acc ad ∧ lc2D is pick c mt (mIn is1 pick1 mi1 mt1 me) (wipeE E vs) (l.drop i) = some rest ∧ ad ++ rest = res
  refine ⟨fun i m H2 => m = l.length - i ∧ i ≤ l.length ∧ INV i H2, ⟨l.length, by simp, Nat.zero_le _, same_new hD, (hH1.hide hD []).wipe vs, [], [], res, upd_same, .nil, by simpa using er, rfl⟩, ?_⟩
  rintro i mm H2 ⟨rfl, hi, S, hh, acc, ad, rest, eD, da, el, ea⟩
  have hM : Dom (adm D (W.of c)) H2 := fun a ha => by
    have q : (W.add D).w a = true := by
      rw [W.add_w D]
      unfold adm at ha ⊢
      rw [Bool.or_eq_true] at ha ⊢
      rcases ha with ha | ha
      · left
        unfold WM.of at ha
        cases c with
        | true => exact ha
        | false => exact WM.zw a ha
      · exact .inr ha
    exact hh.dom a q
  have hB : Same (hid (W.of c) H1) (hid (adm D (W.of c)) H2) := fun b o e => by
    rw [hid_eq] at e ⊢
    refine ⟨?_, S _ _ e.2⟩
    unfold adm
    rw [e.1, decide_eq_false (ne_of_none e.2 hD)]
    rfl
  obtain ⟨hgo, hst⟩ := hw i _ H2 hB hM
  by_cases hlt : i < l.length
  · have hd : l[i]? = some l[i] := by simp [hlt]
    have edrop : l.drop i = l[i] :: l.drop (i + 1) := (List.drop_eq_getElem_cons hlt)
    rw [edrop] at el
    obtain ⟨g1', g2'⟩ := hgo _ hd
    unfold lc2D at el
    split at el
    rotate_left
    · cases el
    rename_i hcf
    obtain ⟨qs, ep, el⟩ := bindSome el
    obtain ⟨bt, et, el⟩ := bindSome el
    refine .inr ⟨g1', fun H' => INV (i + 1) H', fun H' p' => ⟨l.length - (i + 1), by omega, rfl, hlt, p'⟩, fun x H3 y => ?_⟩
    obtain ⟨s3, dx⟩ := g2' x H3 y
    have hh3 := hh.grow s3
    have dx' : Dp K (hid (W.add D).w H3) x l[i] := by
      rw [W.add_w D]
      cases c with
      | true => exact dx
      | false =>
        have := hh3.dom
        rw [W.add_w D] at this
        exact dp_flat this _ _ (by simpa using hcf) (Dpm dx hid_sub)
    refine hg (W.add D).w x _ qs _ H3 _ dx' ep fun vv dvs => ?_
    have hh4 := hh3.setAll (is := is) dvs
    refine ⟨wipe_setAll2 σ is vs vv hsub, _, W.add D, bt, hh4, et, fun H4 s4 => ?_⟩
    cases bt with
    | false =>
      rw [if_neg Bool.false_ne_true] at el ⊢
      exact ⟨(S.trans s3).trans s4, (hh3.grow s4), acc, ad, rest, s4 _ _ (s3 _ _ eD), Dpam da (hid_same (s3.trans s4)), el, ea⟩
    | true =>
      rw [if_pos rfl] at el ⊢
      obtain ⟨ys, ey, el⟩ := bindSome el
      obtain ⟨zs, ez, el⟩ := bindSome el
      cases el
      obtain ⟨⟨c1, l1⟩, ei1, ey⟩ := bindSome ey
      refine ⟨_, W.add D, c1, l1, hh4.grow s4, ei1, fun J1 H5 s5 hw1 => ?_⟩
      have ey : lcD is1 pick1 c1 mt1 me (wipeE (setAllE (wipeE E vs) is qs) is1) l1 = some ys := ey
      have S25 : Same H2 H5 := (s3.trans s4).trans s5
      let σ2 := MD.setAll (L2.wipe σ vs) is vv
      let E2 := setAllE (wipeE E vs) is qs
      let INV1 : Nat → Hp → Prop := fun j H6 => Same H1 H6 ∧ (∀ b o, b ≠ D → H5 b = some o → H6 b = some o) ∧ Held K H6 (W.add D) (L2.wipe σ2 is1) (wipeE E2 is1) ∧ Held K H6 (W.add D) (L2.wipe σ vs) (wipeE E vs) ∧ ∃ acc ad rest, H6 D = some (.lst acc) ∧ DpAll K (hid (adm D W.w) H6) acc ad ∧ lcD is1 pick1 c1 mt1 me (wipeE E2 is1) (l1.drop j) = some rest ∧ ad ++ (rest ++ zs) = res
      refine ⟨fun j k H6 => k = l1.length - j ∧ j ≤ l1.length ∧ INV1 j H6, ⟨l1.length, by simp, Nat.zero_le _, S.trans S25, fun b o _ e => e, ((hh4.grow s4).grow s5).wipe is1, (hh3.grow s4).grow s5, acc, ad, ys, S25 _ _ eD, Dpam da (hid_same S25), by simpa using ey, ea⟩, ?_⟩
      rintro j kk H6 ⟨rfl, hj, T6, U6, hk6, hb6, acc6, ad6, rest6, eD6, da6, el6, ea6⟩
      have zo : ∀ c : Bool, (W.add D).of c D = true := fun c => by
        unfold WM.of
        cases c with
        | true => exact WM.zw D zD
        | false => exact zD
      have hM1 : Dom ((W.add D).of c1) H6 := fun a ha => by
        refine hk6.dom a ?_
        unfold WM.of at ha
        cases c1 with
        | true => exact ha
        | false => exact WM.zw a ha
      have hB1 : Same (hid ((W.add D).of c1) H5) (hid ((W.add D).of c1) H6) := fun b o e => by
        rw [hid_eq] at e ⊢
        refine ⟨e.1, U6 b o (fun z => ?_) e.2⟩
        subst z
        rw [zo c1] at e
        cases e.1
      obtain ⟨hgo1, hst1⟩ := hw1 j _ H6 hB1 hM1
      by_cases hlt1 : j < l1.length
      · have hd1 : l1[j]? = some l1[j] := by simp [hlt1]
        have edrop1 : l1.drop j = l1[j] :: l1.drop (j + 1) := (List.drop_eq_getElem_cons hlt1)
        rw [edrop1] at el6
        obtain ⟨p1, p2⟩ := hgo1 _ hd1
        unfold lcD at el6
        split at el6
        rotate_left
        · cases el6
        rename_i hcf1
        obtain ⟨qs1, ep1, el6⟩ := bindSome el6
        obtain ⟨bt1, et1, el6⟩ := bindSome el6
        refine .inr ⟨p1, fun H' => INV1 (j + 1) H', fun H' p' => ⟨l1.length - (j + 1), by omega, rfl, hlt1, p'⟩, fun x1 H7 y1 => ?_⟩
        obtain ⟨s7, dx1⟩ := p2 x1 H7 y1
        have hh7 := hk6.grow s7
        have dx1' : Dp K (hid (W.add D).w H7) x1 l1[j] := by
          unfold WM.of at dx1
          cases c1 with
          | true => exact dx1
          | false => exact dp_flat hh7.dom _ _ (by simpa using hcf1) (Dpm dx1 hid_sub)
        refine hg1 (W.add D).w x1 _ qs1 _ H7 _ dx1' ep1 fun vv1 dvs1 => ?_
        have hh8 := hh7.setAll (is := is1) dvs1
        refine ⟨wipe_setAll σ2 is1 vv1, _, W.add D, bt1, hh8, et1, fun H8 s8 => ?_⟩
        have S68 : Same H6 H8 := s7.trans s8
        cases bt1 with
        | false =>
          rw [if_neg Bool.false_ne_true] at el6
          refine iteF ?_
          exact ⟨T6.trans S68, fun b o hb e => S68 _ _ (U6 b o hb e), hh7.grow s8, hb6.grow S68, acc6, ad6, rest6, S68 _ _ eD6, Dpam da6 (hid_same S68), el6, ea6⟩
        | true =>
          rw [if_pos rfl] at el6
          refine iteT ?_
          obtain ⟨rx, ex, el6⟩ := bindSome el6
          obtain ⟨yd, ey1, el6⟩ := bindSome el6
          obtain ⟨rest', el', e5⟩ := bindSome el6
          cases e5
          refine ⟨_, W.add D, rx, hh8.grow s8, ex, fun yv H9 s9 r9 f9 => ?_⟩
          have S69 : Same H6 H9 := S68.trans s9
          have hh9 := (hh7.grow s8).grow s9
          have dy := r9.pro (hh9.dom) ey1
          rw [W.add_w D] at dy
          have eD9 := S69 _ _ eD6
          have hlen : acc6.length < sizeLine := by
            have h1 : acc6.length = ad6.length := DpAll_len da6
            have h2 : (ad6 ++ (yd :: rest' ++ zs)).length = res.length := by rw [ea6]
            rw [List.length_append, List.length_append, List.length_cons] at h2
            exact Nat.lt_of_lt_of_le (show acc6.length < lim by omega) lim_line
          refine ⟨acc6, eD9, hlen, ?_, ?_, hh9.updz zD _, (hb6.grow S69).updz zD _, acc6 ++ [yv], ad6 ++ [yd], rest', upd_same, ?_, el', by rw [List.append_assoc]; exact ea6⟩
          · intro b o e
            rw [upd_ne (ne_of_none e hD)]
            exact S69 _ _ (T6 _ _ e)
          · intro b o hb e
            rw [upd_ne hb]
            exact S69 _ _ (U6 b o hb e)
          · rw [hid_in adm_self]
            exact DpAll_app (Dpam da6 (hid_same S69)) (.cons dy .nil)
      · have e : j = l1.length := by omega
        subst e
        rw [List.drop_length] at el6
        cases el6
        exact .inl ⟨hst1 (Nat.le_refl _), T6, hb6, acc6, ad6, zs, eD6, da6, ez, ea6⟩
  · have e : i = l.length := by omega
    subst e
    rw [List.drop_length] at el
    cases el
    rw [List.append_nil] at ea
    subst ea
    exact .inl ⟨hst (Nat.le_refl _), k _ H2 (s1.trans S) ⟨(hH1.grow S).dom, [D], .lst eD (lks_fl (by rw [adms_one]; exact da)), by simp, fun a ha => by cases List.mem_singleton.mp ha; exact hD0⟩ (rf_o (s1.free hD))⟩
theorem m_lc2 {elt iter tg1 iter1 : Expr} {ifs ifs1 : List Expr} {scope : Scope} {own : List (Str × Nat)} {is is1 : List Nat} {mi mi1 : MI} {mt mt1 : MT} {me : ME} {g g1 : TG} {pick pick1 : D → Option (List D)} (hc : X.calm = true) (hN : X.N.Nodup) (ht' : TgOk X.K g is pick) (ht1' : TgOk X.K g1 is1 pick1) (hsub : ∀ i ∈ is, i ∈ own.map (·.2)) (hsub1 : ∀ i ∈ is1, i ∈ own.map (·.2)) (hi : PI X tg iter (tMI X.K mi)) (ok : BlkOk X.N X.env.scope scope own)
    (hg : ∀ (s : Shared) (H : Hp) (C : Addr) (cl : List (Str × Addr)) (fp : List Addr), PG (X.blk s H scope (compEnvC scope cl C X.env) fp) tg g) (ht : ∀ (s : Shared) (H : Hp) (C : Addr) (cl : List (Str × Addr)) (fp : List Addr), PTs (X.blk s H scope (compEnvC scope cl C X.env) fp) ifs (tMT X.K mt))
    (hi1 : ∀ (s : Shared) (H : Hp) (C : Addr) (cl : List (Str × Addr)) (fp : List Addr), PI (X.blk s H scope (compEnvC scope cl C X.env) fp) tg1 iter1 (tMI X.K mi1))
    (hg1 : ∀ (s : Shared) (H : Hp) (C : Addr) (cl : List (Str × Addr)) (fp : List Addr), PG (X.blk s H scope (compEnvC scope cl C X.env) fp) tg1 g1) (ht1 : ∀ (s : Shared) (H : Hp) (C : Addr) (cl : List (Str × Addr)) (fp : List Addr), PTs (X.blk s H scope (compEnvC scope cl C X.env) fp) ifs1 (tMT X.K mt1))
    (he : ∀ (s : Shared) (H : Hp) (C : Addr) (cl : List (Str × Addr)) (fp : List Addr), PE (X.blk s H scope (compEnvC scope cl C X.env) fp) elt (tM X.K me)) (hs : ∀ x, foldedSetIterable iter X.env x = pure x := by intro _; rfl) (hs1 : ∀ env x, foldedSetIterable iter1 env x = pure x := by intro _ _; rfl) :
    PE X (.ListComp elt [⟨tg, iter, ifs, 0⟩, ⟨tg1, iter1, ifs1, 0⟩] scope pos) (tM X.K (mLc22 (own.map (·.2)) is pick mi mt is1 pick1 mi1 mt1 me)) :=
  pe_imp (pe_lc2 hc hN hi ok hsub1 hg ht hi1 hg1 ht1 he hs hs1) (tLc2_of ht' ht1' hsub)
theorem lc2D_map {α : Type} {is : List Nat} {pick : D → Option (List D)} {mt : MT} {inner : Ev → Option (List D)} {E0 : Ev} {enc : α → D} {qs : α → List D} {b : α → Bool} {y : α → List D} : ∀ (l : List α),
    (∀ a ∈ l, pick (enc a) = some (qs a) ∧ mt (setAllE E0 is (qs a)) = some (b a) ∧ (b a = true → inner (setAllE E0 is (qs a)) = some (y a))) →
    lc2D is pick true mt inner E0 (l.map enc) = some ((l.filter b).flatMap y)
  | [], _ => rfl
  | a :: l, h => by
    obtain ⟨h2, h3, h4⟩ := h a List.mem_cons_self
    have ih := lc2D_map (b := b) (y := y) (qs := qs) l fun x hx => h x (List.mem_cons_of_mem _ hx)
    show (pick (enc a)).bind _ = _
    rw [h2]
    show (mt (setAllE E0 is (qs a))).bind _ = _
    rw [h3]
    show (if b a = true then _ else _) = _
    rw [List.filter_cons]
    split
    · rename_i hb
      rw [h4 hb]
      show (lc2D is pick true mt inner E0 (l.map enc)).bind _ = _
      rw [ih]
      rfl
    · exact ih
end
end MD

namespace MD
open PySem PySem.Spec L2
/-! ### the mathematics of areas -/
def cov : List Pt → Int
  | [] => 0
  | s :: t => sp s (sm2 t) + cov t
theorem sum_getD : ∀ (ss : List Pt) (f : Pt → Int), ((List.range ss.length).map fun k => f (ss.getD k (0, 0))).sum = (ss.map f).sum
  | [], f => by simp
  | s :: t, f => by
    rw [List.length_cons, List.range_succ_eq_map, List.map_cons, List.sum_cons, List.map_map, List.map_cons, List.sum_cons, ← sum_getD t f]
    rfl
/-! pairs of places -/
def pairs (n : Nat) : List (Nat × Nat) := (List.range n).flatMap fun i => (List.range (n - (i + 1))).map fun k => (i, i + 1 + k)
theorem pairs_mem {n : Nat} {a : Nat × Nat} (h : a ∈ pairs n) : a.1 < a.2 ∧ a.2 < n := by
  obtain ⟨i, hi, h⟩ := List.mem_flatMap.mp h
  obtain ⟨k, hk, rfl⟩ := List.mem_map.mp h
  have := List.mem_range.mp hi
  have := List.mem_range.mp hk
  simp only
  omega
theorem pairs_succ (n : Nat) : pairs (n + 1) = ((List.range n).map fun k => (0, 1 + k)) ++ (pairs n).map fun a => (a.1 + 1, a.2 + 1) := by
  unfold pairs
  rw [List.range_succ_eq_map, List.flatMap_cons, List.flatMap_map, List.map_flatMap]
  congr 1
  congr 1
  funext i
  rw [List.map_map, show n + 1 - (i.succ + 1) = n - (i + 1) by omega]
  apply List.map_congr_left
  intro k _
  show (i + 1, i + 1 + 1 + k) = (i + 1, i + 1 + k + 1)
  congr 1
  omega
theorem cov_pairs : ∀ ss : List Pt, ((pairs ss.length).map fun a => sp (ss.getD a.1 (0, 0)) (ss.getD a.2 (0, 0))).sum = cov ss
  | [] => rfl
  | s :: t => by
    rw [List.length_cons, pairs_succ, List.map_append, List.sum_append, List.map_map, List.map_map, cov, ← cov_pairs t, (lin_sp s).sum, ← sum_getD t (sp s)]
    congr 2
    · apply List.map_congr_left
      intro k _
      show sp s ((s :: t).getD (1 + k) (0, 0)) = _
      rw [Nat.add_comm, List.getD_cons_succ]
theorem pairs_len (n : Nat) (h : n ≤ 6) : (pairs n).length ≤ 15 := by
  match n, h with
  | 0, _ => decide
  | 1, _ => decide
  | 2, _ => decide
  | 3, _ => decide
  | 4, _ => decide
  | 5, _ => decide
  | 6, _ => decide
/-! fewer sticks -/
def absSum (s : Pt) (l : List Pt) : Int := (l.map fun o => absI (sp s o)).sum
/-! one more stick -/
end MD
namespace MD
open PySem PySem.Spec L2
def enc2 (a : Nat × Nat) : D := .list [.int (a.1 : Nat), .int (a.2 : Nat)]
theorem cut_take (l : List D) (k : Nat) : cutD l none (some (k : Int)) = l.take k := by
  unfold cutD
  rw [HT.sIx_nat, show HT.sIx l.length 0 none = 0 from rfl, List.drop_zero, Nat.sub_zero]
  rcases Nat.le_total k l.length with h | h
  · rw [Nat.min_eq_left h]
  · rw [Nat.min_eq_right h, List.take_of_length_le h, List.take_of_length_le (Nat.le_refl _)]
theorem cut_drop (l : List D) (k : Nat) : cutD l (some (k : Int)) none = l.drop k := by
  unfold cutD
  rw [HT.sIx_nat, show HT.sIx l.length l.length none = l.length from rfl]
  rcases Nat.le_total k l.length with h | h
  · rw [Nat.min_eq_left h]
    exact List.take_of_length_le (by rw [List.length_drop]; omega)
  · rw [Nat.min_eq_right h, List.drop_of_length_le h, List.drop_of_length_le (Nat.le_refl _)]
    simp
/-- the sticks that may be longer by one, and one up -/
def fewer (ss : List Pt) : List Pt := (ss.take 5).filter fun p => decide (absI p.1 < 20) && decide (p.2 < 20)
end MD
namespace MD
theorem pairs_enc (n : Nat) : ((List.range n).flatMap fun i => (List.range (n - (i + 1))).map fun k => enc2 (i, i + 1 + k)) = (pairs n).map enc2 := by
  unfold pairs
  rw [List.map_flatMap]
  simp only [List.map_map]
  rfl
end MD
namespace MD
end MD
namespace MD
theorem mCall1 {g : List D → Option R} {m : ME} {E : Ev} {r r' : R} {d : D} (h : m E = some r) (hp : r.pro = some d) (hg : g [d] = some r') : mCall 1 g (mCons m mNil) E = some r'.up := by
  unfold mCall mCons mNil
  rw [h]
  show (if [r].length = 1 then (match pros [r] with | some ds => (g ds).map R.up | none => (g ([r].map R.d)).map R.taint) else none) = _
  have e : pros [r] = some [d] := by rw [pros_cons, hp]; rfl
  rw [e]
  show (g [d]).map R.up = _
  rw [hg]
  rfl
theorem deq_nil : deq (.list []) (.list []) = true := rfl
end MD

namespace MD
open PySem PySem.Spec L2
/-! ### slabs of the cut whose signs are all 0 make up the body -/
/-- in the slab of a and b at F, by spans -/
structure Slab (a b F q : Pt) : Prop where
  f0 : 0 ≤ sp (sb q F) b
  f1 : sp (sb q F) b ≤ sp a b
  s0 : 0 ≤ sp a (sb q F)
  s1 : sp a (sb q F) ≤ sp a b
instance (a b F q : Pt) : Decidable (Slab a b F q) := decidable_of_iff (0 ≤ sp (sb q F) b ∧ sp (sb q F) b ≤ sp a b ∧ 0 ≤ sp a (sb q F) ∧ sp a (sb q F) ≤ sp a b) ⟨fun h => ⟨h.1, h.2.1, h.2.2.1, h.2.2.2⟩, fun h => ⟨h.1, h.2, h.3, h.4⟩⟩
theorem cramer (a b r c : Pt) : sp a b * sp c r = sp r b * sp c a + sp a r * sp c b := by unfold sp; grind
def at0 (ss : List Pt) (k : Nat) : Pt := ss.getD k (0, 0)
theorem at0_eq {ss : List Pt} {k : Nat} (h : k < ss.length) : ss[k]? = some (at0 ss k) := by
  unfold at0
  rw [List.getD_eq_getElem?_getD, List.getElem?_eq_getElem h]
  rfl
def foot (ss : List Pt) (i j : Nat) : Pt := sm2 ((ss.take j).drop (i + 1))
def slabAt (ss : List Pt) (q : Pt) (a : Nat × Nat) : Bool := decide (Slab (at0 ss a.1) (at0 ss a.2) (foot ss a.1 a.2) q)
def Sides (ss : List Pt) (q : Pt) : Prop := ∀ k s, ss[k]? = some s → sp s (sm2 (ss.take k)) ≤ sp s q ∧ sp s q ≤ sp s (sm2 ss) - sp s (sm2 (ss.take k))
theorem le_of_mul {u x y : Int} (hu : 0 < u) (h : u * x ≤ u * y) : x ≤ y := Int.le_of_mul_le_mul_left h hu
theorem take_drop_sum (l : List Pt) (i : Nat) : ad (sm2 (l.take i)) (sm2 (l.drop i)) = sm2 l := by rw [← sm2_app, List.take_append_drop]
end MD

namespace MD
open PySem PySem.Spec L2
def mx (c : Pt) (l : List Pt) : Int := (l.map fun t => max 0 (sp c t)).sum
theorem mx_app (c : Pt) (l r : List Pt) : mx c (l ++ r) = mx c l + mx c r := by unfold mx; rw [List.map_append, List.sum_append]
/-- on the one stick -/
def oneB (s q : Pt) : Bool := decide (sp s q = 0) && (decide (0 ≤ dt s q) && decide (dt s q ≤ dt s s))
def foundB (ss : List Pt) (q : Pt) : Bool := if ss.length = 1 then oneB (at0 ss 0) q else (pairs ss.length).any (slabAt ss q)
/-! lines that part -/
def linesOf (ss : List Pt) : List Pt := ss.flatMap fun s => [(s.2, -s.1), (-s.2, s.1), (s.1, s.2), (-s.1, -s.2)]
def reachI (ss : List Pt) (line : Pt) : Int := (ss.map fun t => max 0 (dt line t)).sum
theorem near_le {s t : Pt} (hs : near s = true) (ht : near t = true) : sp s t ≤ 800 ∧ dt s t ≤ 800 := by
  rw [near_iff] at hs ht
  have b : ∀ x y : Int, -20 ≤ x → x ≤ 20 → -20 ≤ y → y ≤ 20 → x * y ≤ 400 ∧ -400 ≤ x * y := fun x y a1 a2 a3 a4 => by
    have h1 : 0 ≤ (20 - x) * (20 + y) := Int.mul_nonneg (by omega) (by omega)
    have h2 : 0 ≤ (20 + x) * (20 - y) := Int.mul_nonneg (by omega) (by omega)
    have h3 : 0 ≤ (20 - x) * (20 - y) := Int.mul_nonneg (by omega) (by omega)
    have h4 : 0 ≤ (20 + x) * (20 + y) := Int.mul_nonneg (by omega) (by omega)
    grind
  have b1 := b s.1 t.2 (by omega) (by omega) (by omega) (by omega)
  have b2 := b s.2 t.1 (by omega) (by omega) (by omega) (by omega)
  have b3 := b s.1 t.1 (by omega) (by omega) (by omega) (by omega)
  have b4 := b s.2 t.2 (by omega) (by omega) (by omega) (by omega)
  unfold sp dt
  omega
end MD
namespace MD
open PySem PySem.Spec L2
def lowP (t b : Int) : Pt := ((t.toNat / Nat.gcd t.toNat b.toNat : Nat), (b.toNat / Nat.gcd t.toNat b.toNat : Nat))
def shl (ss : List Pt) (q : Pt) (i j : Nat) : List Pt := (((List.range ss.length).map fun k => if i < k ∧ k < j then ((1, 1) : Pt) else (0, 1)).set i (lowP (sp (sb q (foot ss i j)) (at0 ss j)) (sp (at0 ss i) (at0 ss j)))).set j (lowP (sp (at0 ss i) (sb q (foot ss i j))) (sp (at0 ss i) (at0 ss j)))
theorem mAsgO_o {i : Nat} {m : ME} {E : Ev} {l : List D} (h : m E = some (.o l)) : mAsgO i m E = some (.nx (E.set i (some (.t (Tr.fl l))))) := by
  unfold mAsgO
  rw [h]
  rfl
end MD
namespace MD
open PySem PySem.Spec L2
theorem mCall2 {g : List D → Option R} {m m' : ME} {E : Ev} {x y r' : R} {d d' : D} (h : m E = some x) (h' : m' E = some y) (hp : x.pro = some d) (hp' : y.pro = some d') (hg : g [d, d'] = some r') : mCall 2 g (mCons m (mCons m' mNil)) E = some r'.up := by
  unfold mCall mCons mNil
  rw [h]
  show ((((m' E).bind fun x => some [x]).bind fun xs => some (x :: xs)).bind _) = _
  rw [h']
  show (if [x, y].length = 2 then (match pros [x, y] with | some ds => (g ds).map R.up | none => (g ([x, y].map R.d)).map R.taint) else none) = _
  have e : pros [x, y] = some [d, d'] := by rw [pros_cons, pros_cons, hp, hp']; rfl
  rw [e]
  show (g [d, d']).map R.up = _
  rw [hg]
  rfl
theorem mSeq_rt {s t : MS} {E : Ev} {r : R} (h : s E = some (.rt r)) : mSeq s t E = some (.rt r) := by unfold mSeq; rw [h]; rfl
end MD

namespace MD
open PySem PySem.Spec L2
section
variable {X : Cx} {K : PySem.W.Frag} {e a b o : Expr} {m ma mb : ME} {n : MA} {pos p p2 apos : Pos} {es : List Expr} {ff : Bool}
/-! ### is None -/
def rIsN (neg : Bool) : R2 := fun x y H Q => ∃ k : Bool, y = .non ∧ ((x = .non ∧ k = true) ∨ (x ≠ .non ∧ k = false)) ∧ Q (.bl (neg != k)) H
def isN : D → Bool
  | .none => true
  | _ => false
def gIsN (neg : Bool) : G2 := fun x y => match y.d with
  | .none => some (.c (.bool (neg != isN x.d)))
  | _ => none
/-! ### shifts -/
def gShr : G2 := gIc (fun _ j => decide (0 ≤ j)) fun i j => .int (i / 2 ^ j.toNat)
/-! ### max, min of a list -/
def isMax (ns : List Int) (m : Int) : Prop := m ∈ ns ∧ ∀ x ∈ ns, x ≤ m
def maxL : List Int → Int
  | [] => 0
  | [x] => x
  | x :: y :: l => if x ≤ maxL (y :: l) then maxL (y :: l) else x
def gMaxL : GL := fun rs => match rs with
  | [x] => (match x.d with | .list l => (ints? l).bind fun ns => if ns ≠ [] then some (.c (.int (maxL ns))) else none | _ => none)
  | _ => none
/-! ### xs.extend(ys), ys new -/
def mExt (i : Nat) (n : MA) : MS := fun E => match E[i]? with
  | some (some (.t (.lst l))) => (n E).bind fun rs => (match rs with | [.t (.lst l')] => if l.length + (Tr.ds l').length ≤ lim then some (.nx (E.set i (some (.t (.lst (l ++ (Tr.ds l').map .leaf)))))) else none | _ => none)
  | _ => none
/-! ### xs[::k], k above 0 -/
def stepIx (k : Int) (n : Nat) : List Nat := sliceRange (sliceBounds none none (some k) n).1 (sliceBounds none none (some k) n).2.1 (sliceBounds none none (some k) n).2.2
def stepL {α : Type} (k : Int) (l : List α) : List α := (stepIx k l.length).filterMap (l[·]?)
def tStep (K : PySem.W.Frag) (te ts : TE) : TE := fun σ H Q => te σ H fun x H1 => ts σ H1 fun y H2 => ∃ a xs k, x = .ref a ∧ y = .int k ∧ 0 < k ∧ SqL K H2 a xs ∧ ∀ p, H2 p = none → Q (.ref p) (upd H2 p (.lst (stepL k xs)))
def mStep (m ms : ME) : ME := fun E => (m E).bind fun x => (ms E).bind fun y => match x.d, y.d with
  | .list l, .int k => if (x.cl || flats l) = true ∧ 0 < k then some (.o (stepL k l)) else none
  | _, _ => none
/-! ### a module's tuple of numbers -/
end
end MD

namespace MD
open PySem PySem.Spec L2
section
variable {K : PySem.W.Frag} {H H' : Hp} {x : Addr}
/-! ### data without objects does not see an object's change -/
mutual
def Tr.pure : Tr → Bool
  | .leaf d => d.pure
  | .lst l => Tr.pures l
  | .tup l => Tr.pures l
  | .obj _ _ _ => false
  | .dct _ _ => false
def Tr.pures : List Tr → Bool
  | [] => true
  | t :: ts => t.pure && Tr.pures ts
end
end
/-! ### __init__ that lays one field -/
def trOf : R → Tr
  | .c d => .leaf d
  | .u d => .leaf d
  | .t T => T
def gInit (C : Addr) (N : List Str) (m : ME) : List D → Option (List Tr) := fun ds => (m (startE N (.obj C [] [] :: ds))).bind fun r => if (trOf r).pure = true then some [trOf r] else none
/-! ### classes of the text, and what they promise -/
structure FunI (K : PySem.W.Frag) (C : Addr) (qual : Str) (st : Stmt) (ps : List Str) : Prop where
  ex : ∃ f fd, Fun K "__init__" qual st f fd ∧ Mk K C f ∧ Binds K fd ps []
structure FunM (K : PySem.W.Frag) (C : Addr) (mn qual : Str) (st : Stmt) (ps : List Str) : Prop where
  ex : ∃ f fd, Fun K mn qual st f fd ∧ Meth K C mn f ∧ Binds K fd ps []
structure Ini (P : Program) (w : World) (K : PySem.W.Frag) (mg : Str → Option Value) (base : Heap) (C : Addr) (k : Nat) (n0 : Nat) (ns : List Str) (g : List D → Option (List Tr)) : Prop where
  ex : ∃ f fd ps, Mk K C f ∧ FnOk P w K mg base CX0 k f fd ps (spInit K C n0 ns g) ∧ Binds K fd ps []
structure Mth (P : Program) (w : World) (K : PySem.W.Frag) (mg : Str → Option Value) (base : Heap) (C : Addr) (mn : Str) (k : Nat) (n0 : Nat) (g : List D → Option R) : Prop where
  ex : ∃ f fd ps, Meth K C mn f ∧ FnOk P w K mg base CX0 k f fd ps (spD K n0 g) ∧ Binds K fd ps []
section
variable {X : Cx} {e o : Expr} {m : ME} {n : MA} {es : List Expr} {pos p p2 apos : Pos}
end
end MD
namespace MD
end MD
namespace MD
open PySem PySem.Spec L2
end MD
namespace MD
end MD
namespace MD
theorem mWhile_ex {c : MT} {b : MS} {E : Ev} {Q : Ev → Prop} (Pv : Ev → Prop) (μ : Ev → Nat) (h0 : Pv E) (step : ∀ E, Pv E → c E = some false ∨ (c E = some true ∧ ∃ E', b E = some (.nx E') ∧ Pv E' ∧ μ E' < μ E)) (fin : ∀ E', Pv E' → c E' = some false → Q E') : ∃ E', mWhile c b E = some (.nx E') ∧ Q E' := by
  obtain ⟨E', h1, h2, h3⟩ := mWhile_ind Pv μ step E h0
  exact ⟨E', h1, fin E' h2 h3⟩
end MD
namespace MD
open PySem PySem.Spec L2
theorem ds_leaf : ∀ l : List D, Tr.ds (l.map .leaf) = l
  | [] => by simp [Tr.ds]
  | d :: l => by simp [Tr.ds, Tr.d, ds_leaf l]
end MD

namespace MD
open PySem PySem.Spec L2
/-! rows: sticks, some turned about -/
def rowOf (z : Pt × Bool) : Pt := if z.2 then ng z.1 else z.1
def mvd (zs : List (Pt × Bool)) : Pt := sm2 ((zs.map rowOf).filter fun r => !std r)
section
variable {ss : List Pt} {zs : List (Pt × Bool)}
end
def turn (W : Int) (a : Pt × Nat) : Pt × Bool := (a.1, !decide (W / 2 ^ a.2 % 2 = 0))
end MD
namespace MD
open PySem PySem.Spec L2
theorem mUn_eq {g : G1} {m : ME} {E : Ev} {r : R} {x : Option R} (h : m E = some r) (hg : g r = x) : mUn g m E = x := by unfold mUn; rw [h]; exact hg
end MD
namespace MD
end MD

namespace MD
open PySem PySem.Spec L2
/-! ### the farthest corner along a line -/
theorem betw (c : Pt) {a b d : Pt} (h1 : 0 < sp a b) (h2 : 0 < sp b d) (h3 : 0 < sp a d) : (0 ≤ sp c a → 0 ≤ sp c d → 0 ≤ sp c b) ∧ (sp c a ≤ 0 → sp c d ≤ 0 → sp c b ≤ 0) := by
  have cr := cramer a d b c
  constructor
  · intro p q
    have m1 := Int.mul_nonneg (Int.le_of_lt h2) p
    have m2 := Int.mul_nonneg (Int.le_of_lt h1) q
    have : sp a d * 0 ≤ sp a d * sp c b := by rw [cr]; omega
    exact le_of_mul h3 this
  · intro p q
    have m1 := Int.mul_nonpos_of_nonneg_of_nonpos (Int.le_of_lt h2) p
    have m2 := Int.mul_nonpos_of_nonneg_of_nonpos (Int.le_of_lt h1) q
    have : sp a d * sp c b ≤ sp a d * 0 := by rw [cr]; omega
    exact le_of_mul h3 this
/-- sticks in turn: those before some place lie on one side of a line, those from it on on the other -/
theorem turn_place (c : Pt) : ∀ {l : List Pt}, l.Pairwise (fun a b => 0 < sp a b) → ∃ k, k ≤ l.length ∧ (((∀ t ∈ l.take k, 0 ≤ sp c t) ∧ (∀ t ∈ l.drop k, sp c t ≤ 0)) ∨ ((∀ t ∈ l.take k, sp c t ≤ 0) ∧ (∀ t ∈ l.drop k, 0 ≤ sp c t)))
  | [], _ => ⟨0, by simp, .inl ⟨by simp, by simp⟩⟩
  | a :: l, pw => by
    obtain ⟨p1, p2⟩ := List.pairwise_cons.mp pw
    obtain ⟨k, hk, hq⟩ := turn_place c p2
    have mid : ∀ b ∈ l.take k, ∀ d ∈ l.drop k, 0 < sp b d := fun b hb d hd => by
      have := p2
      rw [← List.take_append_drop k l] at this
      exact (List.pairwise_append.mp this).2.2 b hb d hd
    rcases Int.lt_trichotomy (sp c a) 0 with ha | ha | ha
    · rcases hq with ⟨q1, q2⟩ | ⟨q1, q2⟩
      · -- a below, take above, drop below
        by_cases hd : l.drop k = []
        · refine ⟨1, by simp, .inr ⟨fun t ht => ?_, fun t ht => ?_⟩⟩
          · simp at ht; subst ht; omega
          · have e : l.take k = l := by have := List.take_append_drop k l; rw [hd, List.append_nil] at this; exact this
            rw [e] at q1
            exact q1 t (by simpa using ht)
        · obtain ⟨d, D, eD⟩ := List.exists_cons_of_ne_nil hd
          have hdm : d ∈ l.drop k := by rw [eD]; exact List.mem_cons_self
          refine ⟨0, by simp, .inl ⟨by simp, fun t ht => ?_⟩⟩
          rcases List.mem_cons.mp (by simpa using ht) with z | z
          · subst z; omega
          · by_cases hm : t ∈ l.drop k
            · exact q2 t hm
            · have ht' : t ∈ l.take k := by
                have : t ∈ l.take k ++ l.drop k := by rw [List.take_append_drop]; exact z
                rcases List.mem_append.mp this with y | y
                · exact y
                · exact absurd y hm
              exact (betw c (p1 t z) (mid t ht' d hdm) (p1 d (List.mem_of_mem_drop hdm))).2 (by omega) (q2 d hdm)
      · refine ⟨k + 1, by simp; omega, .inr ⟨fun t ht => ?_, fun t ht => ?_⟩⟩
        · rw [List.take_succ_cons] at ht
          rcases List.mem_cons.mp ht with z | z
          · subst z; omega
          · exact q1 t z
        · rw [List.drop_succ_cons] at ht
          exact q2 t ht
    · rcases hq with ⟨q1, q2⟩ | ⟨q1, q2⟩
      · refine ⟨k + 1, by simp; omega, .inl ⟨fun t ht => ?_, fun t ht => ?_⟩⟩
        · rw [List.take_succ_cons] at ht
          rcases List.mem_cons.mp ht with z | z
          · subst z; omega
          · exact q1 t z
        · rw [List.drop_succ_cons] at ht
          exact q2 t ht
      · refine ⟨k + 1, by simp; omega, .inr ⟨fun t ht => ?_, fun t ht => ?_⟩⟩
        · rw [List.take_succ_cons] at ht
          rcases List.mem_cons.mp ht with z | z
          · subst z; omega
          · exact q1 t z
        · rw [List.drop_succ_cons] at ht
          exact q2 t ht
    · rcases hq with ⟨q1, q2⟩ | ⟨q1, q2⟩
      · refine ⟨k + 1, by simp; omega, .inl ⟨fun t ht => ?_, fun t ht => ?_⟩⟩
        · rw [List.take_succ_cons] at ht
          rcases List.mem_cons.mp ht with z | z
          · subst z; omega
          · exact q1 t z
        · rw [List.drop_succ_cons] at ht
          exact q2 t ht
      · by_cases hd : l.drop k = []
        · refine ⟨1, by simp, .inl ⟨fun t ht => ?_, fun t ht => ?_⟩⟩
          · simp at ht; subst ht; omega
          · have e : l.take k = l := by have := List.take_append_drop k l; rw [hd, List.append_nil] at this; exact this
            rw [e] at q1
            exact q1 t (by simpa using ht)
        · obtain ⟨d, D, eD⟩ := List.exists_cons_of_ne_nil hd
          have hdm : d ∈ l.drop k := by rw [eD]; exact List.mem_cons_self
          refine ⟨0, by simp, .inr ⟨by simp, fun t ht => ?_⟩⟩
          rcases List.mem_cons.mp (by simpa using ht) with z | z
          · subst z; omega
          · by_cases hm : t ∈ l.drop k
            · exact q2 t hm
            · have ht' : t ∈ l.take k := by
                have : t ∈ l.take k ++ l.drop k := by rw [List.take_append_drop]; exact z
                rcases List.mem_append.mp this with y | y
                · exact y
                · exact absurd y hm
              exact (betw c (p1 t z) (mid t ht' d hdm) (p1 d (List.mem_of_mem_drop hdm))).1 (by omega) (q2 d hdm)
theorem SOk.top {ss : List Pt} (h : SOk ss) (c : Pt) : ∃ k, k < 2 * ss.length ∧ sp c (cq ss k) = mx c ss := by
  obtain ⟨k, hk, hq⟩ := turn_place c h.pw
  have hl := h.l1
  have e : mx c ss = mx c (ss.take k) + mx c (ss.drop k) := by conv => lhs; rw [← List.take_append_drop k ss, mx_app]
  have es : sp c (sm2 ss) = sp c (sm2 (ss.take k)) + sp c (sm2 (ss.drop k)) := by rw [← sp_adr, take_drop_sum]
  rcases hq with ⟨q1, q2⟩ | ⟨q1, q2⟩
  · have a1 := (min_pos q1).2
    have a2 := (min_neg q2).2
    refine ⟨k, by omega, ?_⟩
    unfold cq
    rw [if_pos hk, (lin_sp c).sum]
    unfold mx at e ⊢
    omega
  · have a1 := (min_neg q1).2
    have a2 := (min_pos q2).2
    have a3 : sp c (sm2 (ss.drop k)) = mx c ss := by
      rw [(lin_sp c).sum]
      unfold mx at e ⊢
      omega
    by_cases hkn : k = ss.length
    · subst hkn
      refine ⟨0, by omega, ?_⟩
      rw [cq_zero, (lin_sp c).z, ← a3, List.drop_length, sm2_nil, (lin_sp c).z]
    · refine ⟨ss.length + k, by omega, ?_⟩
      rw [(side_b (at0_eq (show k < ss.length by omega))).2, (lin_sp c).sb]
      omega
end MD

namespace MD
open PySem PySem.Spec L2
/-! ### shares that lead to a point -/
def isS (p : Pt) : Bool := decide (0 ≤ p.1) && (decide (p.1 ≤ p.2) && decide (Nat.gcd p.1.toNat p.2.toNat = 1))
def prodB (sh : List Pt) : Int := sh.foldl (fun w p => w * p.2) 1
def wgt (B : Int) (p : Pt) : Int := p.1 * (B / p.2)
def led (B : Int) (zs : List (Pt × Pt)) : Pt := zs.foldl (fun a z => ad a (z.1.1 * wgt B z.2, z.1.2 * wgt B z.2)) (0, 0)
def leadB (ss sh : List Pt) (q : Pt) : Bool := decide (led (prodB sh) (ss.zip sh) = (q.1 * prodB sh, q.2 * prodB sh))
def lsum (c : Pt) (B : Int) (zs : List (Pt × Pt)) : Int := (zs.map fun z => sp c z.1 * wgt B z.2).sum
end MD

namespace MD
open PySem PySem.Spec L2
section
variable {X : Cx} {K : PySem.W.Frag} {e tg : Expr} {m ma mb : ME} {n : MA} {pos p : Pos} {es : List Expr} {ff : Bool}
/-! ### x op= e -/
def mAug (i : Nat) (g : G2) (m : ME) : MS := fun E => match E[i]? with
  | some (some (.v d)) => (m E).bind fun r => (g (.c d) r).bind fun r' => r'.pro.bind fun d' => some (.nx (E.set i (some (.v d'))))
  | _ => none
/-! ### a, (b, c) -/
def pickN : D → Option (List D) := fun d => match d with | .tuple [x, .tuple [y, z]] => some [x, y, z] | _ => none
end
end MD

namespace MD
open PySem PySem.Spec L2
section
variable {X : Cx} {K : PySem.W.Frag} {e tg : Expr} {m ma mb : ME} {n : MA} {pos p : Pos} {es : List Expr} {ff : Bool}
/-! ### a // b, b of up to 9000 bits -/
def CDivB (_ j : Int) : Prop := 0 < j ∧ j.natAbs.log2 < 9000
def gDivB : G2 := gIc (fun _ j => decide (0 < j ∧ j.natAbs.log2 < 9000)) fun i j => .int (i / j)
/-! ### [..] * n -/
theorem dpa_rep {H : Hp} {xs : List V} {ds : List D} (h : DpAll K H xs ds) : ∀ k : Nat, DpAll K H (List.replicate k xs).flatten (List.replicate k ds).flatten
  | 0 => .nil
  | k + 1 => by
    rw [List.replicate_succ, List.flatten_cons, List.replicate_succ, List.flatten_cons]
    exact DpAll_app h (dpa_rep h k)
def gRep : G2 := fun x y => match x, y.d with
  | .t (.lst l), .int k => if 0 ≤ k ∧ k < 2 ^ 63 ∧ (Tr.ds l).length * k.toNat ≤ lim then some (.o (List.replicate k.toNat (Tr.ds l)).flatten) else none
  | _, _ => none
theorem s_rep : SOp K rRep gRep := by
  intro x y ra rb rc H W Q hW hx hy hg k
  unfold gRep at hg
  split at hg
  · rename_i l kk ek
    split at hg
    · rename_i hc
      cases hg
      have h2 := hy.dp
      rw [ek] at h2
      cases h2
      obtain ⟨hd, as, lk, nd, fr⟩ := hx
      cases lk with
      | lst g1 g2 =>
        rename_i a vs as'
        have dz : DpAll K (hid W.w H) vs (Tr.ds l) := lks_dp hd (fun a ha => adms_le a ha) l _ _ (fun a ha => fr a (List.mem_cons_of_mem _ ha)) g2
        refine ⟨a, kk, vs, rfl, rfl, g1, by omega, hc.2.1, ?_, fun p hp => ?_⟩
        · rw [DpAll_len dz]; exact Nat.le_trans hc.2.2 lim_line
        · obtain ⟨q1, q2⟩ := new_o hW hp (dpa_rep dz kk.toNat)
          exact k _ _ (same_new hp) q1 q2
    · cases hg
  · cases hg
/-! ### a comprehension over an own list of data -/
def leafy : List Tr → Bool
  | [] => true
  | .leaf _ :: l => leafy l
  | _ :: _ => false
def mLcV (is : List Nat) (pick : D → Option (List D)) (i : Nat) (mt : MT) (me : ME) : ME := fun E => match E[i]? with
  | some (some (.t (.lst l))) => if l.length ≤ lim ∧ leafy l = true then (lcD is pick true mt me (wipeE E is) (Tr.ds l)).map R.o else none
  | _ => none
end
end MD

namespace MD
open PySem PySem.Spec L2
def Bd (p : Pt) : Prop := p.1.natAbs < 2 ^ 70 ∧ p.2.natAbs < 2 ^ 70
instance (p : Pt) : Decidable (Bd p) := by unfold Bd; infer_instance
def dueS (ss sh : List Pt) (q : Pt) : Bool := decide (sh.length = ss.length) && (sh.all isS && leadB ss sh q)
def GoodSh (ss sh : List Pt) (q : Pt) : Prop := sh.length = ss.length ∧ (∀ p ∈ sh, isS p = true ∧ p.2 ≤ 800) ∧ leadB ss sh q = true
def encL (sh : List Pt) : D := .list (sh.map eP)
end MD
namespace MD
open PySem PySem.Spec L2
theorem mAndV_t {a b : ME} {E : Ev} {r : R} (h1 : a E = some (.c (.bool true))) (h2 : b E = some r) : mAndV a b E = some r := by unfold mAndV; rw [h1]; exact h2
theorem mAndV_f {a b : ME} {E : Ev} (h1 : a E = some (.c (.bool false))) : mAndV a b E = some (.c (.bool false)) := by unfold mAndV; rw [h1]; rfl
end MD

namespace MD
open PySem PySem.Spec L2
/-! ### arguments without a star, many at once -/
def noStar : Expr → Bool
  | .Starred _ _ => false
  | _ => true
theorem star_of {a : Expr} {es : List Expr} {env : Env} (h : noStar a = true) : starEach (a :: es) env = (false, eval a env) :: starEach es env := by
  cases a with
  | Starred _ _ => cases h
  | _ => rfl
theorem m_acons1 {X : Cx} {a : Expr} {ma : ME} {es : List Expr} {n : MA} (ha : PE X a (tM X.K ma)) (hr : PA X es (tMA X.K n)) (h : noStar a = true := by rfl) : PA X (a :: es) (tMA X.K (mCons ma n)) := m_acons ha hr (star_of h)
theorem m_an2 {X : Cx} {a1 a2 : Expr} {m1 m2 : ME} (h1 : PE X a1 (tM X.K m1)) (h2 : PE X a2 (tM X.K m2)) (s1 : noStar a1 = true := by rfl) (s2 : noStar a2 = true := by rfl) : PA X [a1, a2] (tMA X.K (mCons m1 (mCons m2 mNil))) := (m_acons1 h1 (m_acons1 h2 m_anil s2) s1)
theorem m_an3 {X : Cx} {a1 a2 a3 : Expr} {m1 m2 m3 : ME} (h1 : PE X a1 (tM X.K m1)) (h2 : PE X a2 (tM X.K m2)) (h3 : PE X a3 (tM X.K m3)) (s1 : noStar a1 = true := by rfl) (s2 : noStar a2 = true := by rfl) (s3 : noStar a3 = true := by rfl) : PA X [a1, a2, a3] (tMA X.K (mCons m1 (mCons m2 (mCons m3 mNil)))) := (m_acons1 h1 (m_acons1 h2 (m_acons1 h3 m_anil s3) s2) s1)
theorem m_an4 {X : Cx} {a1 a2 a3 a4 : Expr} {m1 m2 m3 m4 : ME} (h1 : PE X a1 (tM X.K m1)) (h2 : PE X a2 (tM X.K m2)) (h3 : PE X a3 (tM X.K m3)) (h4 : PE X a4 (tM X.K m4)) (s1 : noStar a1 = true := by rfl) (s2 : noStar a2 = true := by rfl) (s3 : noStar a3 = true := by rfl) (s4 : noStar a4 = true := by rfl) : PA X [a1, a2, a3, a4] (tMA X.K (mCons m1 (mCons m2 (mCons m3 (mCons m4 mNil))))) := (m_acons1 h1 (m_acons1 h2 (m_acons1 h3 (m_acons1 h4 m_anil s4) s3) s2) s1)
theorem m_an7 {X : Cx} {a1 a2 a3 a4 a5 a6 a7 : Expr} {m1 m2 m3 m4 m5 m6 m7 : ME} (h1 : PE X a1 (tM X.K m1)) (h2 : PE X a2 (tM X.K m2)) (h3 : PE X a3 (tM X.K m3)) (h4 : PE X a4 (tM X.K m4)) (h5 : PE X a5 (tM X.K m5)) (h6 : PE X a6 (tM X.K m6)) (h7 : PE X a7 (tM X.K m7)) (s1 : noStar a1 = true := by rfl) (s2 : noStar a2 = true := by rfl) (s3 : noStar a3 = true := by rfl) (s4 : noStar a4 = true := by rfl) (s5 : noStar a5 = true := by rfl) (s6 : noStar a6 = true := by rfl) (s7 : noStar a7 = true := by rfl) : PA X [a1, a2, a3, a4, a5, a6, a7] (tMA X.K (mCons m1 (mCons m2 (mCons m3 (mCons m4 (mCons m5 (mCons m6 (mCons m7 mNil)))))))) := (m_acons1 h1 (m_acons1 h2 (m_acons1 h3 (m_acons1 h4 (m_acons1 h5 (m_acons1 h6 (m_acons1 h7 m_anil s7) s6) s5) s4) s3) s2) s1)
theorem fsi_K {f : Expr} {l : List Expr} {k : List Keyword} {p : Pos} {env : Env} : ∀ x, foldedSetIterable (.Call f l k p) env x = pure x := fun _ => rfl
theorem fsi_N {x0 : Str} {p : Pos} {env : Env} : ∀ x, foldedSetIterable (.Name x0 p) env x = pure x := fun _ => rfl
end MD

namespace MD
open PySem PySem.Spec L2
/-! ### small steps of mirrors -/
theorem mLst_o {n : MA} {E : Ev} {rs : List R} {ds : List D} (h : n E = some rs) (hl : rs.length ≤ lim) (hp : pros rs = some ds) : mLst n E = some (.o ds) := by
  unfold mLst
  rw [h]
  show (if rs.length ≤ lim then (pros rs).map R.o else none) = _
  rw [if_pos hl, hp]
  rfl
theorem mCons_eq {m : ME} {n : MA} {E : Ev} {x : R} {xs : List R} (h : m E = some x) (h' : n E = some xs) : mCons m n E = some (x :: xs) := by
  unfold mCons
  rw [h]
  show (n E).bind _ = _
  rw [h']
  rfl
theorem mNil_eq (E : Ev) : mNil E = some [] := rfl
theorem flat_rep {α : Type} (d : α) : ∀ n : Nat, (List.replicate n [d]).flatten = List.replicate n d
  | 0 => rfl
  | n + 1 => by rw [List.replicate_succ, List.flatten_cons, flat_rep d n]; rfl
theorem rep_cond {n : Nat} (h : n ≤ 1000) : 0 ≤ (n : Int) ∧ (n : Int) < 2 ^ 63 ∧ 1 * (n : Int).toNat ≤ lim := ⟨by omega, by omega, by rw [Int.toNat_natCast, Nat.one_mul]; exact Nat.le_trans h (by decide)⟩
theorem rep_o (d : D) (n : Nat) (h : n ≤ 1000) : gRep (.o [d]) (.c (.int n)) = some (.o (List.replicate n d)) := by
  have e : gRep (.o [d]) (.c (.int n)) = if 0 ≤ (n : Int) ∧ (n : Int) < 2 ^ 63 ∧ (Tr.ds ([d].map .leaf)).length * (n : Int).toNat ≤ lim then some (R.o (List.replicate (n : Int).toNat (Tr.ds ([d].map .leaf))).flatten) else none := rfl
  rw [e, ds_leaf, List.length_singleton, if_pos (rep_cond h), Int.toNat_natCast, flat_rep]
theorem sl_eq {m : ME} {ml mh : Ev → Option (Option Int)} {E : Ev} {x : R} {lo hi : Option Int} (h : m E = some x) (hl : ml E = some lo) (hh : mh E = some hi) : mSl m ml mh E = gCut x lo hi := by
  unfold mSl
  rw [h]
  show (ml E).bind _ = _
  rw [hl]
  show (mh E).bind _ = _
  rw [hh]
  rfl
end MD

namespace MD
open PySem PySem.Spec L2
section
variable {X : Cx} {K : PySem.W.Frag} {e : Expr} {n : MA} {pos : Pos} {ff : Bool}
/-! ### x.f.append(e), x an own object of one field -/
def mAppF (i : Nat) (C : Addr) (f : Str) (n : MA) : MS := fun E => match E[i]? with
  | some (some (.t (.obj C' [f'] [.lst l]))) => if C' = C ∧ f' = f then (n E).bind fun rs => (pros rs).bind fun ds => (match ds with | [d] => if l.length < lim then some (.nx (E.set i (some (.t (.obj C' [f'] [.lst (l ++ [.leaf d])]))))) else none | _ => none) else none
  | _ => none
/-! ### one of two ways, a statement -/
def mAltS (m1 m2 : MS) : MS := fun E => match m1 E with | some r => some r | none => m2 E
end
end MD

namespace MD
open PySem PySem.Spec L2
/-! ### borrowed things handed on -/
end MD

namespace MD
open PySem PySem.Spec L2
/-! ### dicts whose keys are tuples: a dict comprehension -/
section
variable {X : Cx} {pins : List (Addr × Obj)} {σ : L2.St} {H : Hp} {s : Shared} {A : Around} {E : Value → Shared → Prop} {a b : Addr} {kvs : List (List Key × V)} {k : List Key} {v : V} {r : Value}
end
section
variable {X : Cx}
def tDc (wi : TI) (g : TG) (tt : TT) (tk tv : TE) (vs : List Nat) : TE := fun σ H Q => wi σ H fun J H1 => ∀ D, H1 D = none → ∃ W : Nat → Nat → Hp → Prop, (∃ m, W 0 m (upd H1 D (.dT []))) ∧ ∀ i m H, W i m H →
  (J.stop i H ∧ Q (.ref D) H) ∨ (J.go i H ∧ ∃ Nx : Hp → Prop, (∀ H', Nx H' → ∃ m', m' < m ∧ W (i + 1) m' H') ∧ ∀ x H', J.yld i H x H' → g x (wipe σ vs) H' fun σ2 H2 => wipe σ2 vs = wipe σ vs ∧ tt σ2 H2 fun b H3 =>
    if b = true then tk σ2 H3 fun y H4 => tv σ2 H4 fun z H5 => ∃ kvs k b, H5 D = some (.dT kvs) ∧ y = .ref b ∧ H5 b = some (.tup (k.map kV)) ∧ kvs.length < sizeLine ∧ Nx (upd H5 D (.dT (putK kvs k z))) else Nx H3)
end
end MD

namespace MD
open PySem PySem.Spec L2
/-! ### keys -/
abbrev MK := Ev → Option (List Key)
def tMK (K : PySem.W.Frag) (m : MK) : TE := fun σ H Q => ∃ E W k, Held K H W σ E ∧ m E = some k ∧ ∀ b H', Same H H' → H' b = some (.tup (k.map kV)) → Q (.ref b) H'
def keyOf : List D → Option (List Key)
  | [] => some []
  | .int i :: ds => (keyOf ds).map (Sum.inl i :: ·)
  | _ => none
section
variable {X : Cx} {K : PySem.W.Frag} {e a b o i : Expr} {es : List Expr} {m ma mb : ME} {n : MA} {mk : MK} {pos p p2 pos' : Pos} {ff : Bool}
def mKT (n : MA) : MK := fun E => (n E).bind fun rs => if rs.length ≤ lim then keyOf (rs.map R.d) else none
def mKC (m : ME) : MK := fun E => (m E).bind fun r => match r.d with | .list l => keyOf l | _ => none
/-! ### reading -/
theorem RA.dct {H : Hp} {W : WM} {v : V} {r : R} {ks : List (List Key)} {l : List D} (h : RA K H W v r) (e : r.d = .dict ks l) : ∃ a kvs, v = .ref a ∧ Rd H a (.dT kvs) ∧ kvs.map (·.1) = ks ∧ DpAll K (hid W.z H) (kvs.map (·.2)) l ∧ (r.cl = true → DpAll K (hid W.w H) (kvs.map (·.2)) l) := by
  have one : ∀ {M : Msk} {v : V}, Dp K (hid M H) v (.dict ks l) → ∃ a kvs, v = .ref a ∧ Rd H a (.dT kvs) ∧ kvs.map (·.1) = ks ∧ DpAll K (hid M H) (kvs.map (·.2)) l := fun {M v} q => by
    cases q with | dct q1 q2 => exact ⟨_, _, rfl, q1.elim (fun z => .inl (hid_eq.mp z).2) fun ⟨o, z⟩ => .inr ⟨o, (hid_eq.mp z).2⟩, rfl, q2⟩
  cases hc : r.cl with
  | true =>
    have q := h.cln hc
    rw [e] at q
    obtain ⟨a, kvs, e1, e2, e3, e4⟩ := one q
    exact ⟨a, kvs, e1, e2, e3, Dpam e4 (hid_mono WM.zw), fun _ => e4⟩
  | false =>
    have q := h.dz
    rw [e] at q
    obtain ⟨a, kvs, e1, e2, e3, e4⟩ := one q
    exact ⟨a, kvs, e1, e2, e3, e4, fun z => by cases z⟩
def dlook : List (List Key) → List D → List Key → Option D
  | k' :: ks, d :: ds, k => if k' = k then some d else dlook ks ds k
  | _, _, _ => none
def mDGet (m : ME) (mk : MK) : ME := fun E => (m E).bind fun x => (mk E).bind fun k => match x.d with | .dict ks ds => (dlook ks ds k).map (R.mk' x.cl) | _ => none
def dhas : List (List Key) → List Key → Bool
  | [], _ => false
  | k' :: ks, k => if k' = k then true else dhas ks k
def mDIn (neg : Bool) (mk : MK) (m : ME) : ME := fun E => (mk E).bind fun k => (m E).bind fun x => match x.d with | .dict ks _ => some (.c (.bool (neg != dhas ks k))) | _ => none
/-! ### making and changing -/
def R.dd (ks : List (List Key)) (l : List D) : R := .t (.dct ks (l.map .leaf))
theorem new_d {H : Hp} {W : WM} {p : Addr} {kvs : List (List Key × V)} {l : List D} (hW : Dom W.w H) (h : H p = none) (ha : DpAll K (hid W.w H) (kvs.map (·.2)) l) : RA K (upd H p (.dT kvs)) W (.ref p) (.dd (kvs.map (·.1)) l) ∧ RF H (upd H p (.dT kvs)) (.ref p) (.dd (kvs.map (·.1)) l) := by
  refine ⟨⟨hW.grow (same_new h), [p], .dct upd_same (lks_fl ?_), by simp, fun a ha => by cases List.mem_singleton.mp ha; exact hW.free h⟩, ?_⟩
  · rw [adms_one]
    exact Dpam ha (hid_new h)
  · intro K' M as hl a haa
    obtain ⟨a', kvs', as', e1, e2, e3, e4, e5⟩ := lk_dct hl
    cases e1
    rw [upd_same] at e3
    cases e3
    obtain ⟨z, _⟩ := fl_lks e5
    subst z
    rw [e2] at haa
    rw [List.mem_singleton.mp haa]
    exact h
def mDNew : ME := fun _ => some (.dd [] [])
theorem m_dnew : PE X (.Dict [] [] pos) (tM X.K mDNew) := pe_imp pe_dnewT fun σ H Q ⟨E, W, rc, hH, hm, k⟩ => by
  cases hm
  intro p hp
  obtain ⟨q1, q2⟩ := new_d (K := X.K) (kvs := []) (l := []) hH.dom hp .nil
  exact k _ _ (same_new hp) q1 q2
def putDk (ks : List (List Key)) (k : List Key) : List (List Key) := if dhas ks k = true then ks else ks ++ [k]
def repD : List (List Key) → List D → List Key → D → List D
  | k' :: ks, d' :: ds, k, d => (if k' = k then d else d') :: repD ks ds k d
  | _, _, _, _ => []
def putDv (ks : List (List Key)) (ds : List D) (k : List Key) (d : D) : List D := if dhas ks k = true then repD ks ds k d else ds ++ [d]
end
end MD

namespace MD
open PySem PySem.Spec L2
section
variable {X : Cx} {K : PySem.W.Frag} {e a b o i value tg : Expr} {es : List Expr} {m ma mb : ME} {n : MA} {mk : MK} {pos p p2 pos' : Pos} {ff : Bool}
def dcD (is : List Nat) (pick : D → Option (List D)) (c : Bool) (mt : MT) (mk : MK) (mv : ME) (E0 : Ev) : List D → List (List Key) → List D → Option (List (List Key) × List D)
  | [], ks, ds => some (ks, ds)
  | d :: l, ks, ds => if c || flat d then (pick d).bind fun qs => (mt (setAllE E0 is qs)).bind fun b => if b = true then (mk (setAllE E0 is qs)).bind fun k => (mv (setAllE E0 is qs)).bind fun x => x.pro.bind fun y => dcD is pick c mt mk mv E0 l (putDk ks k) (putDv ks ds k y) else dcD is pick c mt mk mv E0 l ks ds else none
def mDc (is : List Nat) (pick : D → Option (List D)) (mi : MI) (mt : MT) (mk : MK) (mv : ME) : ME := fun E => (mi E).bind fun cl => if cl.2.length ≤ lim then (dcD is pick cl.1 mt mk mv (wipeE E is) cl.2 [] []).map fun p => R.dd p.1 p.2 else none
end
end MD

namespace L2
open PySem PySem.Spec PyProof.Rows
section
variable {prog : Program} {w : World} {A : Around} {R : Result → Shared → Prop} {s : Shared} {elt t0 i0 t1 i1 t2 i2 : Expr} {ifs0 ifs1 ifs2 : List Expr} {scope : Scope} {pos : Pos} {it acc : Value} {env : Env}
end
section
variable {X : Cx}
def tLc3 (wi : TI) (g : TG) (tt : TT) (wi1 : TI) (g1 : TG) (tt1 : TT) (wi2 : TI) (g2 : TG) (tt2 : TT) (te : TE) (vs vs1 vs2 : List Nat) : TE := fun σ H Q => wi σ H fun J H1 => ∀ D, H1 D = none → ∃ W : Nat → Nat → Hp → Prop, (∃ m, W 0 m (upd H1 D (.lst []))) ∧ ∀ i m H, W i m H →
  (J.stop i H ∧ Q (.ref D) H) ∨ (J.go i H ∧ ∃ Nx : Hp → Prop, (∀ H', Nx H' → ∃ m', m' < m ∧ W (i + 1) m' H') ∧ ∀ x H', J.yld i H x H' → g x (wipe σ vs) H' fun σ2 H2 => wipe σ2 vs = wipe σ vs ∧ tt σ2 H2 fun b H3 =>
    if b = true then wi1 σ2 H3 fun J1 H4 => ∃ W1 : Nat → Nat → Hp → Prop, (∃ m, W1 0 m H4) ∧ ∀ j k H, W1 j k H →
      (J1.stop j H ∧ Nx H) ∨ (J1.go j H ∧ ∃ Nx1 : Hp → Prop, (∀ H', Nx1 H' → ∃ k', k' < k ∧ W1 (j + 1) k' H') ∧ ∀ x H', J1.yld j H x H' → g1 x (wipe σ2 vs1) H' fun σ3 H5 => wipe σ3 vs1 = wipe σ2 vs1 ∧ tt1 σ3 H5 fun b H6 =>
        if b = true then wi2 σ3 H6 fun J2 H7 => ∃ W2 : Nat → Nat → Hp → Prop, (∃ m, W2 0 m H7) ∧ ∀ j2 k2 H, W2 j2 k2 H →
          (J2.stop j2 H ∧ Nx1 H) ∨ (J2.go j2 H ∧ ∃ Nx2 : Hp → Prop, (∀ H', Nx2 H' → ∃ k', k' < k2 ∧ W2 (j2 + 1) k' H') ∧ ∀ x H', J2.yld j2 H x H' → g2 x (wipe σ3 vs2) H' fun σ4 H8 => wipe σ4 vs2 = wipe σ3 vs2 ∧ tt2 σ4 H8 fun b H9 =>
            if b = true then te σ4 H9 fun y H10 => ∃ acc, H10 D = some (.lst acc) ∧ acc.length < sizeLine ∧ Nx2 (upd H10 D (.lst (acc ++ [y]))) else Nx2 H9)
        else Nx1 H6)
    else Nx H3)
end
end L2

namespace MD
open PySem PySem.Spec L2
section
variable {X : Cx} {K : PySem.W.Frag} {tg : Expr} {pos : Pos}
def mIn2 (is1 : List Nat) (pick1 : D → Option (List D)) (mi1 : MI) (mt1 : MT) (is2 : List Nat) (pick2 : D → Option (List D)) (mi2 : MI) (mt2 : MT) (me : ME) : Ev → Option (List D) := fun E2 => (mi1 E2).bind fun cl => lc2D is1 pick1 cl.1 mt1 (mIn is2 pick2 mi2 mt2 me) (wipeE E2 (is1 ++ is2)) cl.2
def mLc33 (vs is : List Nat) (pick : D → Option (List D)) (mi : MI) (mt : MT) (is1 : List Nat) (pick1 : D → Option (List D)) (mi1 : MI) (mt1 : MT) (is2 : List Nat) (pick2 : D → Option (List D)) (mi2 : MI) (mt2 : MT) (me : ME) : ME := fun E => (mi E).bind fun cl =>
  (lc2D is pick cl.1 mt (mIn2 is1 pick1 mi1 mt1 is2 pick2 mi2 mt2 me) (wipeE E vs) cl.2).bind fun res => if res.length ≤ lim then some (.o res) else none
end
end MD

namespace MD
open PySem PySem.Spec L2
section
variable {X : Cx} {K : PySem.W.Frag} {e a b o i value tg : Expr} {es : List Expr} {m ma mb : ME} {n : MA} {mk : MK} {pos p p2 pos' : Pos} {ff : Bool}
/-! ### d[k] = v -/
def mDPut (j : Nat) (mk : MK) (m : ME) : MS := fun E => (m E).bind fun r => r.pro.bind fun d => (mk E).bind fun k => match E[j]? with
  | some (some (.t (.dct ks l))) => if leafy l = true ∧ l.length < lim then some (.nx (E.set j (some (.t (.dct (putDk ks k) ((putDv ks (Tr.ds l) k d).map .leaf)))))) else none
  | _ => none
/-! ### return (x, y), both own things -/
def mRetPP (i j : Nat) : MS := fun E => match E[i]?, E[j]? with
  | some (some (.t T)), some (some (.t T')) => if i ≠ j then some (.rt (.t (.tup [T, T']))) else none
  | _, _ => none
/-! ### sorted, tuple(), t + u -/
def insI (x : Int) : List Int → List Int
  | [] => [x]
  | y :: l => if x ≤ y then x :: y :: l else y :: insI x l
def srtI : List Int → List Int
  | [] => []
  | x :: l => insI x (srtI l)
theorem insI_perm (x : Int) : ∀ l : List Int, (insI x l).Perm (x :: l)
  | [] => .refl _
  | y :: l => by
    show (if x ≤ y then x :: y :: l else y :: insI x l).Perm _
    split
    · exact .refl _
    · exact ((insI_perm x l).cons y).trans (.swap x y l)
theorem srtI_perm : ∀ l : List Int, (srtI l).Perm l
  | [] => .refl _
  | x :: l => (insI_perm x (srtI l)).trans ((srtI_perm l).cons x)
def gSorted : GL := fun rs => match rs with
  | [x] => (match x.d with | .list l => (ints? l).bind fun ns => if ns.length < 64 then some (.o ((srtI ns).map .int)) else none | _ => none)
  | _ => none
def gTuple : GL := fun rs => match rs with
  | [x] => (match x.d with | .list l => if x.cl || flats l then some (.c (.tuple l)) else none | .tuple l => some (R.mk' x.cl (.tuple l)) | _ => none)
  | _ => none
theorem s_tuple : SCl K (fun xs H Q => ∃ p ys, xs = [V.ref p] ∧ ((SqL K H p ys ∧ ∀ l, H l = none → Q (.ref l) (upd H l (.tup ys))) ∨ (SqT K H p ys ∧ Q (.ref p) H))) gTuple := by
  intro xs rs rc H W Q hW hx hg k
  unfold gTuple at hg
  split at hg
  · rename_i x
    split at hg
    · rename_i l el
      split at hg
      · rename_i hc
        cases hg
        cases hx with
        | cons h1 t =>
          cases t
          obtain ⟨a, vs, rfl, hs, hd⟩ := h1.items hW el hc
          exact ⟨a, vs, rfl, .inl ⟨hs, fun q hq => k _ _ (same_new hq) (new_t hW hq hd) trivial⟩⟩
      · cases hg
    · rename_i l el
      cases hg
      cases hx with
      | cons h1 t =>
        cases t
        obtain ⟨a, vs, rfl, hs, hz, hw⟩ := h1.seqT el
        refine ⟨a, vs, rfl, .inr ⟨hs, k _ _ (Same.refl H) (mk'_ok hW (fun hc => ?_) ?_) mk'_f⟩⟩
        · have z := h1.cln hc
          rw [el] at z
          exact z
        · have z := h1.dz
          rw [el] at z
          exact z
    · cases hg
  · cases hg
def gCatT : G2 := fun x y => match x.d, y.d with
  | .tuple (d :: l), .tuple (d' :: l') => if (x.cl || flats (d :: l)) && (y.cl || flats (d' :: l')) && decide ((d :: l).length + (d' :: l').length ≤ lim) then some (.c (.tuple (d :: l ++ d' :: l'))) else none
  | _, _ => none
end
end MD

namespace MD
open PySem PySem.Spec L2
section
variable {X : Cx} {K : PySem.W.Frag} {e a b o i value tg : Expr} {es : List Expr} {m ma mb : ME} {n : MA} {mk : MK} {pos p p2 pos' apos cpos : Pos} {ff : Bool}
/-! ### for x in a tuple -/
def mIT (m : ME) : MI := fun E => (m E).bind fun r => match r.d with | .tuple l => some (r.cl, l) | _ => none
/-! ### C(), a class without __init__ -/
def mMk0 (C : Addr) : ME := fun _ => some (.c (.obj C [] []))
structure Mk0 (K : PySem.W.Frag) (C : Addr) : Prop where
  makes : PySem.W.makesIn K C = true
  init : PySem.W.findIn K (.ref C) "__init__" = some (some (.builtin "object.__init__"))
  kp : PySem.W.keepIn K (.ref C) = true
/-! ### [*x, y] -/
def tStar (K : PySem.W.Frag) (te : TE) (t : TA) : TA := fun σ H Q => te σ H fun x H1 => ∃ a xs, x = .ref a ∧ SqL K H1 a xs ∧ t σ H1 fun ys H2 => Q (xs ++ ys) H2
def mStar (m : ME) (n : MA) : MA := fun E => (m E).bind fun r => match r.d with | .list l => (n E).bind fun rs => some (l.map (R.mk' r.cl) ++ rs) | _ => none
theorem RAs.app {H : Hp} {W : WM} : ∀ {vs ws : List V} {rs ss : List R}, RAs K H W vs rs → RAs K H W ws ss → RAs K H W (vs ++ ws) (rs ++ ss)
  | _, _, _, _, .nil, h => h
  | _, _, _, _, .cons a t, h => .cons a (RAs.app t h)
/-! ### x = l.pop() -/
def mPop (i j : Nat) : MS := fun E => match E[j]? with
  | some (some (.t (.lst l))) => if leafy l = true ∧ i ≠ j then (match (Tr.ds l).getLast? with | some d => some (.nx ((E.set j (some (.t (.lst ((Tr.ds l).dropLast.map .leaf))))).set i (some (.v d)))) | none => none) else none
  | _ => none
/-! ### int(x) -/
def gInt : GL := fun rs => match rs with
  | [x] => (match x.d with | .int i => some (.c (.int i)) | .bool k => some (.c (.int (if k then 1 else 0))) | _ => none)
  | _ => none
end
end MD

namespace MD
open PySem PySem.Spec L2
theorem _root_.L2.Room.d1 {k : Nat} {A : Around} (r : Room k A) : A.units + 1 < cLine := by have := r.units; omega
section
variable {X : Cx} {pos : Pos} {ff : Bool}
/-! ### a call without arguments -/
/-! ### literals -/
def litI : Expr → Option Int
  | .Constant (.int i) _ _ => some i
  | .UnaryOp .USub (.Constant (.int i) _ _) _ => some (-i)
  | _ => none
def litIs : List Expr → Option (List D)
  | [] => some []
  | e :: es => (litI e).bind fun i => (litIs es).map fun l => .int i :: l
def litP : Expr → Option D
  | .Tuple es _ _ => (litIs es).bind fun l => if l.length ≤ 100 then some (.tuple l) else none
  | _ => none
def litPs : List Expr → Option (List D)
  | [] => some []
  | e :: es => (litP e).bind fun i => (litPs es).map fun l => i :: l
def mLs (ds : List D) : MA := fun _ => some (ds.map .c)
end
end MD

namespace MD
open PySem PySem.Spec L2
/-! ### zip, drawn by a list: the first tuple lives on, so each further one is new -/
structure ZL (h : Heap) (z TI TO i1 i2 l1 l2 T : Addr) (i : Nat) : Prop where
  zp : ∃ f, h.get? z = some { cls := .type "zip", dict := none, data := .fields #[rawInt (T : Nat), .bool f, .bool false, .ref TI, .ref TO], slots := #[] }
  ti : IsPair h TI (.ref i1) (.ref i2)
  to : ∃ x y, IsPair h TO x y
  h1 : h.IsListIter i1 l1 i
  h2 : h.IsListIter i2 l2 i
section
variable {prog : Program} {w : World} {A : Around} {E : Value → Shared → Prop} {s : Shared} {z TI TO i1 i2 l1 l2 T : Addr} {i : Nat} {xs ys : Array Value} {x y : Value}
theorem ZL.keep {h h' : Heap} (Z : ZL h z TI TO i1 i2 l1 l2 T i) (k : ∀ b ∈ [z, TI, TO, i1, i2], ∀ o, h.get? b = some o → h'.get? b = some o) : ZL h' z TI TO i1 i2 l1 l2 T i := by
  obtain ⟨⟨f, q1⟩, q2, ⟨u, v, q3⟩, ⟨o, e, r⟩, ⟨o', e', r'⟩⟩ := Z
  exact ⟨⟨f, k z (by simp) _ q1⟩, k TI (by simp) _ q2, ⟨u, v, k TO (by simp) _ q3⟩, ⟨o, k i1 (by simp) _ e, r⟩, ⟨o', k i2 (by simp) _ e', r'⟩⟩
end
/-- pairs at ps -/
inductive Zs (H : Hp) : List Addr → List V → List V → Prop
  | nil : Zs H [] [] []
  | cons {p : Addr} {ps : List Addr} {x y : V} {xs ys : List V} : H p = some (.tup [x, y]) → Zs H ps xs ys → Zs H (p :: ps) (x :: xs) (y :: ys)
section
variable {X : Cx} {pins : List (Addr × Obj)} {σ : L2.St} {z TI TO i1 i2 l1 l2 S T : Addr}
end
end MD

namespace MD
open PySem PySem.Spec L2
/-- pairs of a key and a value, as a list has them -/
inductive Prs (K : PySem.W.Frag) (H : Hp) : List V → List (List Key × V) → Prop
  | nil : Prs K H [] []
  | cons {p kb : Addr} {v : V} {k : List Key} {vs : List V} {es : List (List Key × V)} : SqT K H p [.ref kb, v] → H kb = some (.tup (k.map kV)) → Prs K H vs es → Prs K H (.ref p :: vs) ((k, v) :: es)
section
variable {X : Cx} {pins : List (Addr × Obj)} {σ : L2.St} {it l D : Addr}
def putAll (kvs : List (List Key × V)) (es : List (List Key × V)) : List (List Key × V) := es.foldl (fun a e => putK a e.1 e.2) kvs
/-! ### list(zip(a, b)), dict(e), list(range(e)) -/
def tLZ (K : PySem.W.Frag) (ta : TA) : TE := fun σ H Q => ta σ H fun vs H1 => ∃ a b xs ys, vs = [.ref a, .ref b] ∧ SqL K H1 a xs ∧ SqL K H1 b ys ∧ xs.length = ys.length ∧ xs.length ≤ lim ∧ ∀ S H2 ps, Same H1 H2 → H1 S = none → (∀ p ∈ ps, H1 p = none) → H2 S = some (.lst (ps.map .ref)) → Zs H2 ps xs ys → Q (.ref S) H2
def tDL (K : PySem.W.Frag) (ta : TA) : TE := fun σ H Q => ta σ H fun vs H1 => ∃ l xs es, vs = [.ref l] ∧ SqL K H1 l xs ∧ Prs K H1 xs es ∧ es.length ≤ lim ∧ ∀ D, H1 D = none → Q (.ref D) (upd H1 D (.dT (putAll [] es)))
def tLR (ta : TA) : TE := fun σ H Q => ta σ H fun vs H1 => ∃ n : Nat, vs = [.int n] ∧ n ≤ lim ∧ ∀ l, H1 l = none → Q (.ref l) (upd H1 l (.lst ((List.range n).map fun i => V.int (i : Nat))))
end
end MD

namespace MD
open PySem PySem.Spec L2
/-! ### no module's tuple of three numbers -/
def isIv : Value → Bool
  | .int _ _ => true
  | _ => false
def isT3 (o : Obj) : Bool := match o.data with
  | .seq its _ => its.size == 3 && its.toList.all isIv
  | _ => false
def noT3 (K : PySem.W.Frag) : Bool := K.all fun p => !isT3 p.2
def isInl : Key → Bool
  | .inl _ => true
  | .inr _ => false
/-! ### list(zip(a, b)), dict(e), list(range(e)) as mirrors -/
section
variable {X : Cx} {K : PySem.W.Frag} {e a b : Expr} {m ma mb : ME} {n : MA} {pos p p2 pos2 : Pos} {ff : Bool}
def gLZ : GL := fun rs => match rs with
  | [x, y] => (match x.d, y.d with
    | .list l, .list l' => if decide (l.length = l'.length) && decide (l.length ≤ lim) && (x.cl || flats l) && (y.cl || flats l') then some (.o (zips l l')) else none
    | _, _ => none)
  | _ => none
def prD : List D → Option (List (List Key × D))
  | [] => some []
  | .tuple [.tuple kd, d] :: l => (keyOf kd).bind fun k => if k.length = 3 then (prD l).map ((k, d) :: ·) else none
  | _ => none
def dAll (ks : List (List Key)) (ds : List D) : List (List Key × D) → List (List Key) × List D
  | [] => (ks, ds)
  | (k, d) :: es => dAll (putDk ks k) (putDv ks ds k d) es
def mDL (m : ME) : ME := fun E => (m E).bind fun r => match r.d with
  | .list l => if (r.cl || flats l) && decide (l.length ≤ lim) then (prD l).map fun ed => .dd (dAll [] [] ed).1 (dAll [] [] ed).2 else none
  | _ => none
def gLR : GL := fun rs => match rs with
  | [x] => (match x.d with
    | .int i => if 0 ≤ i ∧ i ≤ 100000 then some (.o ((List.range i.toNat).map fun j => D.int (j : Nat))) else none
    | _ => none)
  | _ => none
end
end MD

namespace MD
open PySem PySem.Spec L2
section
variable {X : Cx} {K : PySem.W.Frag} {e a b : Expr} {es : List Expr} {m ma mb : ME} {pos p : Pos} {ff : Bool} {H H1 : Hp} {W : WM} {σ σ' : L2.St} {E E' : Ev}
/-! ### slots laid out anew -/
theorem Held.reslot (h : Held K H W σ E) (f : Nat → Nat) (hf : ∀ i j, f i = f j → i = j) (hl : σ'.length = E'.length) (hE : ∀ i s, E'[i]? = some (some s) → E[f i]? = some (some s) ∧ σ'[i]? = σ[f i]?) : Held K H W σ' E' := by
  refine ⟨h.dom, hl, fun i d e => ?_, fun i T e => ?_, fun i j T T' x x' as bs M M' c e1 e2 q1 q2 l1 l2 ha hb => ?_⟩
  · obtain ⟨g1, g2⟩ := hE i _ e
    rw [g2]
    exact h.val _ _ g1
  · obtain ⟨g1, g2⟩ := hE i _ e
    rw [g2]
    exact h.own _ _ g1
  · obtain ⟨g1, g2⟩ := hE i _ e1
    obtain ⟨g3, g4⟩ := hE j _ e2
    rw [g2] at q1
    rw [g4] at q2
    exact hf i j (h.inj _ _ T T' x x' as bs M M' c g1 g3 q1 q2 l1 l2 ha hb)
theorem get_app {α : Type} (l r : List α) (i : Nat) : (l ++ r)[i]? = if i < l.length then l[i]? else r[i - l.length]? := by
  split
  · rename_i h; exact List.getElem?_append_left h
  · rename_i h; exact List.getElem?_append_right (Nat.le_of_not_lt h)
theorem Held.pre {τ : L2.St} {F : Ev} (h : Held K H W (σ ++ τ) (E ++ F)) (hl : σ.length = E.length) : Held K H W σ E := h.reslot id (fun _ _ e => e) hl fun i s e => by
  have hi : i < E.length := (List.getElem?_eq_some_iff.mp e).1
  show (E ++ F)[i]? = _ ∧ _ = (σ ++ τ)[i]?
  rw [get_app, get_app, if_pos hi, if_pos (by omega)]
  exact ⟨e, rfl⟩
def setSl (E : Ev) : List Nat → List Sl → Ev
  | i :: is, s :: ss => setSl (E.set i (some s)) is ss
  | _, _ => E
/-! ### several things, each to be an own one or not -/
def slotOf (o : Bool) (r : R) : Option Sl := match o, r with
  | true, .t T => some (.t T)
  | true, _ => none
  | false, r => r.pro.map .v
def evs : List (Bool × ME) → Ev → Option (List Sl)
  | [], _ => some []
  | (o, m) :: ms, E => (m E).bind fun r => (slotOf o r).bind fun s => (evs ms E).map (s :: ·)
def tMP (K : PySem.W.Frag) (ms : List (Bool × ME)) : TA := fun σ H Q => ∃ E W τ F ss, σ.length = E.length ∧ Held K H W (σ ++ τ) (E ++ F) ∧ evs ms E = some ss ∧
  ∀ vs H' O', Same H H' → vs.length = ss.length → Held K H' ⟨W.z, O'⟩ (σ ++ (τ ++ vs.map some)) (E ++ (F ++ ss.map some)) → Fr false H W.o H' O' → Q vs H'
def mParM (is : List Nat) (ms : List (Bool × ME)) : MS := fun E => (evs ms E).bind fun ss => if is.length = ss.length ∧ ss.length ≤ 100 then some (.nx (setSl E is ss)) else none
/-- a written tuple of pairs, by its expression alone -/
def litTP : Expr → Option D
  | .Tuple es _ _ => (litPs es).bind fun l => if l.length ≤ 100 then some (.tuple l) else none
  | _ => none
end
end MD

namespace MD
open PySem PySem.Spec L2
section
variable {X : Cx} {K : PySem.W.Frag} {e a b : Expr} {st : Stmt} {m mb : ME} {s : MS} {pos : Pos} {ff : Bool} {H : Hp} {W : WM} {σ : L2.St} {E : Ev}
/-! ### an own thing given up: from here on nobody changes it -/
def mDis (i : Nat) (s : MS) : MS := fun E => match E[i]? with
  | some (some (.t T)) => s (E.set i (some (.v T.d)))
  | some (some (.v _)) => s E
  | _ => none
/-! ### an own list of data + a list -/
def lvs : List Tr → Option (List D)
  | [] => some []
  | .leaf d :: l => (lvs l).map (d :: ·)
  | _ => none
theorem lvs_map : ∀ l : List D, lvs (l.map .leaf) = some l
  | [] => rfl
  | d :: l => by show (lvs (l.map .leaf)).map (d :: ·) = _; rw [lvs_map l]; rfl
theorem lvs_eq : ∀ {l : List Tr} {ds : List D}, lvs l = some ds → l = ds.map .leaf
  | [], ds, h => by cases h; rfl
  | .leaf d :: l, ds, h => by
    unfold lvs at h
    obtain ⟨r, h1, h2⟩ := Option.map_eq_some_iff.mp h
    subst h2
    rw [lvs_eq h1]
    rfl
  | .lst _ :: _, _, h => by cases h
  | .tup _ :: _, _, h => by cases h
  | .obj _ _ _ :: _, _, h => by cases h
  | .dct _ _ :: _, _, h => by cases h
def catR (l : List D) (y : R) : Option R := match y.d with
  | .list l' => if (y.cl || flats l') && decide (l.length + l'.length ≤ lim) then some (.o (l ++ l')) else none
  | _ => none
def mCatO (i : Nat) (mb : ME) : ME := fun E => match E[i]? with
  | some (some (.t (.lst ts))) => (lvs ts).bind fun l => (mb E).bind fun y => catR l y
  | _ => none
theorem catO_of {i : Nat} : ∀ σ H Q, tM K (mCatO i mb) σ H Q → tOp (rAddG K) (tVar i) (tM K mb) σ H Q := fun σ H Q ⟨E, W, rc, hH, hm, k⟩ => by
  unfold mCatO at hm
  split at hm
  · rename_i ts et
    obtain ⟨l, el, hm1⟩ := bindSome hm
    obtain ⟨y, ey, hm2⟩ := bindSome hm1
    clear hm hm1
    have := lvs_eq el
    subst this
    obtain ⟨x, as, h1, -⟩ := hH.own i _ et
    refine ⟨x, h1, E, W, y, hH, ey, fun v H2 s2 r2 f2 => ?_⟩
    have hG := hH.grow s2
    obtain ⟨x', as', g1, g2, -⟩ := hG.own i _ et
    rw [h1] at g1
    cases g1
    unfold catR at hm2
    split at hm2
    · rename_i l' el'
      split at hm2
      · rename_i hc
        cases hm2
        simp only [Bool.and_eq_true, decide_eq_true_eq] at hc
        obtain ⟨p, xs, rfl, -, q1, q2⟩ := lk_o (p := 0) (l := l) g2
        obtain ⟨b, ys, rfl, q3, q4⟩ := r2.items hG.dom el' hc.1
        refine .inr ⟨p, b, xs, ys, rfl, rfl, .inl (.inl q1), q3, ?_, fun c hp => ?_⟩
        · rw [DpAll_len q2, DpAll_len q4]
          exact Nat.le_trans hc.2 lim_line
        · obtain ⟨w1, w2⟩ := new_o hG.dom hp (DpAll_app q2 q4)
          exact k _ _ (s2.trans (same_new hp)) w1 (w2.anti s2)
      · cases hm2
    · cases hm2
  · cases hm
theorem m_catO {i : Nat} (ha : PE X a (tVar i)) (hb : PE X b (tM X.K mb)) : PE X (.BinOp a .Add b pos) (tM X.K (mCatO i mb)) := pe_imp (pe_op op_addG ha hb) catO_of
theorem mCatO_eq {i : Nat} {l l' : List D} {y : R} (h : E[i]? = some (some (.t (Tr.fl l)))) (hy : mb E = some y) (ed : y.d = .list l') (hc : (y.cl || flats l') = true) (hl : l.length + l'.length ≤ lim) : mCatO i mb E = some (.o (l ++ l')) := by
  unfold mCatO
  rw [h]
  show (lvs (l.map .leaf)).bind _ = _
  rw [lvs_map]
  show (mb E).bind _ = _
  rw [hy]
  show catR l y = _
  unfold catR
  rw [ed]
  show (if ((y.cl || flats l') && decide (l.length + l'.length ≤ lim)) = true then _ else _) = _
  rw [hc, decide_eq_true hl]
  rfl
end
end MD

namespace MD
open PySem PySem.Spec L2
/-! ### lists and tuples of numbers as data -/
def encI (l : List Int) : D := .list (l.map .int)
def encT (l : List Int) : D := .tuple (l.map .int)
def keyI (l : List Int) : List Key := l.map Sum.inl
def pI (i : Int) : PySem.PyData := .int i
theorem sh_i (i : Int) : okD (.int i) = true := rfl
theorem gEq_enc {α : Type} [DecidableEq α] (enc : α → D) (hs : ∀ a, okD (enc a) = true) (he : ∀ a b, deq (enc a) (enc b) = decide (a = b)) {x y : R} {a b : α} (hx : x.d = enc a) (hy : y.d = enc b) : gEq x y = some (.c (.bool (decide (a = b)))) := by
  unfold gEq
  rw [hx, hy, hs, hs, he]
  rfl
/-! ### threes and fours -/
def thI (n : Nat) : List (List Int) := (List.range n).flatMap fun i => ((List.range n).filter (i < ·)).flatMap fun j => ((List.range n).filter (j < ·)).map fun (k : Nat) => [(i : Int), (j : Int), (k : Int)]
def fI (n : Nat) : List (List Int) := (thI n).flatMap fun t => ((List.range n).filter fun (m : Nat) => decide (t.getD 2 0 < (m : Int))).map fun (m : Nat) => t ++ [(m : Int)]
def t4 : List Int → List (List Int)
  | [i, j, k, m] => [[i, j, k], [i, j, m], [i, k, m], [j, k, m]]
  | _ => []
/-- the sign of a three -/
def sgn (n : Nat) (ss : List Int) (t : List Int) : Int := ss.getD ((thI n).idxOf t) 0
def chg : List Int → Nat
  | a :: b :: l => (if a = b then 0 else 1) + chg (b :: l)
  | _ => 0
def bad (n : Nat) (ss : List Int) (f : List Int) : Bool := decide (1 < chg ((t4 f).map (sgn n ss)))
def brk (n : Nat) (ss : List Int) : Option (List Int) := (fI n).find? (bad n ss)
def good (n : Nat) (ss : List Int) : Bool := (fI n).all fun f => !bad n ss f
end MD

namespace MD
open PySem PySem.Spec L2
/-! ### exchanges -/
def bf : List Nat → Nat → Nat → Prop
  | [], _, _ => False
  | c :: l, x, y => (c = x ∧ y ∈ l) ∨ bf l x y
theorem bf_app (l2 : List Nat) (x y : Nat) : ∀ l1 : List Nat, bf (l1 ++ l2) x y ↔ bf l1 x y ∨ (x ∈ l1 ∧ y ∈ l2) ∨ bf l2 x y
  | [] => by simp [bf]
  | c :: l1 => by
    show ((c = x ∧ y ∈ l1 ++ l2) ∨ bf (l1 ++ l2) x y) ↔ ((c = x ∧ y ∈ l1) ∨ bf l1 x y) ∨ (x ∈ c :: l1 ∧ y ∈ l2) ∨ bf l2 x y
    rw [bf_app l2 x y l1]
    simp only [List.mem_append, List.mem_cons]
    constructor
    · rintro (⟨rfl, h | h⟩ | h | ⟨h1, h2⟩ | h)
      · exact .inl (.inl ⟨rfl, h⟩)
      · exact .inr (.inl ⟨.inl rfl, h⟩)
      · exact .inl (.inr h)
      · exact .inr (.inl ⟨.inr h1, h2⟩)
      · exact .inr (.inr h)
    · rintro ((⟨rfl, h⟩ | h) | ⟨rfl | h1, h2⟩ | h)
      · exact .inl ⟨rfl, .inl h⟩
      · exact .inr (.inl h)
      · exact .inl ⟨rfl, .inr h2⟩
      · exact .inr (.inr (.inl ⟨h1, h2⟩))
      · exact .inr (.inr (.inr h))
theorem bf_mem : ∀ {l : List Nat} {x y : Nat}, bf l x y → x ∈ l ∧ y ∈ l
  | c :: l, x, y, .inl ⟨e, h⟩ => ⟨by rw [e]; exact List.mem_cons_self, List.mem_cons_of_mem _ h⟩
  | c :: l, x, y, .inr h => ⟨List.mem_cons_of_mem _ (bf_mem h).1, List.mem_cons_of_mem _ (bf_mem h).2⟩
theorem bf_asym : ∀ {l : List Nat} {x y : Nat}, l.Nodup → bf l x y → bf l y x → False
  | c :: l, x, y, hn, h1, h2 => by
    obtain ⟨hc, hn⟩ := List.nodup_cons.mp hn
    rcases h1 with ⟨rfl, h1⟩ | h1
    · rcases h2 with ⟨rfl, h2⟩ | h2
      · exact hc h1
      · exact hc (bf_mem h2).2
    · rcases h2 with ⟨rfl, h2⟩ | h2
      · exact hc (bf_mem h1).2
      · exact bf_asym hn h1 h2
/-- two neighbours exchanged -/
theorem bf_swap {l1 l2 : List Nat} {a b x y : Nat} (h : bf (l1 ++ a :: b :: l2) x y) : bf (l1 ++ b :: a :: l2) x y ∨ (x = a ∧ y = b) := by
  rw [bf_app] at h ⊢
  rcases h with h | ⟨h1, h2⟩ | (⟨rfl, h⟩ | ⟨rfl, h⟩ | h)
  · exact .inl (.inl h)
  · refine .inl (.inr (.inl ⟨h1, ?_⟩))
    simp only [List.mem_cons] at h2 ⊢
    rcases h2 with h | h | h
    · exact .inr (.inl h)
    · exact .inl h
    · exact .inr (.inr h)
  · rcases List.mem_cons.mp h with rfl | h
    · exact .inr ⟨rfl, rfl⟩
    · exact .inl (.inr (.inr (.inr (.inl ⟨rfl, h⟩))))
  · exact .inl (.inr (.inr (.inl ⟨rfl, List.mem_cons_of_mem _ h⟩)))
  · exact .inl (.inr (.inr (.inr (.inr h))))
theorem bf_pair (l1 l2 : List Nat) (a b : Nat) : bf (l1 ++ a :: b :: l2) a b := by
  rw [bf_app]
  exact .inr (.inr (.inl ⟨rfl, List.mem_cons_self⟩))
inductive Ex : List Nat → List Nat → List ((Nat × Nat) × List Int) → Prop
  | done {row : List Nat} : (∀ l1 a b l2, row = l1 ++ a :: b :: l2 → ¬ a < b) → Ex row [] []
  | step {l1 l2 pl : List Nat} {a b : Nat} {ft : List ((Nat × Nat) × List Int)} : a < b → Ex (l1 ++ b :: a :: l2) pl ft → Ex (l1 ++ a :: b :: l2) (l1.length :: pl) (((a, b), srtI (l1.map fun (i : Nat) => (i : Int))) :: ft)
theorem down_no : ∀ {row : List Nat} {x y : Nat}, (∀ l1 a b l2, row = l1 ++ a :: b :: l2 → ¬ a < b) → bf row x y → ¬ x < y := by
  intro row
  induction row with
  | nil => intro x y _ h; exact h.elim
  | cons c l ih =>
    intro x y h hb hxy
    have hl : ∀ l1 a b l2, l = l1 ++ a :: b :: l2 → ¬ a < b := fun l1 a b l2 e => h (c :: l1) a b l2 (by rw [e]; rfl)
    rcases hb with ⟨rfl, hy⟩ | hb
    · cases l with
      | nil => cases hy
      | cons d l =>
        have h1 := h [] c d l rfl
        rcases List.mem_cons.mp hy with rfl | hy
        · exact h1 hxy
        · exact ih hl (.inl ⟨rfl, hy⟩) (by omega)
    · exact ih hl hb hxy
theorem nodup_swap {l1 l2 : List Nat} {a b : Nat} (h : (l1 ++ a :: b :: l2).Nodup) : (l1 ++ b :: a :: l2).Nodup := (List.Perm.append_left l1 (List.Perm.swap b a l2)).nodup_iff.mp h |> fun z => z
/-- each two that stand in order are exchanged -/
theorem Ex.all {row pl : List Nat} {ft : List ((Nat × Nat) × List Int)} (h : Ex row pl ft) : ∀ {x y : Nat}, bf row x y → x < y → ∃ f, ((x, y), f) ∈ ft := by
  induction h with
  | done hd => intro x y hb hxy; exact absurd hxy (down_no hd hb)
  | step hab _ ih =>
    intro x y hb hxy
    rcases bf_swap hb with h | ⟨rfl, rfl⟩
    · obtain ⟨f, hf⟩ := ih h hxy
      exact ⟨f, List.mem_cons_of_mem _ hf⟩
    · exact ⟨_, List.mem_cons_self⟩
/-- and only they -/
theorem Ex.only {row pl : List Nat} {ft : List ((Nat × Nat) × List Int)} (h : Ex row pl ft) : ∀ {x y : Nat} {f : List Int}, row.Nodup → ((x, y), f) ∈ ft → bf row x y ∧ x < y := by
  induction h with
  | done hd => intro x y f _ hm; cases hm
  | step hab _ ih =>
    intro x y f hn hm
    rcases List.mem_cons.mp hm with e | hm
    · cases e; exact ⟨bf_pair _ _ _ _, hab⟩
    · obtain ⟨h1, h2⟩ := ih (nodup_swap hn) hm
      rcases bf_swap h1 with h | ⟨rfl, rfl⟩
      · exact ⟨h, h2⟩
      · omega
theorem Ex.keys {row pl : List Nat} {ft : List ((Nat × Nat) × List Int)} (h : Ex row pl ft) : row.Nodup → (ft.map (·.1)).Nodup := by
  induction h with
  | done hd => intro _; exact List.nodup_nil
  | @step l1 l2 pl a b ft hab hx ih =>
    intro hn
    refine List.nodup_cons.mpr ⟨fun hm => ?_, ih (nodup_swap hn)⟩
    obtain ⟨⟨⟨x, y⟩, f⟩, hf, e⟩ := List.mem_map.mp hm
    cases e
    exact bf_asym (nodup_swap hn) (hx.only (nodup_swap hn) hf).1 (bf_pair _ _ _ _)
/-- how many stand in order -/
def asc : List Nat → Nat
  | [] => 0
  | c :: l => (l.filter fun d => decide (c < d)).length + asc l
theorem asc_swap {a b : Nat} (h : a < b) (l2 : List Nat) : ∀ l1 : List Nat, asc (l1 ++ b :: a :: l2) + 1 = asc (l1 ++ a :: b :: l2)
  | [] => by
    have : ¬ b < a := by omega
    simp [asc, h, this]
    omega
  | c :: l1 => by
    have ih := asc_swap h l2 l1
    have e : ((l1 ++ b :: a :: l2).filter fun d => decide (c < d)).length = ((l1 ++ a :: b :: l2).filter fun d => decide (c < d)).length :=
      ((List.Perm.append_left l1 (List.Perm.swap a b l2)).filter _).length_eq
    show ((l1 ++ b :: a :: l2).filter fun d => decide (c < d)).length + asc (l1 ++ b :: a :: l2) + 1 = ((l1 ++ a :: b :: l2).filter fun d => decide (c < d)).length + asc (l1 ++ a :: b :: l2)
    rw [e]
    omega
/-- the places where two neighbours stand in order -/
def ups (row : List Nat) : List Nat := (List.range (row.length - 1)).filter fun p => decide (row.getD p 0 < row.getD (p + 1) 0)
theorem Ex.len {row pl : List Nat} {ft : List ((Nat × Nat) × List Int)} (h : Ex row pl ft) : pl.length = asc row ∧ ft.length = asc row := by
  induction h with
  | @done row hd =>
    suffices h : asc row = 0 by simp [h]
    induction row with
    | nil => rfl
    | cons c l ih =>
      have hl := ih fun l1 a b l2 e => hd (c :: l1) a b l2 (by rw [e]; rfl)
      show (l.filter fun d => decide (c < d)).length + asc l = 0
      rw [hl, Nat.add_zero, List.length_eq_zero_iff, List.filter_eq_nil_iff]
      intro d hm hcd
      exact down_no hd (.inl ⟨rfl, hm⟩) (by simpa using hcd)
  | @step l1 l2 pl a b ft hab _ ih =>
    have := asc_swap hab l2 l1
    simp only [List.length_cons]
    omega
end MD

namespace MD
open PySem PySem.Spec L2
/-! ### exchanges as data -/
def nI (l : List Nat) : List Int := l.map fun (i : Nat) => (i : Int)
def fK (ft : List ((Nat × Nat) × List Int)) : List (List Key) := ft.map fun e => keyI [(e.1.1 : Int), (e.1.2 : Int)]
def fV (ft : List ((Nat × Nat) × List Int)) : List D := ft.map fun e => encI e.2
/-- looking up the feet -/
def footOf (ft : List ((Nat × Nat) × List Int)) (a b : Nat) : List Int := match ft.find? fun e => decide (e.1 = (a, b)) with | some e => e.2 | none => []
/-- the cut that exchanges tell -/
def cutE (n : Nat) (ft : List ((Nat × Nat) × List Int)) : List Int := (thI n).map fun t => if t.getD 1 0 ∈ footOf ft (t.getD 0 0).toNat (t.getD 2 0).toNat then 0 else 1
theorem mDrop_eq {m : ME} {E : Ev} {r : R} (h : m E = some r) : mDrop m E = some (.nx E) := by unfold mDrop; rw [h]; rfl
end MD

namespace MD
open PySem PySem.Spec L2
/-! ### sound data: numbers, None, lists and tuples of them -/
mutual
def snd : D → Bool
  | .int _ => true
  | .none => true
  | .list l => snds l
  | .tuple l => snds l
  | _ => false
def snds : List D → Bool
  | [] => true
  | d :: l => snd d && snds l
end
mutual
def dsz : D → Nat
  | .list l => 1 + dszs l
  | .tuple l => 1 + dszs l
  | _ => 1
def dszs : List D → Nat
  | [] => 0
  | d :: l => dsz d + dszs l
end
mutual
def ddp : D → Nat
  | .list l => 1 + ddps l
  | .tuple l => 1 + ddps l
  | _ => 0
def ddps : List D → Nat
  | [] => 0
  | d :: l => max (ddp d) (ddps l)
end
theorem snds_app : ∀ a b : List D, snds (a ++ b) = (snds a && snds b)
  | [], b => by simp [snds]
  | x :: a, b => by simp [snds, snds_app a b, Bool.and_assoc]
theorem dszs_app : ∀ a b : List D, dszs (a ++ b) = dszs a + dszs b
  | [], b => by simp [dszs]
  | x :: a, b => by simp [dszs, dszs_app a b, Nat.add_assoc]
theorem ddps_app : ∀ a b : List D, ddps (a ++ b) = max (ddps a) (ddps b)
  | [], b => by simp [ddps]
  | x :: a, b => by simp only [List.cons_append, ddps, ddps_app a b]; omega
/-! ### growing the cuts -/
def rowsI (n : Nat) : List (List Int) := (fI n).map fun f => (t4 f).map fun t => ((thI n).idxOf t : Int)
def rstr (s : List Int) (ps : List Int) : List Int := (ps.filter fun p => decide (p < (s.length : Int))).map fun p => s.getD p.toNat 0
def mayB (s ps : List Int) : Bool := decide (chg (rstr s ps) ≤ 1)
def growI (n : Nat) : Nat → List (List Int)
  | 0 => [[]]
  | k + 1 => ((growI n k).flatMap fun s => [s ++ [0], s ++ [1]]).filter fun s => ((rowsI n).filter fun ps => decide ((k : Int) ∈ ps)).all (mayB s)
theorem growI_mem (n : Nat) : ∀ k, ∀ s ∈ growI n k, s.length = k ∧ ∀ x ∈ s, x = 0 ∨ x = 1
  | 0, s, h => by
    have : s = [] := by simpa [growI] using h
    subst this
    exact ⟨rfl, fun _ z => nomatch z⟩
  | k + 1, s, h => by
    have h := (List.mem_filter.mp h).1
    obtain ⟨a, ha, hs⟩ := List.mem_flatMap.mp h
    obtain ⟨h1, h2⟩ := growI_mem n k a ha
    have hs : s = a ++ [0] ∨ s = a ++ [1] := by simpa using hs
    rcases hs with rfl | rfl
    · refine ⟨by rw [List.length_append, h1]; rfl, fun x hx => ?_⟩
      rcases List.mem_append.mp hx with hx | hx
      · exact h2 x hx
      · exact .inl (List.mem_singleton.mp hx)
    · refine ⟨by rw [List.length_append, h1]; rfl, fun x hx => ?_⟩
      rcases List.mem_append.mp hx with hx | hx
      · exact h2 x hx
      · exact .inr (List.mem_singleton.mp hx)
def encB (l : List Bool) : D := .list (l.map .bool)
end MD

namespace MD
open PySem PySem.Spec L2
/-- an answer about a cut: all of it is well (none), or four sticks -/
def encA (CW CB : Addr) : Option (List Int) → D
  | none => .obj CW [] []
  | some f => .obj CB ["four"] [encI f]
/-- an answer about a point: shares, or a line -/
def encS (CS CA : Addr) : List Pt ⊕ Pt → D
  | .inl sh => .obj CS ["shares"] [.list (sh.map eP)]
  | .inr l => .obj CA ["line"] [eP l]
def encZ (z : Nat × List Int) : D := .tuple [.int z.1, encI z.2]
def encQ (z : List Pt × Pt) : D := .tuple [.list (z.1.map eP), eP z.2]
def OkS : List Pt ⊕ Pt → Prop
  | .inl sh => sh.length ≤ 100 ∧ ∀ p ∈ sh, Bd p
  | .inr _ => True
end MD

namespace MD
open PySem PySem.Spec L2
/-! ### what is cut by exchanges is well -/
theorem bf_left {l1 l2 : List Nat} {a b x : Nat} (hn : (l1 ++ a :: b :: l2).Nodup) (h : bf (l1 ++ a :: b :: l2) x a) : x ∈ l1 := by
  have hm := (bf_mem h).1
  rcases List.mem_append.mp hm with hm | hm
  · exact hm
  · exfalso
    rcases List.mem_cons.mp hm with rfl | hm
    · exact bf_asym hn h h
    · have : bf (l1 ++ a :: b :: l2) a x := by rw [bf_app]; exact .inr (.inr (.inl ⟨rfl, hm⟩))
      exact bf_asym hn h this
abbrev Ft := List ((Nat × Nat) × List Int)
theorem Ex.at {row pl : List Nat} {ft : Ft} (h : Ex row pl ft) {x y : Nat} (hb : bf row x y) (hxy : x < y) : ∃ (k : Nat) (f : List Int), ft[k]? = some ((x, y), f) := by
  obtain ⟨f, hf⟩ := h.all hb hxy
  obtain ⟨k, hk⟩ := List.getElem?_of_mem hf
  exact ⟨k, f, hk⟩
theorem srt_mem (l : List Nat) (b : Nat) : (b : Int) ∈ srtI (l.map fun (i : Nat) => (i : Int)) ↔ b ∈ l := by
  rw [(srtI_perm _).mem_iff, List.mem_map]
  constructor
  · rintro ⟨a, ha, e⟩
    have e : (a : Int) = (b : Int) := e
    have : a = b := by omega
    subst this
    exact ha
  · exact fun hb => ⟨b, hb, rfl⟩
/-- second stands first of three -/
theorem Ex.mid {row pl : List Nat} {ft : Ft} (h : Ex row pl ft) {a b c : Nat} (hab : a < b) (hbc : b < c) : row.Nodup → bf row b a → bf row a c → ∃ (j k : Nat) (f f' : List Int), ft[j]? = some ((a, c), f) ∧ ft[k]? = some ((b, c), f') ∧ j < k ∧ (b : Int) ∈ f := by
  induction h with
  | done hd => intro _ _ h2; exact absurd (show a < c by omega) (down_no hd h2)
  | @step l1 l2 pl x y ft hxy hx ih =>
    intro hn h1 h2
    have hn' := nodup_swap hn
    rcases bf_swap h2 with q | ⟨rfl, rfl⟩
    · rcases bf_swap h1 with p | ⟨rfl, rfl⟩
      · obtain ⟨j, k, f, f', e1, e2, e3, e4⟩ := ih hn' p q
        exact ⟨j + 1, k + 1, f, f', e1, e2, by omega, e4⟩
      · omega
    · have hbl := bf_left hn h1
      have hbc' : bf (l1 ++ c :: a :: l2) b c := by rw [bf_app]; exact .inr (.inl ⟨hbl, List.mem_cons_self⟩)
      obtain ⟨k, f', hk⟩ := hx.at hbc' hbc
      exact ⟨0, k + 1, _, f', rfl, hk, by omega, (srt_mem _ _).mpr hbl⟩
/-- the turn at which two are exchanged -/
def trn (ft : Ft) (x y : Nat) : Nat := (ft.map (·.1)).idxOf (x, y)
end MD

namespace MD
open PySem PySem.Spec L2
/-! ### a dict that is locked while it is walked: data stays data -/
def kD : Key → D
  | .inl i => .int i
  | .inr x => .str x
def keyD (k : List Key) : D := .tuple (k.map kD)
def SmH (H H' : Hp) : Prop := ∀ a o, H a = some o → H' a = some o ∨ ∃ od kvs, (o = .dT kvs ∧ H' a = some (.frz od (.dT kvs))) ∨ (o = .frz od (.dT kvs) ∧ H' a = some (.dT kvs))
section
variable {K : PySem.W.Frag} {H H' : Hp} {W : WM}
theorem SmH.hid {M : Msk} (e : SmH H H') : SmH (hid M H) (hid M H') := fun a o q => by
  obtain ⟨q1, q2⟩ := hid_eq.mp q
  rcases e a o q2 with z | ⟨od, kvs, z | z⟩
  · exact .inl (hid_eq.mpr ⟨q1, z⟩)
  · exact .inr ⟨od, kvs, .inl ⟨z.1, hid_eq.mpr ⟨q1, z.2⟩⟩⟩
  · exact .inr ⟨od, kvs, .inr ⟨z.1, hid_eq.mpr ⟨q1, z.2⟩⟩⟩
theorem SmH.lst (e : SmH H H') {a : Addr} {xs : List V} (h : SqL K H a xs) : SqL K H' a xs := by
  rcases h with (h | ⟨o, h⟩) | h
  · rcases e _ _ h with z | ⟨od, kvs, z | z⟩
    · exact .inl (.inl z)
    · cases z.1
    · cases z.1
  · rcases e _ _ h with z | ⟨od, kvs, z | z⟩
    · exact .inl (.inr ⟨o, z⟩)
    · cases z.1
    · cases z.1
  · exact .inr h
theorem SmH.tupH (e : SmH H H') {a : Addr} {xs : List V} (h : H a = some (.tup xs)) : H' a = some (.tup xs) := by
  rcases e _ _ h with z | ⟨od, kvs, z | z⟩
  · exact z
  · cases z.1
  · cases z.1
theorem SmH.ins (e : SmH H H') {a C dx : Addr} {fs : List (Str × V)} (h : H a = some (.ins C dx fs)) : H' a = some (.ins C dx fs) := by
  rcases e _ _ h with z | ⟨od, kvs, z | z⟩
  · exact z
  · cases z.1
  · cases z.1
theorem SmH.frz (e : SmH H H') {a : Addr} {o : Obj} {u : HO} (hu : ∀ kvs, u ≠ .dT kvs) (h : H a = some (.frz o u)) : H' a = some (.frz o u) := by
  rcases e _ _ h with z | ⟨od, kvs, z | z⟩
  · exact z
  · cases z.1
  · cases z.1; exact absurd rfl (hu kvs)
theorem SmH.rd (e : SmH H H') {a : Addr} {kvs : List (List Key × V)} (h : Rd H a (.dT kvs)) : Rd H' a (.dT kvs) := by
  rcases h with h | ⟨o, h⟩
  · rcases e _ _ h with z | ⟨od, kvs, z | z⟩
    · exact .inl z
    · cases z.1; exact .inr ⟨od, z.2⟩
    · cases z.1
  · rcases e _ _ h with z | ⟨od, kvs, z | z⟩
    · exact .inr ⟨o, z⟩
    · cases z.1
    · cases z.1; exact .inl z.2
end
section
variable {X : Cx} {K : PySem.W.Frag} {ff : Bool} {pos : Pos} {H : Hp} {W : WM} {σ : L2.St} {E : Ev}
/-- for k in d, the keys tuples; the dict is data, and may be read in the block -/
def mForK (is : List Nat) (pick : D → Option (List D)) (i : Nat) (mb : MS) : MS := fun E => match E[i]? with
  | some (some (.v (.dict ks _))) => forD is pick mb (ks.map keyD) E
  | _ => none
end
end MD

namespace MD
open PySem PySem.Spec L2
section
variable {X : Cx} {K : PySem.W.Frag} {e a b o i value : Expr} {es : List Expr} {m ma mb me : ME} {n : MA} {mk : MK} {pos p pos' apos cpos : Pos} {ff : Bool}
/-! ### x += e, ints -/
def gAddI : G2 := gI fun i j => .int (i + j)
/-! ### xs.index(y), any plain data -/
def idxD (y : D) : List D → Option Nat
  | [] => none
  | e :: l => if deq e y = true then some 0 else (idxD y l).map (· + 1)
def rIndexD (K : PySem.W.Frag) : V → List V → Hp → VK → Prop := fun x xs H Q => ∃ (a : Addr) (ys : List V) (y : V) (ds : List PySem.PyData) (d : PySem.PyData) (j : Nat), x = V.ref a ∧ xs = [y] ∧ SqL K H a ys ∧ L2.Dp K H y d ∧ L2.DpAll K H ys ds ∧ SeqAt.shaped d = true ∧ ds.all SeqAt.shaped = true ∧
  (∃ e, ds[j]? = some e ∧ PySem.PyData.eqv e d = true) ∧ (∀ m e, m < j → ds[m]? = some e → PySem.PyData.eqv e d = false) ∧ Q (.int (j : Nat)) H
def mIdx (m : ME) (n : MA) : ME := fun E => (m E).bind fun r => (n E).bind fun rs => match r.d, rs with
  | .list l, [x] => if (okD x.d && l.all okD) = true then (idxD x.d l).map fun j => .c (.int (j : Nat)) else none
  | _, _ => none
/-! ### what is new or data, as a tree -/
def R.tree (r : R) : Option Tr := match r with
  | .t T => some T
  | .c d => some (.leaf d)
  | .u d => if flat d = true then some (.leaf d) else none
theorem RA.tree {H : Hp} {W : WM} {v : V} {r : R} {T : Tr} (hW : Dom W.w H) (h : RA K H W v r) (e : r.tree = some T) : RA K H W v (.t T) := by
  cases r with
  | t T' => cases e; exact h
  | c d => cases e; exact ⟨hW, [], by rw [adms_nil]; exact .leaf h, by simp, fun a ha => by cases ha⟩
  | u d =>
    have e : (if flat d = true then some (Tr.leaf d) else none) = some T := e
    split at e
    · rename_i f
      cases e
      exact ⟨hW, [], by rw [adms_nil]; exact .leaf (dp_flat hW _ _ f (RA.dp h)), by simp, fun a ha => by cases ha⟩
    · cases e
theorem RF.tree {H H' : Hp} {v : V} {r : R} {T : Tr} (h : RF H H' v r) (e : r.tree = some T) : RF H H' v (.t T) := by
  cases r with
  | t T' => cases e; exact h
  | c d => cases e; intro K M as l; cases l; intro a ha; cases ha
  | u d =>
    have e : (if flat d = true then some (Tr.leaf d) else none) = some T := e
    split at e
    · cases e; intro K M as l; cases l; intro a ha; cases ha
    · cases e
/-! ### one more slot -/
theorem Held.ext {H : Hp} {W : WM} {σ : L2.St} {E : Ev} (h : Held K H W σ E) (v : Option V) : Held K H W (σ ++ [v]) (E ++ [none]) := by
  have low : ∀ (j : Nat) (s : Sl), (E ++ [none])[j]? = some (some s) → E[j]? = some (some s) ∧ (σ ++ [v])[j]? = σ[j]? := fun j s q => by
    rw [List.getElem?_append] at q
    split at q
    · rename_i hj
      exact ⟨q, List.getElem?_append_left (by rw [h.len]; exact hj)⟩
    · exfalso
      cases hq : j - E.length with
      | zero => rw [hq] at q; cases q
      | succ z => rw [hq] at q; simp at q
  refine ⟨h.dom, by simp [h.len], fun j d q => ?_, fun j T q => ?_, fun j j' T T' x x' as bs M M' a q q' z z' => ?_⟩
  · obtain ⟨q1, q2⟩ := low j _ q
    rw [q2]; exact h.val j d q1
  · obtain ⟨q1, q2⟩ := low j _ q
    rw [q2]; exact h.own j T q1
  · obtain ⟨q1, q2⟩ := low j _ q
    obtain ⟨q3, q4⟩ := low j' _ q'
    rw [q2] at z
    rw [q4] at z'
    exact h.inj j j' T T' x x' as bs M M' a q1 q3 z z'
theorem Held.drop {H : Hp} {W : WM} {σ : L2.St} {E : Ev} {v : Option V} {s : Option Sl} (h : Held K H W (σ ++ [v]) (E ++ [s])) : Held K H W σ E := by
  have hl : σ.length = E.length := by have := h.len; simpa using this
  have up : ∀ (j : Nat) (t : Sl), E[j]? = some (some t) → (E ++ [s])[j]? = some (some t) ∧ (σ ++ [v])[j]? = σ[j]? := fun j t q => by
    have hj := (List.getElem?_eq_some_iff.mp q).1
    exact ⟨by rw [List.getElem?_append_left hj]; exact q, List.getElem?_append_left (by omega)⟩
  refine ⟨h.dom, hl, fun j d q => ?_, fun j T q => ?_, fun j j' T T' x x' as bs M M' a q q' z z' => ?_⟩
  · obtain ⟨q1, q2⟩ := up j _ q
    have := h.val j d q1
    rw [q2] at this; exact this
  · obtain ⟨q1, q2⟩ := up j _ q
    have := h.own j T q1
    rw [q2] at this; exact this
  · obtain ⟨q1, q2⟩ := up j _ q
    obtain ⟨q3, q4⟩ := up j' _ q'
    exact h.inj j j' T T' x x' as bs M M' a q1 q3 (by rw [q2]; exact z) (by rw [q4]; exact z')
/-! ### d[k] = e, the key new, e new or data -/
def mDPutT (j : Nat) (mk : MK) (m : ME) : MS := fun E => (m E).bind fun r => r.tree.bind fun T => (mk E).bind fun k => match E[j]? with
  | some (some (.t (.dct ks l))) => if dhas ks k = false ∧ l.length < lim then some (.nx (E.set j (some (.t (.dct (ks ++ [k]) (l ++ [T])))))) else none
  | _ => none
/-! ### {k: e}, one pair -/
def tD1 (tk tv : TE) : TE := fun σ H Q => ∀ p, H p = none → tk σ (upd H p (.dT [])) fun y H1 => tv σ H1 fun z H2 => ∃ (kk : List Key) (b : Addr), H2 p = some (.dT []) ∧ y = .ref b ∧ H2 b = some (.tup (kk.map kV)) ∧ Q (.ref p) (upd H2 p (.dT (putK [] kk z)))
def mD1 (mk : MK) (m : ME) : ME := fun E => (mk E).bind fun k => (m E).bind fun r => r.tree.map fun T => .t (.dct [k] [T])
/-! ### own dicts of own things: d[k] told, d[k] behind a list -/
def dlookT : List (List Key) → List Tr → List Key → Option Tr
  | k' :: ks, t :: ts, k => if k' = k then some t else dlookT ks ts k
  | _, _, _ => none
def mRetDG (j : Nat) (mk : MK) : MS := fun E => (mk E).bind fun k => match E[j]? with
  | some (some (.t (.dct ks l))) => (dlookT ks l k).map fun T => .rt (.t T)
  | _ => none
def mCatDG (ma : ME) (j : Nat) (mk : MK) : ME := fun E => (ma E).bind fun x => (mk E).bind fun k => match x.d, E[j]? with
  | .list la, some (some (.t (.dct ks l))) => (dlookT ks l k).bind fun T => match T with
    | .lst ts => (lvs ts).bind fun lb => if (x.cl || flats la) && decide (la.length + lb.length ≤ lim) then some (.o (la ++ lb)) else none
    | _ => none
  | _, _ => none
/-! ### name = {..: .. for ..}, the name a local -/
abbrev Blk (X : Cx) (scope : Scope) (P : Cx → Prop) : Prop := ∀ (s : Shared) (H : Hp) (C : Addr) (cl : List (Str × Addr)) (fp : List Addr), P (X.blk s H scope (compEnvC scope cl C X.env) fp)
end
end MD

namespace MD
open PySem PySem.Spec L2 PyProof.Rows
section
variable {X : Cx} {K : PySem.W.Frag} {e a b c : Expr} {pos : Pos}
/-! ### x, y, z = a, b, c: plain local names -/
def tPar3 (i j k : Nat) (ta : TA) : TS := fun D σ H => ta σ H fun vs H1 => ∃ v w u, vs = [v, w, u] ∧ D.nx (MD.setAll σ [i, j, k] [v, w, u]) H1
/-! ### len(d), the keys tuples -/
def rLenD : List V → Hp → VK → Prop := fun xs H Q => ∃ (a : Addr) (kvs : List (List Key × V)), xs = [.ref a] ∧ Rd H a (.dT kvs) ∧ Q (.int kvs.length) H
def gLenD : GL := fun rs => match rs with
  | [x] => (match x.d with | .dict ks _ => some (.c (.int (ks.length : Nat))) | _ => none)
  | _ => none
/-! ### xs[i], xs an own list of data: what is told is data -/
def mIxO (j : Nat) (mi : ME) : ME := fun E => match E[j]? with
  | some (some (.t (.lst ts))) => (lvs ts).bind fun l => (mi E).bind fun r => match r.d with | .int i => (atI l i).map R.c | _ => none
  | _ => none
end
end MD

namespace MD
open PySem PySem.Spec L2
/-! ### a stick left out -/
def upK (k x : Int) : Int := if k ≤ x then x + 1 else x
def dnI (k x : Int) : Int := x - (if k < x then 1 else 0)
def lessI (n : Nat) (ss : List Int) (k : Int) : List Int := (((thI n).zip ss).filter fun p => !decide (k ∈ p.1)).map (·.2)
/-! ### the feet with a stick left out -/
def dnN (k x : Nat) : Nat := if k < x then x - 1 else x
def spots (k : Int) (f : List Int) : List Int := (f.filter fun x => !decide (x = k)).map (dnI k)
def keepE (k : Nat) (e : (Nat × Nat) × List Int) : Bool := !decide (k ∈ [e.1.1, e.1.2])
def movE (k : Nat) (e : (Nat × Nat) × List Int) : (Nat × Nat) × List Int := ((dnN k e.1.1, dnN k e.1.2), spots k e.2)
def movF (k : Nat) (ft : Ft) : Ft := (ft.filter (keepE k)).map (movE k)
def upN (k x : Nat) : Nat := if k ≤ x then x + 1 else x
/-! ### a loop by its invariant, targets of any kind -/
end MD
namespace MD
open PySem PySem.Spec L2
end MD
namespace MD
open PySem PySem.Spec L2
end MD
namespace MD
open PySem PySem.Spec L2
end MD

namespace MD
open PySem PySem.Spec L2
/-! ### all lists of signs that go together -/
def all01 : Nat → List (List Int)
  | 0 => [[]]
  | k + 1 => (all01 k).flatMap fun s => [s ++ [0], s ++ [1]]
theorem all01_mem : ∀ (k : Nat) (s : List Int), s.length = k → (∀ x ∈ s, x = 0 ∨ x = 1) → s ∈ all01 k
  | 0, s, h, _ => by rw [List.length_eq_zero_iff.mp h]; exact List.mem_singleton.mpr rfl
  | k + 1, s, h, hs => by
    have hne : s ≠ [] := fun z => by rw [z] at h; cases h
    have e := List.dropLast_concat_getLast hne
    have ih := all01_mem k s.dropLast (by rw [List.length_dropLast]; omega) (fun x hx => hs x (List.dropLast_subset _ hx))
    have hl := hs _ (List.getLast_mem hne)
    unfold all01
    refine List.mem_flatMap.mpr ⟨s.dropLast, ih, ?_⟩
    rcases hl with z | z
    · rw [← e, z]; simp
    · rw [← e, z]; simp
theorem grow_all : ∀ n, n ≤ 5 → growI n (thI n).length = (all01 (thI n).length).filter (good n) := by decide +kernel
/-- a cut -/
structure Gd (n : Nat) (c : List Int) : Prop where
  len : c.length = (thI n).length
  bit : ∀ s ∈ c, s = 0 ∨ s = 1
  ok : good n c = true
theorem gd_mem {n : Nat} (hn : n ≤ 5) {c : List Int} : c ∈ growI n (thI n).length ↔ Gd n c := by
  constructor
  · intro h
    obtain ⟨h1, h2⟩ := growI_mem n _ c h
    rw [grow_all n hn] at h
    exact ⟨h1, h2, (List.mem_filter.mp h).2⟩
  · intro h
    rw [grow_all n hn]
    exact List.mem_filter.mpr ⟨all01_mem _ c h.len h.bit, h.ok⟩
/-! ### flips -/
def flp (c : List Int) (p : Nat) : List Int := c.take p ++ [1 - c.getD p 0] ++ c.drop (p + 1)
theorem flp_len {c : List Int} {p : Nat} (h : p < c.length) : (flp c p).length = c.length := by
  unfold flp
  simp only [List.length_append, List.length_take, List.length_drop, List.length_cons, List.length_nil]
  omega
theorem flp_get {c : List Int} {p : Nat} (h : p < c.length) (i : Nat) : (flp c p).getD i 0 = if i = p then 1 - c.getD p 0 else c.getD i 0 := by
  unfold flp
  simp only [List.getD_eq_getElem?_getD]
  by_cases h1 : i < p
  · rw [if_neg (by omega), List.append_assoc, List.getElem?_append_left (by rw [List.length_take]; omega), List.getElem?_take, if_pos h1]
  · by_cases h2 : i = p
    · subst h2
      rw [if_pos rfl, List.append_assoc, List.getElem?_append_right (by rw [List.length_take]; omega), List.length_take, Nat.min_eq_left (by omega), Nat.sub_self]
      rfl
    · rw [if_neg h2, List.getElem?_append_right (by simp; omega)]
      simp only [List.length_append, List.length_take, List.length_cons, List.length_nil, List.getElem?_drop]
      congr 2
      omega
theorem ext01 {a b : List Int} (h : a.length = b.length) (h2 : ∀ i, a.getD i 0 = b.getD i 0) : a = b := by
  apply List.ext_getElem h
  intro i h3 h4
  have := h2 i
  rw [List.getD_eq_getElem?_getD, List.getD_eq_getElem?_getD, List.getElem?_eq_getElem h3, List.getElem?_eq_getElem h4] at this
  exact this
theorem flp_flp {c : List Int} {p : Nat} (h : p < c.length) : flp (flp c p) p = c := by
  apply ext01
  · rw [flp_len (by rw [flp_len h]; exact h), flp_len h]
  · intro i
    rw [flp_get (by rw [flp_len h]; exact h)]
    split
    · rename_i e
      subst e
      rw [flp_get h, if_pos rfl]
      omega
    · rename_i e
      rw [flp_get h, if_neg e]
/-- places of flips that lead from cut to cut -/
def Wk (n : Nat) : List Int → List Nat → List Int → Prop
  | c, [], c' => c = c'
  | c, p :: ps, c' => p < (thI n).length ∧ Gd n (flp c p) ∧ Wk n (flp c p) ps c'
theorem Wk.app {n : Nat} : ∀ {ps qs : List Nat} {a b c : List Int}, Wk n a ps b → Wk n b qs c → Wk n a (ps ++ qs) c
  | [], _, _, _, _, h, g => by cases h; exact g
  | p :: ps, _, _, _, _, ⟨h1, h2, h3⟩, g => ⟨h1, h2, Wk.app h3 g⟩
theorem Wk.back {n : Nat} : ∀ {ps : List Nat} {a b : List Int}, Gd n a → Wk n a ps b → Wk n b ps.reverse a
  | [], _, _, _, h => by cases h; rfl
  | p :: ps, a, b, ga, ⟨h1, h2, h3⟩ => by
    rw [List.reverse_cons]
    refine Wk.app (Wk.back h2 h3) ?_
    have e := flp_flp (c := a) (p := p) (by rw [ga.len]; exact h1)
    exact ⟨h1, by rw [e]; exact ga, by rw [e]; rfl⟩
/-- as few as can be -/
def Few (n : Nat) (a : List Int) (k : Nat) (b : List Int) : Prop := (∃ ps, ps.length = k ∧ Wk n a ps b) ∧ ∀ qs, Wk n a qs b → k ≤ qs.length
theorem Few.back {n : Nat} {a b : List Int} {k : Nat} (ga : Gd n a) (gb : Gd n b) (h : Few n a k b) : Few n b k a := by
  obtain ⟨⟨ps, e, w⟩, m⟩ := h
  refine ⟨⟨ps.reverse, by simpa using e, w.back ga⟩, fun qs hq => ?_⟩
  have := m _ (hq.back gb)
  simpa using this
/-! each cut is led to all signs 0 -/
def dwn (n : Nat) (c : List Int) : Option Nat := (List.range (thI n).length).find? fun p => decide (c.getD p 0 = 1) && good n (flp c p)
theorem dwn_ex : ∀ n, n ≤ 5 → ∀ c ∈ growI n (thI n).length, c.sum = 0 ∨ (dwn n c).isSome = true := by decide +kernel
theorem flp_bit {c : List Int} {p : Nat} (h : ∀ s ∈ c, s = 0 ∨ s = 1) (hp : p < c.length) : ∀ s ∈ flp c p, s = 0 ∨ s = 1 := by
  intro s hs
  unfold flp at hs
  rw [List.append_assoc] at hs
  rcases List.mem_append.mp hs with hs | hs
  · exact h s (List.mem_of_mem_take hs)
  · rcases List.mem_append.mp hs with hs | hs
    · rw [List.mem_singleton.mp hs]
      have := h (c.getD p 0) (by rw [List.getD_eq_getElem?_getD, List.getElem?_eq_getElem hp]; exact List.getElem_mem _)
      omega
    · exact h s (List.mem_of_mem_drop hs)
theorem flp_sum {c : List Int} {p : Nat} (hp : p < c.length) : (flp c p).sum = c.sum + 1 - 2 * c.getD p 0 := by
  have e : c = c.take p ++ c.getD p 0 :: c.drop (p + 1) := by
    conv => lhs; rw [← List.take_append_drop p c, List.drop_eq_getElem_cons hp]
    rw [List.getD_eq_getElem?_getD, List.getElem?_eq_getElem hp]
    rfl
  unfold flp
  rw [List.sum_append, List.sum_append]
  conv => rhs; rw [e]
  rw [List.sum_append, List.sum_cons]
  have e2 : (c.take p ++ c.getD p 0 :: c.drop (p + 1)).getD p 0 = c.getD p 0 := by rw [← e]
  rw [e2]
  simp only [List.sum_cons, List.sum_nil]
  omega
theorem sum_nn : ∀ {c : List Int}, (∀ s ∈ c, s = 0 ∨ s = 1) → 0 ≤ c.sum ∧ (c.sum = 0 → ∀ s ∈ c, s = 0)
  | [], _ => by simp
  | x :: c, h => by
    obtain ⟨h1, h2⟩ := sum_nn fun s hs => h s (List.mem_cons_of_mem _ hs)
    have hx := h x List.mem_cons_self
    rw [List.sum_cons]
    refine ⟨by omega, fun z s hs => ?_⟩
    rcases List.mem_cons.mp hs with rfl | hs
    · omega
    · exact h2 (by omega) s hs
theorem to_zero {n : Nat} (hn : n ≤ 5) : ∀ (k : Nat) (c : List Int), Gd n c → c.sum = k → ∃ ps, Wk n c ps (List.replicate (thI n).length 0)
  | 0, c, g, h => by
    refine ⟨[], ?_⟩
    show c = _
    rw [← g.len]
    exact List.eq_replicate_of_mem ((sum_nn g.bit).2 h)
  | k + 1, c, g, h => by
    rcases dwn_ex n hn c ((gd_mem hn).mpr g) with z | z
    · rw [z] at h; cases h
    · obtain ⟨p, hp⟩ := Option.isSome_iff_exists.mp z
      have h1 := List.mem_range.mp (List.mem_of_find?_eq_some hp)
      have h2 := List.find?_some hp
      simp only [Bool.and_eq_true, decide_eq_true_eq] at h2
      have hpl : p < c.length := by rw [g.len]; exact h1
      have g' : Gd n (flp c p) := ⟨by rw [flp_len hpl, g.len], flp_bit g.bit hpl, h2.2⟩
      obtain ⟨ps, w⟩ := to_zero hn k (flp c p) g' (by rw [flp_sum hpl, h2.1, h]; omega)
      exact ⟨p :: ps, h1, g', w⟩
theorem joined {n : Nat} (hn : n ≤ 5) {a b : List Int} (ga : Gd n a) (gb : Gd n b) : ∃ ps, Wk n a ps b := by
  obtain ⟨ps, w⟩ := to_zero hn a.sum.toNat a ga (by have := (sum_nn ga.bit).1; omega)
  obtain ⟨qs, w'⟩ := to_zero hn b.sum.toNat b gb (by have := (sum_nn gb.bit).1; omega)
  exact ⟨_, w.app (w'.back gb)⟩
/-! signs that are unlike -/
def unl : List Int → List Int → Nat
  | a :: l, b :: m => (if a = b then 0 else 1) + unl l m
  | _, _ => 0
end MD

namespace MD
open PySem PySem.Spec L2
/-! ### going out from a cut, one by one -/
structure Bfs (n : Nat) (root : List Int) (L : List (List Int × List Nat)) (a p : Nat) : Prop where
  hd : L[0]? = some (root, [])
  ok : ∀ x ∈ L, Gd n x.1 ∧ Wk n x.1 x.2 root
  nd : (L.map (·.1)).Nodup
  srt : L.Pairwise (fun x y => x.2.length ≤ y.2.length)
  bnd : ∀ c ps, L[a]? = some (c, ps) → ∀ x ∈ L, x.2.length ≤ ps.length + 1
  ln : ∀ (i : Nat) x, L[i]? = some x → x.2.length ≤ i
  cls : ∀ (i : Nat) c ps, L[i]? = some (c, ps) → ∀ q, q < (thI n).length → (i < a ∨ (i = a ∧ q < p)) → Gd n (flp c q) → ∃ qs, (flp c q, qs) ∈ L ∧ qs.length ≤ ps.length + 1
section
variable {n : Nat} {root : List Int} {L : List (List Int × List Nat)} {a p : Nat}
theorem Bfs.add (h : Bfs n root L a p) {c : List Int} {ps : List Nat} (hc : L[a]? = some (c, ps)) (hp : p < (thI n).length) (g : Gd n (flp c p)) (hn : flp c p ∉ L.map (·.1)) : Bfs n root (L ++ [(flp c p, p :: ps)]) a (p + 1) := by
  have hal : a < L.length := (List.getElem?_eq_some_iff.mp hc).1
  have hcm : (c, ps) ∈ L := List.mem_of_getElem? hc
  have gc := (h.ok _ hcm).1
  have hpl : p < c.length := by rw [gc.len]; exact hp
  have wk : Wk n (flp c p) (p :: ps) root := by
    have e := flp_flp hpl
    exact ⟨hp, by rw [e]; exact gc, by rw [e]; exact (h.ok _ hcm).2⟩
  have ga : (L ++ [(flp c p, p :: ps)])[a]? = some (c, ps) := by rw [List.getElem?_append_left hal]; exact hc
  refine ⟨?_, fun x hx => ?_, ?_, ?_, fun c' ps' h' x hx => ?_, fun i x hi => ?_, fun i c' ps' hi q hq hlt g' => ?_⟩
  · rw [List.getElem?_append_left (by omega)]; exact h.hd
  · rcases List.mem_append.mp hx with hx | hx
    · exact h.ok x hx
    · rw [List.mem_singleton.mp hx]; exact ⟨g, wk⟩
  · rw [List.map_append]
    refine List.nodup_append.mpr ⟨h.nd, by simp, fun x hx y hy e => ?_⟩
    have : y = flp c p := by simpa using hy
    exact hn (by rw [← this, ← e]; exact hx)
  · refine List.pairwise_append.mpr ⟨h.srt, by simp, fun x hx y hy => ?_⟩
    rw [List.mem_singleton.mp hy]
    exact h.bnd c ps hc x hx
  · rw [ga] at h'
    cases h'
    rcases List.mem_append.mp hx with hx | hx
    · exact h.bnd c ps hc x hx
    · rw [List.mem_singleton.mp hx]; exact Nat.le_refl _
  · by_cases hiL : i < L.length
    · rw [List.getElem?_append_left hiL] at hi
      exact h.ln i x hi
    · rw [List.getElem?_append_right (by omega)] at hi
      have hx := List.mem_singleton.mp (List.mem_of_getElem? hi)
      have := h.ln a _ hc
      have this : ps.length ≤ a := this
      rw [hx]
      show (p :: ps).length ≤ i
      rw [List.length_cons]
      omega
  · by_cases hiL : i < L.length
    · rw [List.getElem?_append_left hiL] at hi
      by_cases e : i = a ∧ q = p
      · obtain ⟨rfl, rfl⟩ := e
        rw [hc] at hi
        cases hi
        exact ⟨_, List.mem_append_right _ (List.mem_singleton.mpr rfl), Nat.le_refl _⟩
      · obtain ⟨qs, q1, q2⟩ := h.cls i c' ps' hi q hq (by omega) g'
        exact ⟨qs, List.mem_append_left _ q1, q2⟩
    · omega
theorem Bfs.next (h : Bfs n root L a (thI n).length) : Bfs n root L (a + 1) 0 := by
  refine ⟨h.hd, h.ok, h.nd, h.srt, fun c ps hc x hx => ?_, h.ln, fun i c ps hi q hq hlt g => h.cls i c ps hi q hq (by omega) g⟩
  have hal : a + 1 < L.length := (List.getElem?_eq_some_iff.mp hc).1
  have e : L[a]? = some L[a] := List.getElem?_eq_getElem (by omega)
  have b := h.bnd _ _ e x hx
  have s := List.pairwise_iff_getElem.mp h.srt a (a + 1) (by omega) hal (by omega)
  have e2 : L[a + 1] = (c, ps) := by rw [List.getElem?_eq_getElem hal] at hc; exact Option.some.inj hc
  have s : L[a].2.length ≤ L[a + 1].2.length := s
  rw [e2] at s
  have s : L[a].2.length ≤ ps.length := s
  have b : x.2.length ≤ L[a].2.length + 1 := b
  exact Nat.le_trans b (Nat.succ_le_succ s)
theorem Bfs.near (h : Bfs n root L a 0) (gr : ∀ (c : List Int) (p : Nat), Gd n c → p < (thI n).length → Gd n (flp c p) → flp (flp c p) p = c) : ∀ (qs : List Nat) (c : List Int), Gd n c → Wk n c qs root → (∃ ps, (c, ps) ∈ L ∧ ps.length ≤ qs.length) ∨ ∃ (i : Nat) (x : List Int × List Nat), a ≤ i ∧ L[i]? = some x ∧ x.2.length < qs.length
  | [], c, _, hw => by
    cases hw
    exact .inl ⟨[], List.mem_of_getElem? h.hd, Nat.le_refl _⟩
  | q :: qs, c, gc, ⟨h1, h2, h3⟩ => by
    rcases Bfs.near h gr qs (flp c q) h2 h3 with ⟨ps, m, l⟩ | ⟨i, x, i1, i2, i3⟩
    · obtain ⟨i, hi⟩ := List.getElem?_of_mem m
      by_cases ha : i < a
      · have e := gr c q gc h1 h2
        obtain ⟨rs, r1, r2⟩ := h.cls i _ _ hi q h1 (.inl ha) (by rw [e]; exact gc)
        rw [e] at r1
        exact .inl ⟨rs, r1, by rw [List.length_cons]; omega⟩
      · exact .inr ⟨i, _, by omega, hi, by rw [List.length_cons]; show ps.length < _; omega⟩
    · exact .inr ⟨i, x, i1, i2, by rw [List.length_cons]; omega⟩
theorem gr_flp (c : List Int) (p : Nat) (g : Gd n c) (hp : p < (thI n).length) (_ : Gd n (flp c p)) : flp (flp c p) p = c := flp_flp (by rw [g.len]; exact hp)
theorem Bfs.more (h : Bfs n root L a 0) (hn : n ≤ 5) (gr : Gd n root) {c : List Int} (gc : Gd n c) (hc : c ∉ L.map (·.1)) : a < L.length := by
  obtain ⟨qs, w⟩ := joined hn gc gr
  rcases h.near gr_flp qs c gc w with ⟨rs, m, l⟩ | ⟨i, x, i1, i2, i3⟩
  · exact absurd (List.mem_map.mpr ⟨_, m, rfl⟩) hc
  · have := (List.getElem?_eq_some_iff.mp i2).1
    omega
end
theorem nodup_le {α : Type} [DecidableEq α] : ∀ {l m : List α}, l.Nodup → (∀ x ∈ l, x ∈ m) → l.length ≤ m.length
  | [], _, _, _ => Nat.zero_le _
  | a :: l, m, h, s => by
    obtain ⟨h0, hn⟩ := List.nodup_cons.mp h
    have ha := s a List.mem_cons_self
    have ih := nodup_le (m := m.erase a) hn fun x hx => (List.mem_erase_of_ne (fun z => h0 (by rw [← z]; exact hx))).mpr (s x (List.mem_cons_of_mem _ hx))
    rw [List.length_erase_of_mem ha] at ih
    have := List.length_pos_of_mem ha
    rw [List.length_cons]
    omega
theorem grow62 : ∀ n, n ≤ 5 → (growI n (thI n).length).length ≤ 62 ∧ (growI n (thI n).length).Nodup := by decide +kernel
theorem Bfs.len {n : Nat} {root : List Int} {L : List (List Int × List Nat)} {a p : Nat} (h : Bfs n root L a p) (hn : n ≤ 5) : L.length ≤ 62 := by
  have := nodup_le h.nd (m := growI n (thI n).length) fun x hx => by
    obtain ⟨y, hy, rfl⟩ := List.mem_map.mp hx
    exact (gd_mem hn).mpr (h.ok y hy).1
  rw [List.length_map] at this
  exact Nat.le_trans this (grow62 n hn).1
/-! ### the same as data -/
def thP (n p : Nat) : List Int := (thI n).getD p []
def pathD (n : Nat) (ps : List Nat) : List D := (ps.map (thP n)).map encI
def bK (L : List (List Int × List Nat)) : List (List Key) := L.map fun x => keyI x.1
def bT (n : Nat) (L : List (List Int × List Nat)) : List Tr := L.map fun x => Tr.fl (pathD n x.2)
def bM (L : List (List Int × List Nat)) : List D := L.map fun x => encI x.1
end MD
namespace MD
open PySem PySem.Spec L2
end MD

namespace MD
open PySem PySem.Spec L2
/-! ### going out from a cut, all at once -/
structure Lev (n : Nat) (root : List Int) (M Ln : List (List Int)) (k : Nat) : Prop where
  ok : ∀ c ∈ M, Gd n c ∧ ∃ qs, qs.length ≤ k ∧ Wk n c qs root
  nd : M.Nodup
  cls : ∀ c ∈ M, c ∉ Ln → ∀ q, q < (thI n).length → Gd n (flp c q) → flp c q ∈ M
  sub : ∀ c ∈ Ln, c ∈ M
  all : ∀ (qs : List Nat) (c : List Int), Gd n c → Wk n c qs root → qs.length ≤ k → c ∈ M
theorem Lev.next {n : Nat} {root : List Int} {M Ln more : List (List Int)} {k : Nat} (h : Lev n root M Ln k) (hm : ∀ c ∈ more, Gd n c ∧ ∃ qs, qs.length ≤ k + 1 ∧ Wk n c qs root) (hn : (M ++ more).Nodup)
    (hp : ∀ c ∈ Ln, ∀ q, q < (thI n).length → Gd n (flp c q) → flp c q ∈ M ++ more) : Lev n root (M ++ more) more (k + 1) := by
  have N : ∀ x ∈ M, ∀ q, q < (thI n).length → Gd n (flp x q) → flp x q ∈ M ++ more := fun x hx q hq g => by
    by_cases hl : x ∈ Ln
    · exact hp x hl q hq g
    · exact List.mem_append_left _ (h.cls x hx hl q hq g)
  refine ⟨fun c hc => ?_, hn, fun c hc hcn q hq g => ?_, fun c hc => List.mem_append_right _ hc, fun qs c gc hw hl => ?_⟩
  · rcases List.mem_append.mp hc with hc | hc
    · obtain ⟨h1, qs, h2, h3⟩ := h.ok c hc
      exact ⟨h1, qs, by omega, h3⟩
    · exact hm c hc
  · rcases List.mem_append.mp hc with hc | hc
    · exact N c hc q hq g
    · exact absurd hc hcn
  · cases qs with
    | nil => exact List.mem_append_left _ (h.all [] c gc hw (Nat.zero_le _))
    | cons q qs =>
      obtain ⟨h1, h2, h3⟩ := hw
      have hin := h.all qs _ h2 h3 (by rw [List.length_cons] at hl; omega)
      have e := flp_flp (c := c) (p := q) (by rw [gc.len]; exact h1)
      have := N _ hin q h1 (by rw [e]; exact gc)
      rw [e] at this
      exact this
theorem Lev.len {n : Nat} {M : List (List Int)} (hn : n ≤ 5) (nd : M.Nodup) (ok : ∀ c ∈ M, Gd n c) : M.length ≤ 62 :=
  Nat.le_trans (nodup_le nd (m := growI n (thI n).length) fun x hx => (gd_mem hn).mpr (ok x hx)) (grow62 n hn).1
def encLL (l : List (List Int)) : D := .list (l.map encI)
end MD
namespace MD
open PySem PySem.Spec L2
end MD

namespace MD
open PySem PySem.Spec L2
/-! ### rows along one line, written -/
def okR (rs : List Pt) : Bool := rs.all fun r => near r && decide (r ≠ (0, 0))
abbrev I1 (a : Nat) : Int := 1 + (a : Int)
def chk1 (a b c : Nat) : Bool := decide (okR [(I1 a, 0), (0, I1 c), (I1 b, 0)] = true) && decide (gth [(I1 a, 0), (0, I1 c), (I1 b, 0)] = ([(I1 a + I1 b, 0), (0, I1 c)], (0, 0)))
def chk2 (a b c : Nat) : Bool := decide (okR [(I1 a, 0), (0, I1 c), (-I1 b, 0)] = true) && decide (gth [(I1 a, 0), (0, I1 c), (-I1 b, 0)] = ([(I1 a + I1 b, 0), (0, I1 c)], (-I1 b, 0)))
def chk3 (a b c : Nat) : Bool := decide (okR [(0, -I1 c), (I1 a, 2 * I1 a), (0, 1), (-I1 b, -2 * I1 b), (3, 0)] = true) && decide (gth [(0, -I1 c), (I1 a, 2 * I1 a), (0, 1), (-I1 b, -2 * I1 b), (3, 0)] = ([(3, 0), (I1 a + I1 b, 2 * I1 a + 2 * I1 b), (0, I1 c + 1)], (-I1 b, -I1 c - 2 * I1 b)))
def chk4 (a b c : Nat) : Bool := decide (okR [(I1 a, I1 a), (I1 a, 0), (I1 b, I1 b), (I1 c, 0), (1, 1)] = true) && decide (gth [(I1 a, I1 a), (I1 a, 0), (I1 b, I1 b), (I1 c, 0), (1, 1)] = ([(I1 a + I1 c, 0), (I1 a + I1 b + 1, I1 a + I1 b + 1)], (0, 0))) && decide (okR [(1, 1), (I1 c, 0), (I1 b, I1 b), (I1 a, 0), (I1 a, I1 a)] = true) && decide (gth [(1, 1), (I1 c, 0), (I1 b, I1 b), (I1 a, 0), (I1 a, I1 a)] = ([(I1 a + I1 c, 0), (I1 a + I1 b + 1, I1 a + I1 b + 1)], (0, 0)))
/-! ### a body of two sticks -/
abbrev two (w h l : Nat) : List Pt := [(I1 w, 0), ((l : Int), I1 h)]
/-! ### told pairs of sticks and a move -/
def encG (x : List Pt × Pt) : D := .tuple [.list (x.1.map eP), eP x.2]
/-! ### loose threes -/
def lsP (n : Nat) (c : List Int) : List Nat := (List.range (thI n).length).filter fun p => good n (flp c p)
def lsT (n : Nat) (c : List Int) : List (List Int) := (lsP n c).map (thP n)
/-- the dict of how far each is -/
def bD (L : List (List Int × List Nat)) : List D := L.map fun x => D.int (x.2.length : Nat)
end MD
namespace MD
open PySem PySem.Spec L2
def nxt : List Nat → Nat
  | [] => 0
  | [q] => q + 1
  | _ :: l => nxt l
end MD
namespace MD
open PySem PySem.Spec L2
end MD

namespace MD
open PySem PySem.Spec L2 PyProof.Rows
section
variable {X : Cx} {K : PySem.W.Frag} {e a b c o f : Expr} {m ma mb md : ME} {n : MA} {mk : MK} {pos p p2 pos2 pos3 apos cpos : Pos}
/-! ### d.get(k, x), both without lists -/
def mDGet2 (m : ME) (mk : MK) (md : ME) : ME := fun E => (m E).bind fun x => (mk E).bind fun k => (md E).bind fun y => match x.d with
  | .dict ks ds => (match dlook ks ds k with
    | some d => if flat d = true then some (.c d) else none
    | none => if dhas ks k = false ∧ flat y.d = true then some (.c y.d) else none)
  | _ => none
/-! ### tuple(range(n)) -/
def tTR (ta : TA) : TE := fun σ H Q => ta σ H fun vs H1 => ∃ n : Nat, vs = [.int n] ∧ n ≤ lim ∧ ∀ l, H1 l = none → Q (.ref l) (upd H1 l (.tup ((List.range n).map fun i => V.int (i : Nat))))
def rngK (n : Nat) : List Key := (List.range n).map fun (i : Nat) => (Sum.inl (i : Int) : Key)
def mKR (n : MA) : MK := fun E => (n E).bind fun rs => match rs with
  | [x] => (match x.d with | .int i => if 0 ≤ i ∧ i ≤ 100000 then some (rngK i.toNat) else none | _ => none)
  | _ => none
/-! ### t[::-1], t a new key -/
def mKRev (mk : MK) : MK := fun E => (mk E).map List.reverse
/-! ### a name as a key -/
def isTI (o : Obj) : Bool := match o.data with
  | .seq its _ => its.size != 0 && its.toList.all isIv
  | _ => false
def noTI (K : PySem.W.Frag) : Bool := K.all fun p => !isTI p.2
def mKV (m : ME) : MK := fun E => (m E).bind fun r => match r.d with | .tuple l => if l.length = 0 then none else keyOf l | _ => none
end
end MD

namespace MD
open PySem PySem.Spec L2 PyProof.Rows
section
variable {prog : Program} {w : World} {A : Around} {E : Value → Shared → Prop} {s : Shared}
end
section
variable {X : Cx} {K : PySem.W.Frag} {e o : Expr} {m : ME} {td : TE} {pos p apos cpos : Pos}
/-- sum(d.values()) -/
def tSumV (td : TE) : TE := fun σ H Q => td σ H fun x H1 => ∃ (a : Addr) (kvs : List (List Key × V)) (ns : List Int), x = .ref a ∧ Rd H1 a (.dT kvs) ∧ kvs.map (·.2) = ns.map V.int ∧ Q (.int ns.sum) H1
def mSumV (m : ME) : ME := fun E => (m E).bind fun x => match x.d with
  | .dict _ ds => (ints? ds).map fun ns => .c (.int ns.sum)
  | _ => none
end
end MD

namespace MD
open PySem PySem.Spec L2
/-! ### the sticks that lead to the foot of a slab -/
def ldB (n : Nat) (ss : List Int) (i j a : Nat) : Bool := if i < a ∧ a < j then decide (sgn n ss (srtI [(i : Int), (j : Int), (a : Int)]) = 0) else decide (sgn n ss (srtI [(i : Int), (j : Int), (a : Int)]) = 1)
def othL (n : Nat) (p : Nat × Nat) : List Nat := (List.range n).filter fun a => decide (a ≠ p.1) && decide (a ≠ p.2)
def footL (n : Nat) (ss : List Int) (p : Nat × Nat) : List Nat := (othL n p).filter fun a => ldB n ss p.1 p.2 a
def kIJ (p : Nat × Nat) : List Key := keyI [(p.1 : Int), (p.2 : Int)]
def fD (n : Nat) (ss : List Int) (p : Nat × Nat) : D := encI (nI (footL n ss p))
def feetK (n : Nat) : List (List Key) := (pairs n).map kIJ
def feetD (n : Nat) (ss : List Int) : List D := (pairs n).map (fD n ss)
/-! ### exchanges -/
def exI (row : List Int) (a : Nat) : List Int := row.take a ++ [row.getD (a + 1) 0, row.getD a 0] ++ row.drop (a + 2)
def nxB (n : Nat) (ss row : List Int) (a : Nat) : Bool := decide (row.getD a 0 < row.getD (a + 1) 0) && decide (srtI (row.take a) = nI (footL n ss ((row.getD a 0).toNat, (row.getD (a + 1) 0).toNat)))
def nxL (n : Nat) (ss row : List Int) : List Nat := (List.range (n - 1)).filter (nxB n ss row)
def In (n : Nat) (row : List Int) : Bool := decide (row.length = n) && row.all fun x => decide (0 ≤ x) && decide (x < n)
def InR (n : Nat) (row : List Int) : Prop := In n row = true
theorem InR.len {n : Nat} {row : List Int} (h : InR n row) : row.length = n := by
  unfold InR In at h
  rw [Bool.and_eq_true, decide_eq_true_eq] at h
  exact h.1
theorem InR.at {n : Nat} {row : List Int} (h : InR n row) {a : Nat} (ha : a < n) : 0 ≤ row.getD a 0 ∧ row.getD a 0 < n := by
  have hl := h.len
  unfold InR In at h
  rw [Bool.and_eq_true] at h
  have := List.all_eq_true.mp h.2 (row.getD a 0) (by rw [List.getD_eq_getElem?_getD, List.getElem?_eq_getElem (by omega)]; exact List.getElem_mem _)
  rw [Bool.and_eq_true, decide_eq_true_eq, decide_eq_true_eq] at this
  exact this
end MD

namespace MD
open PySem PySem.Spec L2
/-! ### a dict of rows and counts -/
abbrev WW := List (List Int) × List Int
def lookI : List (List Int) → List Int → List Int → Option Int
  | k' :: ks, v :: vs, k => if k' = k then some v else lookI ks vs k
  | _, _, _ => none
def repI : List (List Int) → List Int → List Int → Int → List Int
  | k' :: ks, v' :: vs, k, v => (if k' = k then v else v') :: repI ks vs k v
  | _, _, _, _ => []
def valW (w : WW) (k : List Int) : Int := (lookI w.1 w.2 k).getD 0
def putW (w : WW) (k : List Int) (v : Int) : WW := if k ∈ w.1 then (w.1, repI w.1 w.2 k v) else (w.1 ++ [k], w.2 ++ [v])
def stepW (w : WW) (r : List Int) (t : WW) (a : Nat) : WW := putW t (exI r a) (valW t (exI r a) + valW w r)
def rowW (n : Nat) (ss : List Int) (w t : WW) (r : List Int) : WW := (nxL n ss r).foldl (stepW w r) t
def goneW (n : Nat) (ss : List Int) (w : WW) : WW := w.1.foldl (rowW n ss w) ([], [])
def wK (w : WW) : List (List Key) := w.1.map keyI
def wD (w : WW) : List D := w.2.map .int
def WOk (w : WW) : Prop := w.1.length = w.2.length
/-! ### a loop run to its end -/
/-! ### the order of a cut -/
def atO (n : Nat) (ss row : List Int) : Nat := (nxL n ss row).headD 0
def rowO (n : Nat) (ss : List Int) : Nat → List Int
  | 0 => nI (List.range n)
  | k + 1 => exI (rowO n ss k) (atO n ss (rowO n ss k))
def toldO (n : Nat) (ss : List Int) (k : Nat) : List Nat := (List.range k).map fun j => atO n ss (rowO n ss j)
def okO (n : Nat) (ss : List Int) : Bool := (List.range (pairs n).length).all fun k => In n (rowO n ss k) && !(nxL n ss (rowO n ss k)).isEmpty
def wF (n : Nat) (ss : List Int) : Nat → WW
  | 0 => ([nI (List.range n)], [1])
  | k + 1 => goneW n ss (wF n ss k)
def rvN (n : Nat) : List Int := (nI (List.range n)).reverse
def okW (n : Nat) (ss : List Int) : Bool := (List.range (pairs n).length).all (fun k => ((wF n ss k).1.all fun r => In n r) && decide ((wF n ss k).1.length ≤ 100) && decide ((wF n ss k).1.length = (wF n ss k).2.length) && !decide (rvN n ∈ (wF n ss k).1)) && decide (rvN n ∈ (wF n ss (pairs n).length).1)
def rowP (n : Nat) (ps : List Nat) : Nat → List Int
  | 0 => nI (List.range n)
  | k + 1 => exI (rowP n ps k) (ps.getD k 0)
def pairP (n : Nat) (ps : List Nat) (k : Nat) : Nat × Nat := (((rowP n ps k).getD (ps.getD k 0) 0).toNat, ((rowP n ps k).getD (ps.getD k 0 + 1) 0).toNat)
def okP (n : Nat) (ps : List Nat) : Bool := decide (ps.length = (pairs n).length) && (List.range ps.length).all (fun k => In n (rowP n ps k) && decide (ps.getD k 0 + 1 < n) && decide ((rowP n ps k).getD (ps.getD k 0) 0 < (rowP n ps k).getD (ps.getD k 0 + 1) 0)) && decide (((List.range ps.length).map (pairP n ps)).Nodup) && (pairs n).all fun p => decide (p ∈ (List.range ps.length).map (pairP n ps))
def valP (ks : List (List Key)) (L : Nat) (p : Nat × Nat) : Int := match dlook ks ((List.range L).map fun (i : Nat) => D.int (i : Int)) (kIJ p) with | some (.int v) => v | _ => 0
theorem okP.len {n : Nat} {ps : List Nat} (h : okP n ps = true) : ps.length = (pairs n).length := by
  unfold okP at h
  rw [Bool.and_eq_true, Bool.and_eq_true, Bool.and_eq_true, decide_eq_true_eq] at h
  exact h.1.1.1
theorem okP.at {n : Nat} {ps : List Nat} (h : okP n ps = true) {k : Nat} (hk : k < ps.length) : InR n (rowP n ps k) ∧ ps.getD k 0 + 1 < n ∧ (rowP n ps k).getD (ps.getD k 0) 0 < (rowP n ps k).getD (ps.getD k 0 + 1) 0 := by
  unfold okP at h
  rw [Bool.and_eq_true, Bool.and_eq_true, Bool.and_eq_true] at h
  have := List.all_eq_true.mp h.1.1.2 k (List.mem_range.mpr hk)
  rw [Bool.and_eq_true, Bool.and_eq_true, decide_eq_true_eq, decide_eq_true_eq] at this
  exact ⟨this.1.1, this.1.2, this.2⟩
theorem okP.nd {n : Nat} {ps : List Nat} (h : okP n ps = true) : ((List.range ps.length).map (pairP n ps)).Nodup := by
  unfold okP at h
  rw [Bool.and_eq_true, Bool.and_eq_true, Bool.and_eq_true] at h
  exact of_decide_eq_true h.1.2
theorem okP.mem {n : Nat} {ps : List Nat} (h : okP n ps = true) {p : Nat × Nat} (hp : p ∈ pairs n) : p ∈ (List.range ps.length).map (pairP n ps) := by
  unfold okP at h
  rw [Bool.and_eq_true, Bool.and_eq_true, Bool.and_eq_true] at h
  exact of_decide_eq_true (List.all_eq_true.mp h.2 p hp)
def oK (n : Nat) (ps : List Nat) (k : Nat) : List (List Key) := (List.range k).map fun j => kIJ (pairP n ps j)
def oD (k : Nat) : List D := (List.range k).map fun (i : Nat) => D.int (i : Int)
theorem okO.at {n : Nat} {ss : List Int} (h : okO n ss = true) {k : Nat} (hk : k < (pairs n).length) : InR n (rowO n ss k) ∧ ∃ l, nxL n ss (rowO n ss k) = atO n ss (rowO n ss k) :: l := by
  unfold okO at h
  have := List.all_eq_true.mp h k (List.mem_range.mpr hk)
  rw [Bool.and_eq_true] at this
  refine ⟨this.1, ?_⟩
  have h2 := this.2
  unfold atO
  cases e : nxL n ss (rowO n ss k) with
  | nil => rw [e] at h2; cases h2
  | cons a l => exact ⟨l, rfl⟩
theorem okW.at {n : Nat} {ss : List Int} (h : okW n ss = true) {k : Nat} (hk : k < (pairs n).length) : (∀ r ∈ (wF n ss k).1, InR n r) ∧ (wF n ss k).1.length ≤ 100 ∧ WOk (wF n ss k) ∧ rvN n ∉ (wF n ss k).1 := by
  unfold okW at h
  rw [Bool.and_eq_true] at h
  have := List.all_eq_true.mp h.1 k (List.mem_range.mpr hk)
  rw [Bool.and_eq_true, Bool.and_eq_true, Bool.and_eq_true, decide_eq_true_eq, decide_eq_true_eq] at this
  exact ⟨fun r hr => List.all_eq_true.mp this.1.1.1 r hr, this.1.1.2, this.1.2, by simpa using this.2⟩
end MD

namespace MD
open PySem PySem.Spec L2
/-! ### answers that are sound, and how great they are -/
def Ok1 (s : Nat) (d : D) : Prop := snd d = true ∧ ddp d ≤ 10 ∧ dsz d ≤ s
def OkA (s : Nat) (l : List D) : Prop := snds l = true ∧ ddps l ≤ 10 ∧ dszs l ≤ s ∧ l.length ≤ s
theorem OkA.nil : OkA 0 [] := ⟨by simp [snds], by simp [ddps], by simp [dszs], Nat.le_refl _⟩
theorem dsz_pos (d : D) : 1 ≤ dsz d := by cases d <;> simp [dsz]
theorem OkA.cons {s t : Nat} {d : D} {l : List D} (h : Ok1 s d) (k : OkA t l) : OkA (s + t) (d :: l) := by
  obtain ⟨h1, h2, h3⟩ := h
  obtain ⟨k1, k2, k3, k4⟩ := k
  refine ⟨by rw [snds, h1, k1]; rfl, by rw [ddps]; omega, by rw [dszs]; omega, ?_⟩
  have := dsz_pos d
  rw [List.length_cons]
  omega
theorem OkA.app {s t : Nat} {a b : List D} (h : OkA s a) (k : OkA t b) : OkA (s + t) (a ++ b) := by
  obtain ⟨h1, h2, h3, h4⟩ := h
  obtain ⟨k1, k2, k3, k4⟩ := k
  exact ⟨by rw [snds_app, h1, k1]; rfl, by rw [ddps_app]; omega, by rw [dszs_app]; omega, by rw [List.length_append]; omega⟩
end MD

namespace MD
open PySem PySem.Spec L2
/-! ### the feet of a cut of exchanges are the sticks before the place -/
end MD

namespace MD
open PySem PySem.Spec L2
/-! ### two sticks, one farther round: sides of the two ways from foot to head -/
/-- not above (0, 0): lower, or as high and not to the right -/
def le0 (u : Pt) : Prop := u.2 < 0 ∨ (u.2 = 0 ∧ u.1 ≤ 0)
def sbP (u v : Pt) : Pt := (u.1 - v.1, u.2 - v.2)
/-- strictly to the left, to the right, of the way by these sticks -/
def sl : List Pt → Pt → Prop
  | [], _ => False
  | v :: vs, r => (le0 (sbP r v) ∧ 0 < sp v r) ∨ (¬ le0 (sbP r v) ∧ sl vs (sbP r v))
def sr : List Pt → Pt → Prop
  | [], _ => False
  | v :: vs, r => (le0 (sbP r v) ∧ sp v r < 0) ∨ (¬ le0 (sbP r v) ∧ sr vs (sbP r v))
def ge0 (u : Pt) : Prop := 0 < u.2 ∨ (u.2 = 0 ∧ 0 ≤ u.1)
/-- what is known of a point between foot and head -/
structure Loc (a b r : Pt) (sl1 sr1 sl2 sr2 : Prop) : Prop where
  ol : sl1 ↔ 0 < sp a r ∧ sp r b < sp a b
  or : sr1 ↔ sp a r < 0 ∨ sp a b < sp r b
  nl : sl2 ↔ sp r b < 0 ∨ sp a b < sp a r
  nr : sr2 ↔ 0 < sp r b ∧ sp a r < sp a b
  lo : ¬ (sp r b ≤ 0 ∧ sp a r < 0) ∧ ¬ (sp r b < 0 ∧ sp a r ≤ 0)
  up : ¬ (sp a b < sp r b ∧ sp a b ≤ sp a r) ∧ ¬ (sp a b ≤ sp r b ∧ sp a b < sp a r)
end MD

namespace MD
open PySem PySem.Spec L2
/-! ### a way through all sticks, two of them exchanged -/
/-- in the slab, with its rim; within it -/
def Slb (a b r : Pt) : Prop := 0 ≤ sp r b ∧ sp r b ≤ sp a b ∧ 0 ≤ sp a r ∧ sp a r ≤ sp a b
def SlbS (a b r : Pt) : Prop := 0 < sp r b ∧ sp r b < sp a b ∧ 0 < sp a r ∧ sp a r < sp a b
section
variable {a b : Pt} (ha : Std a) (hb : Std b) (hw : 0 < sp a b) (l1 l2 : List Pt) {r : Pt} (hs : ∀ v ∈ l1, Std v) (h0 : ge0 r)
include ha hb hw
include hs h0
end
end MD

namespace MD
open PySem PySem.Spec L2
/-! ### the slabs of exchanges lie beside each other, and cover -/
def entR (st : Nat → Pt) (p : Pt) (f : List Int) : Pt := (f.map fun i => st i.toNat).foldl sbP p
section
variable {st : Nat → Pt} {n : Nat} (hS : ∀ i, i < n → Std (st i)) (hW : ∀ i j, i < j → j < n → 0 < sp (st i) (st j)) {p : Pt} (h0 : ge0 p)
def Cl (st : Nat → Pt) (p : Pt) (e : (Nat × Nat) × List Int) : Prop := Slb (st e.1.1) (st e.1.2) (entR st p e.2)
def ClS (st : Nat → Pt) (p : Pt) (e : (Nat × Nat) × List Int) : Prop := SlbS (st e.1.1) (st e.1.2) (entR st p e.2)
include hS hW h0
end
end MD

namespace MD
open PySem PySem.Spec L2
/-! ### a point on the way -/
section
variable {st : Nat → Pt} {n : Nat} (hS : ∀ i, i < n → Std (st i)) (hW : ∀ i j, i < j → j < n → 0 < sp (st i) (st j)) {p : Pt} (h0 : ge0 p)
include hS hW h0
end
end MD

namespace MD
open PySem PySem.Spec L2
/-! ### the body between the first way and the last -/
end MD

namespace MD
open PySem PySem.Spec L2 PyProof.Rows
section
variable {X : Cx} {K : PySem.W.Frag} {e o : Expr} {es : List Expr} {m : ME} {n : MA} {pos apos cpos : Pos}
/-! ### xs.count(y), any plain data -/
def rCountD (K : PySem.W.Frag) : V → List V → Hp → VK → Prop := fun x xs H Q => ∃ (a : Addr) (ys : List V) (y : V) (ds : List PySem.PyData) (d : PySem.PyData), x = V.ref a ∧ xs = [y] ∧ SqL K H a ys ∧ L2.Dp K H y d ∧ L2.DpAll K H ys ds ∧ SeqAt.shaped d = true ∧ ds.all SeqAt.shaped = true ∧ Q (.int ((ds.countP fun e => PySem.PyData.eqv e d) : Nat)) H
def mCount (m : ME) (n : MA) : ME := fun E => (m E).bind fun r => (n E).bind fun rs => match r.d, rs with
  | .list l, [x] => if (okD x.d && l.all okD) = true then some (.c (.int ((l.countP fun e => deq e x.d) : Nat))) else none
  | _, _ => none
end
end MD

namespace MD
open PySem PySem.Spec L2
/-! ### on which side of a slab a point lies: -1 out, 0 on its rim, 1 within -/
def sdI (a b r : Pt) : Int := if sp r b < 0 ∨ sp a r < 0 ∨ sp a b < sp r b ∨ sp a b < sp a r then -1 else if 0 < sp r b ∧ sp r b < sp a b ∧ 0 < sp a r ∧ sp a r < sp a b then 1 else 0
theorem min2_eq (i j : Int) : gMin2 [.c (.int i), .c (.int j)] = some (.c (.int (if j < i then j else i))) := rfl
theorem max2_eq (i j : Int) : gMax2 [.c (.int i), .c (.int j)] = some (.c (.int (if j > i then j else i))) := rfl
/-- the foot that slabs tells -/
def ftP (ss : List Pt) (c : List Int) (p : Nat × Nat) : Pt := sm2 ((footL ss.length c p).map fun a => ss.getD a (0, 0))
end MD

namespace MD
open PySem PySem.Spec L2
section
variable {K : PySem.W.Frag}
/-! ### min of a list -/
def minL : List Int → Int
  | [] => 0
  | [x] => x
  | x :: y :: l => if minL (y :: l) ≤ x then minL (y :: l) else x
def gMinL : GL := fun rs => match rs with
  | [x] => (match x.d with | .list l => (ints? l).bind fun ns => if ns ≠ [] then some (.c (.int (minL ns))) else none | _ => none)
  | _ => none
end
end MD

namespace MD
open PySem PySem.Spec L2
/-! ### whole points of a body, row by row -/
/-- not left of the way of the sticks (e = 0), strictly right of it (e = 1) -/
def rtE (e : Int) : List Pt → Pt → Prop
  | [], _ => True
  | s :: l, p => e ≤ sp s p ∧ rtE e l (sb p s)
def rhoE (e : Int) : List Pt → Int → Int
  | [], _ => 0
  | s :: l, y => if y < s.2 then (s.1 * y - e) / s.2 else s.1 + rhoE e l (y - s.2)
/-- sticks that lead up, each farther round -/
def Up (l : List Pt) : Prop := (∀ s ∈ l, 0 < s.2) ∧ l.Pairwise fun a b => 0 < sp a b
theorem Up.tail {s : Pt} {l : List Pt} (h : Up (s :: l)) : Up l := ⟨fun t ht => h.1 t (List.mem_cons_of_mem _ ht), (List.pairwise_cons.mp h.2).2⟩
theorem Up.y {l : List Pt} (h : Up l) : 0 ≤ (sm2 l).2 := by
  induction l with
  | nil => exact Int.le_refl _
  | cons s l ih =>
    rw [sm2_cons]
    have := ih h.tail
    have := h.1 s List.mem_cons_self
    show 0 ≤ s.2 + (sm2 l).2
    omega
theorem Up.y1 {s : Pt} {l : List Pt} (h : Up (s :: l)) : 0 < (sm2 (s :: l)).2 := by
  rw [sm2_cons]
  have := h.tail.y
  have := h.1 s List.mem_cons_self
  show 0 < s.2 + (sm2 l).2
  omega
theorem Up.spT {s : Pt} {l : List Pt} (h : Up (s :: l)) : 0 ≤ sp s (sm2 l) := by
  have q := (List.pairwise_cons.mp h.2).1
  rw [(lin_sp s).sum]
  clear h
  induction l with
  | nil => exact Int.le_refl _
  | cons a l ih =>
    rw [List.map_cons, List.sum_cons]
    have := ih fun t ht => q t (List.mem_cons_of_mem _ ht)
    have := q a List.mem_cons_self
    omega
theorem Up.spT1 {s a : Pt} {l : List Pt} (h : Up (s :: a :: l)) : 0 < sp s (sm2 (a :: l)) := by
  have q := (List.pairwise_cons.mp h.2).1 a List.mem_cons_self
  have h2 : Up (s :: l) := ⟨fun t ht => h.1 t ((List.mem_cons.mp ht).elim (fun z => z ▸ List.mem_cons_self) fun z => List.mem_cons_of_mem _ (List.mem_cons_of_mem _ z)), by
    have := h.2
    rw [List.pairwise_cons, List.pairwise_cons] at this
    exact List.pairwise_cons.mpr ⟨fun t ht => this.1 t (List.mem_cons_of_mem _ ht), this.2.2⟩⟩
  have := h2.spT
  rw [sm2_cons, sp_adr]
  omega
theorem id1 (s t q : Pt) : s.2 * sp t q = t.2 * sp s q - q.2 * sp s t := by unfold sp; grind
theorem ge_of {b z A e : Int} (he : e = 0 ∨ e = 1) (hb : 0 < b) (h : b * z = A) (hA : e ≤ A) : e ≤ z := by
  rcases he with rfl | rfl
  · exact Int.not_lt.mp fun c => by
      have := Int.mul_neg_of_pos_of_neg hb c
      omega
  · exact Int.not_lt.mp fun c => by
      have : z ≤ 0 := by omega
      have := Int.mul_nonpos_of_nonneg_of_nonpos (Int.le_of_lt hb) this
      omega
theorem mul_ge {b z e : Int} (he : e = 0 ∨ e = 1) (hb : 0 < b) (h : e ≤ z) : e ≤ b * z := by
  rcases he with rfl | rfl
  · exact Int.mul_nonneg (Int.le_of_lt hb) h
  · have := Int.mul_pos hb (show 0 < z by omega); omega
theorem sp_sb (s p q : Pt) : sp s (sb p q) = sp s p - sp s q := (lin_sp s).sb p q
section
variable {e : Int} (he : e = 0 ∨ e = 1)
include he
theorem rt_low : ∀ {l : List Pt} {s q : Pt}, Up (s :: l) → q.2 ≤ 0 → e ≤ sp s q → rtE e l q
  | [], _, _, _, _, _ => trivial
  | t :: l, s, q, h, hq, hs => by
    have h1 := h.1 s List.mem_cons_self
    have h2 := h.1 t (List.mem_cons_of_mem _ List.mem_cons_self)
    have h3 := (List.pairwise_cons.mp h.2).1 t List.mem_cons_self
    have a1 := mul_ge he h2 hs
    have a2 := Int.mul_nonneg (show 0 ≤ -q.2 by omega) (Int.le_of_lt h3)
    rw [Int.neg_mul] at a2
    have h4 : e ≤ sp t q := ge_of he h1 (id1 s t q) (by omega)
    refine ⟨h4, rt_low h.tail (show q.2 - t.2 ≤ 0 by omega) ?_⟩
    rw [sp_sb, sp_self]
    omega
theorem up_rt {s t q : Pt} (hs : 0 < s.2) (ht : 0 < t.2) (h3 : 0 ≤ sp s t) (hq : 0 ≤ q.2) (h : e ≤ sp t q) : e ≤ sp s q := by
  have a1 := mul_ge he hs h
  have a2 := Int.mul_nonneg hq h3
  have := id1 s t q
  exact ge_of he ht (A := s.2 * sp t q + q.2 * sp s t) (by omega) (by omega)
theorem le_div {a b x : Int} (hb : 0 < b) : x ≤ a / b ↔ b * x ≤ a := by
  rw [Int.le_ediv_iff_mul_le hb, Int.mul_comm]
theorem rt_iff : ∀ {l : List Pt} {x y : Int}, Up l → l ≠ [] → 0 ≤ y → y + e ≤ (sm2 l).2 → (rtE e l (x, y) ↔ x ≤ rhoE e l y)
  | [], _, _, _, n, _, _ => absurd rfl n
  | s :: l, x, y, h, _, y0, y1 => by
    have h1 := h.1 s List.mem_cons_self
    rw [sm2_cons] at y1
    have y1 : y + e ≤ s.2 + (sm2 l).2 := y1
    unfold rtE rhoE
    by_cases c : y < s.2
    · rw [if_pos c, le_div he h1]
      have : sp s (x, y) = s.1 * y - s.2 * x := rfl
      constructor
      · intro q; have := q.1; omega
      · intro q
        refine ⟨by omega, rt_low he h (show y - s.2 ≤ 0 by omega) ?_⟩
        rw [sp_sb, sp_self]
        omega
    · rw [if_neg c]
      cases l with
      | nil =>
        have y1 : y + e ≤ s.2 + 0 := y1
        rcases he with rfl | rfl
        · have : y = s.2 := by omega
          subst this
          have : sp s (x, s.2) = s.2 * (s.1 - x) := by unfold sp; grind
          unfold rhoE rtE
          rw [this]
          constructor
          · intro q
            have := ge_of (.inl rfl) h1 rfl q.1
            omega
          · intro q
            exact ⟨Int.mul_nonneg (Int.le_of_lt h1) (by omega), trivial⟩
        · omega
      | cons t l =>
        have ih := rt_iff (x := x - s.1) (y := y - s.2) h.tail (by simp) (by omega) (by omega)
        show _ ∧ rtE e (t :: l) (x - s.1, y - s.2) ↔ _
        rw [ih]
        constructor
        · intro q; have := q.2; omega
        · intro q
          refine ⟨?_, by omega⟩
          have h2 := h.1 t (List.mem_cons_of_mem _ List.mem_cons_self)
          have h3 := (List.pairwise_cons.mp h.2).1 t List.mem_cons_self
          have q2 : rtE e (t :: l) (x - s.1, y - s.2) := ih.mpr (by omega)
          have q3 := up_rt he h1 h2 (Int.le_of_lt h3) (q := (x - s.1, y - s.2)) (show 0 ≤ y - s.2 by omega) q2.1
          have : sp s (x - s.1, y - s.2) = sp s (x, y) - sp s s := sp_sb s (x, y) s
          rw [sp_self] at this
          omega
/-- the straight line to the end is in -/
theorem rt_chord : ∀ {l : List Pt} {p : Pt}, Up l → l ≠ [] → 0 ≤ p.2 → p.2 ≤ (sm2 l).2 → e ≤ sp (sm2 l) p → rtE e l p
  | [], _, _, n, _, _, _ => absurd rfl n
  | s :: l, p, h, _, y0, y1, hp => by
    have h1 := h.1 s List.mem_cons_self
    have hT := h.y1
    have hs : sp s (sm2 (s :: l)) = sp s (sm2 l) := by rw [sm2_cons, sp_adr, sp_self]; omega
    have h4 := h.spT
    have b1 : e ≤ sp s p := up_rt he h1 hT (by omega) y0 hp
    refine ⟨b1, ?_⟩
    by_cases c : p.2 - s.2 ≤ 0
    · refine rt_low he h (show p.2 - s.2 ≤ 0 from c) ?_
      rw [sp_sb, sp_self]
      omega
    · have yy : (sm2 (s :: l)).2 = s.2 + (sm2 l).2 := by rw [sm2_cons]; rfl
      cases l with
      | nil => have : (sm2 ([] : List Pt)).2 = 0 := rfl; omega
      | cons t l =>
        refine rt_chord h.tail (by simp) (show 0 ≤ p.2 - s.2 by omega) (show p.2 - s.2 ≤ _ by omega) ?_
        have hT' := h.tail.y1
        generalize eT : sm2 (t :: l) = T' at *
        have e1 : sm2 (s :: t :: l) = ad s T' := by rw [sm2_cons, eT]
        rw [e1] at hp hT yy y1
        have q : (ad s T').2 * sp T' (sb p s) = T'.2 * sp (ad s T') p + ((ad s T').2 - p.2) * sp s T' := by unfold sp sb ad; grind
        have a1 := mul_ge he hT' hp
        have a2 := Int.mul_nonneg (show 0 ≤ (ad s T').2 - p.2 by omega) h4
        exact ge_of he hT q (by omega)
end
/-- strictly, where two sticks or more are there -/
theorem rt_chord1 {s t : Pt} {l : List Pt} {p : Pt} (h : Up (s :: t :: l)) (y0 : 0 < p.2) (y1 : p.2 < (sm2 (s :: t :: l)).2) (hp : 0 ≤ sp (sm2 (s :: t :: l)) p) : rtE 1 (s :: t :: l) p := by
  have h1 := h.1 s List.mem_cons_self
  have hT := h.y1
  have hT' := h.tail.y1
  have h4 := h.spT1
  generalize eT : sm2 (t :: l) = T' at *
  have e1 : sm2 (s :: t :: l) = ad s T' := by rw [sm2_cons, eT]
  rw [e1] at hp hT y1
  have he : (1 : Int) = 0 ∨ (1 : Int) = 1 := .inr rfl
  have q0 : (ad s T').2 * sp s p = s.2 * sp (ad s T') p + p.2 * sp s T' := by unfold sp ad; grind
  have a0 := Int.mul_nonneg (Int.le_of_lt h1) hp
  have a0' := Int.mul_pos y0 h4
  have b1 : 1 ≤ sp s p := ge_of he hT q0 (by omega)
  refine ⟨b1, ?_⟩
  by_cases c : p.2 - s.2 ≤ 0
  · refine rt_low he h (show p.2 - s.2 ≤ 0 from c) ?_
    rw [sp_sb, sp_self]
    omega
  · have yy : (ad s T').2 = s.2 + T'.2 := rfl
    refine rt_chord he h.tail (by simp) (show 0 ≤ p.2 - s.2 by omega) (show p.2 - s.2 ≤ _ by rw [eT]; omega) ?_
    rw [eT]
    have q : (ad s T').2 * sp T' (sb p s) = T'.2 * sp (ad s T') p + ((ad s T').2 - p.2) * sp s T' := by unfold sp sb ad; grind
    have a1 := Int.mul_nonneg (Int.le_of_lt hT') hp
    have a2 := Int.mul_pos (show 0 < (ad s T').2 - p.2 by omega) h4
    exact ge_of he hT q (by omega)
/-! rows are not narrower than nothing -/
theorem half_le {H X a b y : Int} (hH : 0 < H) (h1 : X * y < H * a) (h2 : X * (H - y) < H * b) : X < a + b := by
  have : H * X < H * (a + b) := by grind
  exact Int.lt_of_mul_lt_mul_left this (Int.le_of_lt hH)
theorem half_le' {H X a b y : Int} (hH : 0 < H) (h1 : X * y ≤ H * a) (h2 : X * (H - y) ≤ H * b) : X ≤ a + b := by
  have : H * X ≤ H * (a + b) := by grind
  exact Int.le_of_mul_le_mul_left this hH
theorem wide0 {l : List Pt} {y : Int} (h : Up l) (n : l ≠ []) (y0 : 0 ≤ y) (y1 : y ≤ (sm2 l).2) : (sm2 l).1 - 1 ≤ rhoE 0 l y + rhoE 0 l ((sm2 l).2 - y) := by
  have he : (0 : Int) = 0 ∨ (0 : Int) = 1 := .inl rfl
  have hT : 0 < (sm2 l).2 := by cases l with | nil => exact absurd rfl n | cons s l => exact h.y1
  have one : ∀ z : Int, 0 ≤ z → z ≤ (sm2 l).2 → (sm2 l).1 * z < (sm2 l).2 * (rhoE 0 l z + 1) := fun z z0 z1 => by
    have a := rt_iff he (x := rhoE 0 l z + 1) h n z0 (by omega)
    have b : ¬ (0 ≤ sp (sm2 l) (rhoE 0 l z + 1, z)) := fun c => by
      have := a.mp (rt_chord he (p := (rhoE 0 l z + 1, z)) h n z0 z1 c)
      omega
    have : sp (sm2 l) (rhoE 0 l z + 1, z) = (sm2 l).1 * z - (sm2 l).2 * (rhoE 0 l z + 1) := rfl
    omega
  have := half_le hT (one y y0 y1) (one _ (by omega) (by omega))
  omega
theorem wide1 {l : List Pt} {y : Int} (h : Up l) (n : l ≠ []) (y0 : 0 < y) (y1 : y < (sm2 l).2) : (sm2 l).1 - 2 ≤ rhoE 1 l y + rhoE 1 l ((sm2 l).2 - y) ∧ (2 ≤ l.length → (sm2 l).1 - 1 ≤ rhoE 1 l y + rhoE 1 l ((sm2 l).2 - y)) := by
  have he : (1 : Int) = 0 ∨ (1 : Int) = 1 := .inr rfl
  have hT : 0 < (sm2 l).2 := by omega
  constructor
  · have one : ∀ z : Int, 0 < z → z < (sm2 l).2 → (sm2 l).1 * z ≤ (sm2 l).2 * (rhoE 1 l z + 1) := fun z z0 z1 => by
      have a := rt_iff he (x := rhoE 1 l z + 1) h n (Int.le_of_lt z0) (by omega)
      have b : ¬ (1 ≤ sp (sm2 l) (rhoE 1 l z + 1, z)) := fun c => by
        have := a.mp (rt_chord he (p := (rhoE 1 l z + 1, z)) h n (Int.le_of_lt z0) (Int.le_of_lt z1) c)
        omega
      have : sp (sm2 l) (rhoE 1 l z + 1, z) = (sm2 l).1 * z - (sm2 l).2 * (rhoE 1 l z + 1) := rfl
      omega
    have := half_le' hT (one y y0 y1) (one _ (by omega) (by omega))
    omega
  · intro l2
    have one : ∀ z : Int, 0 < z → z < (sm2 l).2 → (sm2 l).1 * z < (sm2 l).2 * (rhoE 1 l z + 1) := fun z z0 z1 => by
      have a := rt_iff he (x := rhoE 1 l z + 1) h n (Int.le_of_lt z0) (by omega)
      have b : ¬ (0 ≤ sp (sm2 l) (rhoE 1 l z + 1, z)) := fun c => by
        cases l with
        | nil => exact absurd rfl n
        | cons s l =>
          cases l with
          | nil => simp at l2
          | cons t l =>
            have := a.mp (rt_chord1 (p := (rhoE 1 (s :: t :: l) z + 1, z)) h z0 z1 c)
            omega
      have : sp (sm2 l) (rhoE 1 l z + 1, z) = (sm2 l).1 * z - (sm2 l).2 * (rhoE 1 l z + 1) := rfl
      omega
    have := half_le hT (one y y0 y1) (one _ (by omega) (by omega))
    omega
end MD

namespace MD
open PySem PySem.Spec L2
/-! ### sums over rows -/
def sZ (f : Nat → Int) : Nat → Int
  | 0 => 0
  | n + 1 => sZ f n + f n
theorem sZ_app (f : Nat → Int) (n : Nat) : ∀ m, sZ f (n + m) = sZ f n + sZ (fun k => f (n + k)) m
  | 0 => by simp [sZ]
  | m + 1 => by
    show sZ f (n + m) + f (n + m) = sZ f n + (sZ (fun k => f (n + k)) m + f (n + m))
    rw [sZ_app f n m]
    omega
theorem sZ_cg {f g : Nat → Int} : ∀ {n : Nat}, (∀ k, k < n → f k = g k) → sZ f n = sZ g n
  | 0, _ => rfl
  | n + 1, h => by
    show sZ f n + f n = sZ g n + g n
    rw [sZ_cg fun k hk => h k (Nat.lt_succ_of_lt hk), h n (Nat.lt_succ_self n)]
theorem sZ_add (f g : Nat → Int) : ∀ n, sZ (fun k => f k + g k) n = sZ f n + sZ g n
  | 0 => rfl
  | n + 1 => by
    show sZ (fun k => f k + g k) n + (f n + g n) = sZ f n + f n + (sZ g n + g n)
    rw [sZ_add f g n]
    omega
theorem sZ_c (c : Int) : ∀ n : Nat, sZ (fun _ => c) n = n * c
  | 0 => by simp [sZ]
  | n + 1 => by
    show sZ (fun _ => c) n + c = _
    rw [sZ_c c n]
    grind
theorem sZ_cons (f : Nat → Int) (n : Nat) : sZ f (n + 1) = f 0 + sZ (fun k => f (k + 1)) n := by
  have := sZ_app f 1 n
  rw [Nat.add_comm n 1, this]
  have : sZ f 1 = f 0 := by simp [sZ]
  rw [this]
  congr 1
  exact sZ_cg fun k _ => by rw [Nat.add_comm]
def FE (e a b : Int) : Int := sZ (fun k => (a * k - e) / b) b.toNat
theorem FE_all : ∀ i : Nat, i < 13 → ∀ j : Nat, j < 6 → 2 * FE 0 ((i : Int) - 6) ((j : Int) + 1) = ((i : Int) - 6) * (j + 1) - ((i : Int) - 6) - (j + 1) + Int.gcd ((i : Int) - 6) (j + 1) ∧ 2 * FE 1 ((i : Int) - 6) ((j : Int) + 1) = ((i : Int) - 6) * (j + 1) - ((i : Int) - 6) - (j + 1) - Int.gcd ((i : Int) - 6) (j + 1) := by decide +kernel
theorem FE_ok {a b : Int} (h1 : -6 ≤ a) (h2 : a ≤ 6) (h3 : 1 ≤ b) (h4 : b ≤ 6) : 2 * FE 0 a b = a * b - a - b + Int.gcd a b ∧ 2 * FE 1 a b = a * b - a - b - Int.gcd a b := by
  have := FE_all (a + 6).toNat (by omega) (b - 1).toNat (by omega)
  rw [show (((a + 6).toNat : Nat) : Int) - 6 = a by omega, show (((b - 1).toNat : Nat) : Int) + 1 = b by omega] at this
  exact this
def gs (l : List Pt) : Int := (l.map fun s => (Int.gcd s.1 s.2 : Int)).sum
theorem gs_cons (s : Pt) (l : List Pt) : gs (s :: l) = Int.gcd s.1 s.2 + gs l := by unfold gs; rw [List.map_cons, List.sum_cons]
def Sml (l : List Pt) : Prop := ∀ s ∈ l, -6 ≤ s.1 ∧ s.1 ≤ 6 ∧ s.2 ≤ 6
theorem be_step (e : Int) (he : e = 0 ∨ e = 1) {s : Pt} {l : List Pt} (h : Up (s :: l)) (M : Nat) :
    sZ (fun k => rhoE e (s :: l) k) (s.2.toNat + M) = FE e s.1 s.2 + M * s.1 + sZ (fun k => rhoE e l k) M := by
  have h1 := h.1 s List.mem_cons_self
  rw [sZ_app]
  have e1 : sZ (fun k => rhoE e (s :: l) k) s.2.toNat = FE e s.1 s.2 := sZ_cg fun k hk => by
    show (if (k : Int) < s.2 then _ else _) = _
    rw [if_pos (by omega)]
  have e2 : sZ (fun k => rhoE e (s :: l) ((s.2.toNat + k : Nat) : Int)) M = sZ (fun k => s.1 + rhoE e l k) M := sZ_cg fun k hk => by
    show (if ((s.2.toNat + k : Nat) : Int) < s.2 then _ else _) = _
    rw [if_neg (by omega), show ((s.2.toNat + k : Nat) : Int) - s.2 = k by omega]
  rw [e1, e2, sZ_add, sZ_c]
  omega
theorem be_0 : ∀ {l : List Pt}, Up l → Sml l → 2 * sZ (fun k => rhoE 0 l k) ((sm2 l).2 + 1).toNat = (1 + gs l + cov l) + ((sm2 l).2 + 1) * ((sm2 l).1 - 1)
  | [], _, _ => by decide
  | s :: l, h, hs => by
    have h1 := h.1 s List.mem_cons_self
    obtain ⟨b1, b2, b3⟩ := hs s List.mem_cons_self
    have hy := h.tail.y
    have ih := be_0 h.tail fun t ht => hs t (List.mem_cons_of_mem _ ht)
    have f := (FE_ok b1 b2 h1 b3).1
    have e0 : (sm2 (s :: l)).2 = s.2 + (sm2 l).2 := by rw [sm2_cons]; rfl
    have e1 : (sm2 (s :: l)).1 = s.1 + (sm2 l).1 := by rw [sm2_cons]; rfl
    rw [e0, e1, show (s.2 + (sm2 l).2 + 1).toNat = s.2.toNat + ((sm2 l).2 + 1).toNat by omega, be_step 0 (.inl rfl) h, gs_cons]
    have e2 : cov (s :: l) = sp s (sm2 l) + cov l := rfl
    have e3 : sp s (sm2 l) = s.1 * (sm2 l).2 - s.2 * (sm2 l).1 := rfl
    have e4 : ((((sm2 l).2 + 1).toNat : Nat) : Int) = (sm2 l).2 + 1 := by omega
    rw [e2, e3, e4]
    grind
theorem be_1 : ∀ {l : List Pt}, Up l → Sml l → 2 * sZ (fun k => rhoE 1 l k) (sm2 l).2.toNat = (1 - gs l + cov l) - 2 + ((sm2 l).2 - 1) * ((sm2 l).1 - 1)
  | [], _, _ => by decide
  | s :: l, h, hs => by
    have h1 := h.1 s List.mem_cons_self
    obtain ⟨b1, b2, b3⟩ := hs s List.mem_cons_self
    have hy := h.tail.y
    have ih := be_1 h.tail fun t ht => hs t (List.mem_cons_of_mem _ ht)
    have f := (FE_ok b1 b2 h1 b3).2
    have e0 : (sm2 (s :: l)).2 = s.2 + (sm2 l).2 := by rw [sm2_cons]; rfl
    have e1 : (sm2 (s :: l)).1 = s.1 + (sm2 l).1 := by rw [sm2_cons]; rfl
    rw [e0, e1, show (s.2 + (sm2 l).2).toNat = s.2.toNat + (sm2 l).2.toNat by omega, be_step 1 (.inr rfl) h, gs_cons]
    have e2 : cov (s :: l) = sp s (sm2 l) + cov l := rfl
    have e3 : sp s (sm2 l) = s.1 * (sm2 l).2 - s.2 * (sm2 l).1 := rfl
    have e4 : (((sm2 l).2.toNat : Nat) : Int) = (sm2 l).2 := by omega
    rw [e2, e3, e4]
    grind
/-! ### a body's rows -/
structure Rows (l : List Pt) : Prop where
  hy : 0 < (sm2 l).2
  i0 : ∀ x y : Int, 0 ≤ y → y ≤ (sm2 l).2 → (rtE 0 l (x, y) ↔ x ≤ rhoE 0 l y)
  i1 : ∀ x y : Int, 0 < y → y < (sm2 l).2 → (rtE 1 l (x, y) ↔ x ≤ rhoE 1 l y)
  w0 : ∀ y : Int, 0 ≤ y → y ≤ (sm2 l).2 → (sm2 l).1 - 1 ≤ rhoE 0 l y + rhoE 0 l ((sm2 l).2 - y)
  w1 : ∀ y : Int, 0 < y → y < (sm2 l).2 → (sm2 l).1 - 1 ≤ rhoE 1 l y + rhoE 1 l ((sm2 l).2 - y)
  bot : ∀ x : Int, rtE 1 l (x, 0) → rtE 0 l (sb (sm2 l) (x, 0)) → False
  s0 : 2 * sZ (fun k => rhoE 0 l k) ((sm2 l).2 + 1).toNat = (1 + gs l + cov l) + ((sm2 l).2 + 1) * ((sm2 l).1 - 1)
  s1 : 2 * sZ (fun k => rhoE 1 l ((k + 1 : Nat) : Int)) ((sm2 l).2 - 1).toNat = (1 - gs l + cov l) + ((sm2 l).2 - 1) * ((sm2 l).1 - 1)
theorem rho_end : ∀ {l : List Pt}, Up l → rhoE 0 l (sm2 l).2 = (sm2 l).1
  | [], _ => rfl
  | s :: l, h => by
    have hy := h.tail.y
    have e0 : (sm2 (s :: l)).2 = s.2 + (sm2 l).2 := by rw [sm2_cons]; rfl
    have e1 : (sm2 (s :: l)).1 = s.1 + (sm2 l).1 := by rw [sm2_cons]; rfl
    rw [e0, e1]
    show (if s.2 + (sm2 l).2 < s.2 then _ else _) = _
    rw [if_neg (by omega), show s.2 + (sm2 l).2 - s.2 = (sm2 l).2 by omega, rho_end h.tail]
theorem rho1_0 {s : Pt} {l : List Pt} (h : Up (s :: l)) : rhoE 1 (s :: l) 0 = -1 := by
  have h1 := h.1 s List.mem_cons_self
  show (if (0 : Int) < s.2 then _ else _) = _
  rw [if_pos h1, show s.1 * 0 - 1 = -1 by omega]
  apply Int.le_antisymm
  · have := (le_div (e := 0) (.inl rfl) (a := -1) (b := s.2) (x := 0) h1)
    have : ¬ (0 ≤ -1 / s.2) := fun c => by have := this.mp c; omega
    omega
  · exact (le_div (e := 0) (.inl rfl) h1).mpr (by omega)
theorem s1_of {f : Nat → Int} {H v a : Int} (hH : 0 < H) (h : 2 * sZ f H.toNat = v) (h0 : f 0 = a) : 2 * sZ (fun k => f (k + 1)) (H - 1).toNat = v - 2 * a := by
  have : H.toNat = (H - 1).toNat + 1 := by omega
  rw [this, sZ_cons, h0] at h
  omega
theorem rows_up {s t : Pt} {l : List Pt} (h : Up (s :: t :: l)) (hs : Sml (s :: t :: l)) : Rows (s :: t :: l) where
  hy := h.y1
  i0 := fun x y y0 y1 => rt_iff (.inl rfl) h (by simp) y0 (by omega)
  i1 := fun x y y0 y1 => rt_iff (.inr rfl) h (by simp) (Int.le_of_lt y0) (by omega)
  w0 := fun y y0 y1 => wide0 h (by simp) y0 y1
  w1 := fun y y0 y1 => (wide1 h (by simp) y0 y1).2 (by simp)
  bot := fun x a b => by
    have hy := h.y1
    have a' := (rt_iff (e := 1) (.inr rfl) (x := x) h (by simp) (Int.le_refl 0) (by omega)).mp a
    rw [rho1_0 h] at a'
    have b' := (rt_iff (e := 0) (.inl rfl) (x := (sm2 (s :: t :: l)).1 - x) (y := (sm2 (s :: t :: l)).2) h (by simp) (Int.le_of_lt hy) (by omega)).mp (by
      have : sb (sm2 (s :: t :: l)) (x, 0) = ((sm2 (s :: t :: l)).1 - x, (sm2 (s :: t :: l)).2) := by unfold sb; simp
      rw [← this]; exact b)
    rw [rho_end h] at b'
    omega
  s0 := be_0 h hs
  s1 := by
    have := s1_of (f := fun k => rhoE 1 (s :: t :: l) k) h.y1 (be_1 h hs) (rho1_0 h)
    rw [show ((1 - gs (s :: t :: l) + cov (s :: t :: l)) + ((sm2 (s :: t :: l)).2 - 1) * ((sm2 (s :: t :: l)).1 - 1)) = 1 - gs (s :: t :: l) + cov (s :: t :: l) - 2 + ((sm2 (s :: t :: l)).2 - 1) * ((sm2 (s :: t :: l)).1 - 1) - 2 * -1 by omega]
    exact this
theorem rows_h {a : Int} {s : Pt} {l : List Pt} (ha : 0 < a) (h : Up (s :: l)) (hs : Sml (s :: l)) : Rows ((a, 0) :: s :: l) := by
  have eT : sm2 ((a, 0) :: s :: l) = (a + (sm2 (s :: l)).1, (sm2 (s :: l)).2) := by rw [sm2_cons]; unfold ad; simp
  have er : ∀ (e y : Int), 0 ≤ y → rhoE e ((a, 0) :: s :: l) y = a + rhoE e (s :: l) y := fun e y y0 => by
    show (if y < 0 then _ else a + rhoE e (s :: l) (y - 0)) = _
    rw [if_neg (by omega), Int.sub_zero]
  have et : ∀ (e x y : Int), rtE e ((a, 0) :: s :: l) (x, y) ↔ e ≤ a * y ∧ rtE e (s :: l) (x - a, y) := fun e x y => by
    show e ≤ sp (a, 0) (x, y) ∧ rtE e (s :: l) (x - a, y - 0) ↔ _
    rw [Int.sub_zero, show sp (a, 0) (x, y) = a * y by unfold sp; simp]
  have hg : (Int.gcd a 0 : Int) = a := by rw [Int.gcd_zero_right]; omega
  have hy := h.y1
  have h0 := be_0 h hs
  have h1 := be_1 h hs
  have hc : cov ((a, 0) :: s :: l) = a * (sm2 (s :: l)).2 + cov (s :: l) := by
    show sp (a, 0) (sm2 (s :: l)) + _ = _
    rw [show sp (a, 0) (sm2 (s :: l)) = a * (sm2 (s :: l)).2 by unfold sp; simp]
  generalize eU : sm2 (s :: l) = T at *
  refine ⟨by rw [eT]; exact hy, ?_, ?_, ?_, ?_, ?_, ?_, ?_⟩
  · intro x y y0 y1
    rw [eT] at y1
    rw [et, er 0 y y0, rt_iff (.inl rfl) h (by simp) y0 (by rw [eU]; have y1 : y ≤ T.2 := y1; omega)]
    have := Int.mul_nonneg (Int.le_of_lt ha) y0
    constructor
    · intro q; have := q.2; omega
    · intro q; exact ⟨this, by omega⟩
  · intro x y y0 y1
    rw [eT] at y1
    rw [et, er 1 y (Int.le_of_lt y0), rt_iff (.inr rfl) h (by simp) (Int.le_of_lt y0) (by rw [eU]; have y1 : y < T.2 := y1; omega)]
    have := Int.mul_pos ha y0
    constructor
    · intro q; have := q.2; omega
    · intro q; exact ⟨by omega, by omega⟩
  · intro y y0 y1
    rw [eT] at y1 ⊢
    have y1 : y ≤ T.2 := y1
    show a + T.1 - 1 ≤ rhoE 0 _ y + rhoE 0 _ (T.2 - y)
    rw [er 0 y y0, er 0 _ (by omega)]
    have := wide0 h (by simp) y0 (by rw [eU]; exact y1)
    rw [eU] at this
    omega
  · intro y y0 y1
    rw [eT] at y1 ⊢
    have y1 : y < T.2 := y1
    show a + T.1 - 1 ≤ rhoE 1 _ y + rhoE 1 _ (T.2 - y)
    rw [er 1 y (Int.le_of_lt y0), er 1 _ (by omega)]
    have := (wide1 h (by simp) y0 (by rw [eU]; exact y1)).1
    rw [eU] at this
    omega
  · intro x q _
    have := ((et 1 x 0).mp q).1
    omega
  · rw [eT]
    show 2 * sZ (fun k => rhoE 0 ((a, 0) :: s :: l) k) (T.2 + 1).toNat = _ + (T.2 + 1) * (a + T.1 - 1)
    rw [sZ_cg (g := fun k : Nat => a + rhoE 0 (s :: l) k) fun k _ => er 0 k (by omega), sZ_add, sZ_c, gs_cons, hc]
    have e4 : (((T.2 + 1).toNat : Nat) : Int) = T.2 + 1 := by omega
    show 2 * (((T.2 + 1).toNat : Nat) * a + _) = 1 + ((Int.gcd a 0 : Int) + gs (s :: l)) + (a * T.2 + cov (s :: l)) + _
    rw [e4, hg]
    grind
  · have := s1_of (f := fun k => rhoE 1 (s :: l) k) hy h1 (rho1_0 h)
    rw [eT]
    show 2 * sZ (fun k => rhoE 1 ((a, 0) :: s :: l) ((k + 1 : Nat) : Int)) (T.2 - 1).toNat = _ + (T.2 - 1) * (a + T.1 - 1)
    rw [sZ_cg (g := fun k : Nat => a + rhoE 1 (s :: l) ((k + 1 : Nat) : Int)) fun k _ => er 1 _ (by omega), sZ_add, sZ_c, gs_cons, hc]
    have e4 : (((T.2 - 1).toNat : Nat) : Int) = T.2 - 1 := by omega
    show 2 * (((T.2 - 1).toNat : Nat) * a + _) = 1 - ((Int.gcd a 0 : Int) + gs (s :: l)) + (a * T.2 + cov (s :: l)) + _
    rw [e4, hg]
    grind
end MD

namespace MD
open PySem PySem.Spec L2
/-! ### how many whole points a body has, and its rim -/
def inB (e : Int) (ss : List Pt) (q : Pt) : Bool := (List.range (2 * ss.length)).all fun k => decide (e ≤ side ss q k)
def rimB (ss : List Pt) (q : Pt) : Bool := (List.range (2 * ss.length)).any fun k => decide (side ss q k = 0)
def cI (b : Bool) : Int := if b then 1 else 0
section
variable {ss : List Pt} (R : Rows ss) {lo : Int} {nx : Nat} (hc : ∀ q : Pt, hld ss q = true → lo ≤ q.1 ∧ q.1 < lo + nx)
include R
include hc
end
theorem upS_of {s : Pt} {l : List Pt} (hs : 0 < s.2) (hd : ∀ t ∈ l, Std t) (pw : (s :: l).Pairwise fun a b => 0 < sp a b) : Up (s :: l) := by
  refine ⟨fun t ht => ?_, pw⟩
  rcases List.mem_cons.mp ht with z | z
  · rw [z]; exact hs
  · have h1 := (List.pairwise_cons.mp pw).1 t z
    rcases hd t z with q | ⟨q, q2⟩
    · exact q
    · have e : sp s t = -(s.2 * t.1) := by unfold sp; rw [q]; omega
      have := Int.mul_pos hs q2
      omega
theorem SOk.rows {ss : List Pt} (h : SOk ss) (h2 : 2 ≤ ss.length) (hs : Sml ss) : Rows ss := by
  match ss, h, h2, hs with
  | s :: t :: l, h, _, hs =>
    have hd : ∀ u ∈ t :: l, Std u := fun u hu => h.sd u (List.mem_cons_of_mem _ hu)
    rcases h.sd s List.mem_cons_self with q | ⟨q, q2⟩
    · exact rows_up (upS_of q hd h.pw) hs
    · obtain ⟨a, b⟩ := s
      have q : b = 0 := q
      subst q
      have h1 := (List.pairwise_cons.mp h.pw).1 t List.mem_cons_self
      have e : sp (a, 0) t = a * t.2 := by unfold sp; simp
      have ht : 0 < t.2 := by
        rcases hd t List.mem_cons_self with z | ⟨z, _⟩
        · exact z
        · rw [e, z] at h1; omega
      exact rows_h q2 (upS_of ht (fun u hu => hd u (List.mem_cons_of_mem _ hu)) (List.pairwise_cons.mp h.pw).2) fun u hu => hs u (List.mem_cons_of_mem _ hu)
/-! the room that is looked at -/
def xsC (ss : List Pt) : List Int := (cor ss).map (·.1)
def ysC (ss : List Pt) : List Int := (cor ss).map (·.2)
def cntB (c : Pt → Bool) (lo : Int) (nx ny : Nat) : Int := sZ (fun i => sZ (fun j => cI (c (lo + (i : Int), 0 + (j : Int)))) ny) nx
def allC (ss : List Pt) : Int := cntB (holdB ss) (minL (xsC ss)) (maxL (xsC ss) + 1 - minL (xsC ss)).toNat (maxL (ysC ss) + 1 - 0).toNat
def rimC (ss : List Pt) : Int := cntB (fun q => holdB ss q && (decide (ss.length = 1) || rimB ss q)) (minL (xsC ss)) (maxL (xsC ss) + 1 - minL (xsC ss)).toNat (maxL (ysC ss) + 1 - 0).toNat
end MD

namespace MD
open PySem PySem.Spec L2
/-! ### k04: sticks so many times as long, and small things -/
def scP (t : Int) (p : Pt) : Pt := (t * p.1, t * p.2)
theorem sp_scP (t : Int) (p q : Pt) : sp (scP t p) (scP t q) = t * t * sp p q := by unfold sp scP; grind
theorem far_sc {t : Int} {p : Pt} (h : Far 3 p) (h1 : 1 ≤ t) (h2 : t ≤ 2) : -6 ≤ (scP t p).1 ∧ (scP t p).1 ≤ 6 ∧ (scP t p).2 ≤ 6 ∧ near (scP t p) = true := by
  obtain ⟨⟨a, b⟩, c, d⟩ := h
  have : t = 1 ∨ t = 2 := by omega
  unfold scP near absI
  rcases this with rfl | rfl
  all_goals simp only [Bool.and_eq_true, decide_eq_true_eq]
  all_goals (refine ⟨by omega, by omega, by omega, ?_, ?_⟩ <;> split <;> omega)
theorem SOk.sc {ss : List Pt} {t : Int} (h : SOk ss) (hf : ∀ p ∈ ss, Far 3 p) (h1 : 1 ≤ t) (h2 : t ≤ 2) : SOk (ss.map (scP t)) ∧ Sml (ss.map (scP t)) := by
  refine ⟨⟨by rw [List.length_map]; exact h.l1, by rw [List.length_map]; exact h.l6, fun s hs => ?_, fun s hs => ?_, ?_⟩, fun s hs => ?_⟩
  · obtain ⟨p, hp, rfl⟩ := List.mem_map.mp hs
    exact (far_sc (hf p hp) h1 h2).2.2.2
  · obtain ⟨p, hp, rfl⟩ := List.mem_map.mp hs
    rcases h.sd p hp with q | ⟨q, q2⟩
    · exact .inl (Int.mul_pos (by omega) q)
    · refine .inr ⟨?_, Int.mul_pos (by omega) q2⟩
      show t * p.2 = 0
      rw [q, Int.mul_zero]
  · rw [List.pairwise_map]
    exact h.pw.imp fun {a b} q => by rw [sp_scP]; exact Int.mul_pos (Int.mul_pos (by omega) (by omega)) q
  · obtain ⟨p, hp, rfl⟩ := List.mem_map.mp hs
    have := far_sc (hf p hp) h1 h2
    exact ⟨this.1, this.2.1, this.2.2.1⟩
theorem gcd_step {x : Int} {y : Nat} (h : 0 < y) : Int.gcd (y : Int) ((x % y).toNat : Nat) = Int.gcd x y := by
  have e : (((x % y).toNat : Nat) : Int) = x - y * (x / y) := by
    rw [Int.toNat_of_nonneg (Int.emod_nonneg x (by omega)), Int.emod_def]
  rw [e, Int.gcd_comm, Int.gcd_sub_mul_left_left]
def one20 (c : Pt) : Prop := c = (0, 1) ∨ c = (0, -1) ∨ c = (1, 0)
def partL (a b : Nat) : List Int := ((List.range ((if (a : Int) < b then (b : Int) else a) + 1 - 1).toNat).filter fun (i : Nat) => decide ((a : Int) % (1 + (i : Int)) = 0) && decide ((b : Int) % (1 + (i : Int)) = 0)).map fun (i : Nat) => 1 + (i : Int)
theorem gcd_20 {s : Pt} (h : near s = true) : (Int.gcd s.1 s.2 : Int) ≤ 20 ∨ s = (0, 0) := by
  unfold near absI at h
  simp only [Bool.and_eq_true, decide_eq_true_eq] at h
  by_cases c : s.1 = 0
  · by_cases d : s.2 = 0
    · right; ext <;> assumption
    · left
      have := Nat.le_of_dvd (show 0 < s.2.natAbs by omega) (Int.gcd_dvd_natAbs_right s.1 s.2)
      have := h.2
      split at this <;> omega
  · left
    have := Nat.le_of_dvd (show 0 < s.1.natAbs by omega) (Int.gcd_dvd_natAbs_left s.1 s.2)
    have := h.1
    split at this <;> omega
theorem gs_20 : ∀ {l : List Pt}, (∀ s ∈ l, near s = true) → (∀ s ∈ l, Std s) → 0 ≤ gs l ∧ gs l ≤ 20 * l.length
  | [], _, _ => ⟨Int.le_refl _, Int.le_refl _⟩
  | s :: l, h, hs => by
    have ih := gs_20 (fun t ht => h t (List.mem_cons_of_mem _ ht)) fun t ht => hs t (List.mem_cons_of_mem _ ht)
    have h1 := gcd_20 (h s List.mem_cons_self)
    have h2 := hs s List.mem_cons_self
    have : (Int.gcd s.1 s.2 : Int) ≤ 20 := by
      rcases h1 with q | q
      · exact q
      · subst q; rcases h2 with z | ⟨_, z⟩ <;> exact absurd z (by decide)
    rw [gs_cons, List.length_cons]
    omega
theorem gs_sm {ss : List Pt} (h : SOk ss) : -(2 ^ 64) < gs ss ∧ gs ss < 2 ^ 64 := by
  have := gs_20 h.nr h.sd
  have := h.l6
  omega
theorem cov_20 : ∀ {l : List Pt}, (∀ s ∈ l, near s = true) → l.length ≤ 6 → -(4800 * (l.length : Int)) ≤ cov l ∧ cov l ≤ 4800 * l.length
  | [], _, _ => ⟨Int.le_refl _, Int.le_refl _⟩
  | s :: l, h, hl => by
    rw [List.length_cons] at hl
    have ih := cov_20 (fun t ht => h t (List.mem_cons_of_mem _ ht)) (by omega)
    have hs := h s List.mem_cons_self
    have b1 : ∀ r : List Pt, (∀ t ∈ r, near t = true) → -(800 * (r.length : Int)) ≤ sp s (sm2 r) ∧ sp s (sm2 r) ≤ 800 * r.length := by
      intro r
      induction r with
      | nil => intro _; rw [sm2_nil, (lin_sp s).z]; simp
      | cons t r ih =>
        intro hr
        have i := ih fun u hu => hr u (List.mem_cons_of_mem _ hu)
        have ht := hr t List.mem_cons_self
        have a := (near_le hs ht).1
        have b := (near_le (near_ng hs) ht).1
        rw [sp_ng] at b
        rw [sm2_cons, sp_adr, List.length_cons]
        omega
    have := b1 l fun t ht => h t (List.mem_cons_of_mem _ ht)
    show _ ≤ sp s (sm2 l) + cov l ∧ sp s (sm2 l) + cov l ≤ _
    rw [List.length_cons]
    omega
theorem cov_sm {ss : List Pt} (h : SOk ss) : -(2 ^ 64) < cov ss ∧ cov ss < 2 ^ 64 := by
  have := cov_20 h.nr h.l6
  have := h.l6
  omega
def rimV (n : Nat) (x t : Int) : Int := if t = 0 then 1 else if n = 1 then 1 + t * x else 2 * t * x
end MD

/-! ### a call that sees no list but those handed in: what it tells is new -/
namespace L2
open PySem PySem.Spec PyProof.Rows
def isLD : HO → Bool
  | .lst _ => true
  | .dT _ => true
  | .frz _ (.lst _) => true
  | .frz _ (.dT _) => true
  | _ => false
def gone (B : List Addr) (H : Hp) (a : Addr) : Bool := !decide (a ∈ B) && (match H a with | some o => isLD o | none => false)
def drp (B : List Addr) (H : Hp) : Hp := fun a => if gone B H a = true then none else H a
def thaw1 : Option HO → Option HO
  | some (.frz _ u) => some u
  | x => x
def mrg (B : List Addr) (H H' : Hp) : Hp := fun a => if gone B H a = true then H a else match H a with
  | some _ => H' a
  | none => thaw1 (H' a)
section
variable {B : List Addr} {H H' : Hp} {a : Addr} {o : HO}
theorem gone_some (h : gone B H a = true) : a ∉ B ∧ ∃ o, H a = some o ∧ isLD o = true := by
  unfold gone at h
  rw [Bool.and_eq_true] at h
  refine ⟨fun z => by simp [z] at h, ?_⟩
  have h2 := h.2
  split at h2
  · exact ⟨_, by assumption, h2⟩
  · cases h2
theorem gone_no (h : H a = some o) (n : isLD o = false) : gone B H a = false := by
  cases e : gone B H a with
  | false => rfl
  | true => obtain ⟨_, o', e1, e2⟩ := gone_some e; rw [h] at e1; cases e1; rw [n] at e2; cases e2
theorem gone_none (h : H a = none) : gone B H a = false := by
  cases e : gone B H a with
  | false => rfl
  | true => obtain ⟨_, o', e1, e2⟩ := gone_some e; rw [h] at e1; cases e1
theorem drp_no (h : gone B H a = false) : drp B H a = H a := by unfold drp; rw [h]; rfl
theorem drp_gone (h : gone B H a = true) : drp B H a = none := by unfold drp; rw [h]; rfl
theorem drp_eq (h : drp B H a = some o) : H a = some o ∧ gone B H a = false := by
  cases e : gone B H a with
  | true => rw [drp_gone e] at h; cases h
  | false => rw [drp_no e] at h; exact ⟨h, rfl⟩
theorem mrg_gone (h : gone B H a = true) : mrg B H H' a = H a := by unfold mrg; rw [h]; rfl
theorem mrg_old (h : H a = some o) (n : gone B H a = false) : mrg B H H' a = H' a := by unfold mrg; rw [n, h]; rfl
theorem mrg_new (h : H a = none) : mrg B H H' a = thaw1 (H' a) := by unfold mrg; rw [gone_none h, h]; rfl
theorem thaw1_no (n : ∀ ob u, o ≠ .frz ob u) : thaw1 (some o) = some o := by
  cases o <;> first | rfl | exact absurd rfl (n _ _)
/-- what isn't a lock stays -/
theorem mrg_keep (hn : ∀ a, gone B H a = true → H' a = none) (h : H' a = some o) (n : ∀ ob u, o ≠ .frz ob u) : mrg B H H' a = some o := by
  cases e : gone B H a with
  | true => rw [hn a e] at h; cases h
  | false =>
    cases q : H a with
    | some u => rw [mrg_old q e]; exact h
    | none => rw [mrg_new q, h]; exact thaw1_no n
end
section
variable {P : Program} {w : World} {outer : List Env} {B : List Addr} {H : Hp} {s s' : Shared} {Q : VK} {u : Value}
theorem HOk.drp (x : HOk P w H s.heap) : HOk P w (drp B H) s.heap := fun a o e => by
  obtain ⟨e1, e2⟩ := drp_eq e
  refine (x a o e1).stay (fun _ _ _ q => q) (fun b q => ?_) fun b xs q => ?_
  · rw [drp_no (gone_no q rfl)]; exact q
  · rw [drp_no (gone_no q rfl)]; exact q
theorem CE.frame (hok : HOk P w H s.heap) (frf : ∀ b ∈ frs outer, H b = none) (h : CE outer P w (L2.drp B H) s (fun v H' => (∀ a, gone B H a = true → H' a = none) → Q v (mrg B H H')) u s') : CE outer P w H s Q u s' := by
  obtain ⟨v, H', os, bare, un, ok', r, q⟩ := h
  have there : ∀ a o, H a = some o → ∃ ob, s.heap.get? a = some ob := fun a o e => by
    have := (hok a o e)
    cases o with
    | lst xs => obtain ⟨_, _, _, _, z⟩ := this; exact ⟨_, z⟩
    | dT kvs => obtain ⟨_, _, _, _, o, _, _, z, _⟩ := this; exact ⟨_, z⟩
    | frz ob u => exact ⟨_, this.1⟩
    | tup xs => obtain ⟨_, _, _, ob, z, _⟩ := this; exact ⟨_, z⟩
    | dK kvs => obtain ⟨_, _, _, _, o, _, _, z, _⟩ := this; exact ⟨_, z⟩
    | set S n => obtain ⟨o, _, _, _, z, _⟩ := this; exact ⟨_, z⟩
    | ins C dx fs => obtain ⟨_, _, _, z, _⟩ := this; exact ⟨_, z⟩
    | own y => exact this
    | xd fs => obtain ⟨_, ⟨_, _, _, z, _⟩, _⟩ := this; exact ⟨_, z⟩
    | rng lo hi => obtain ⟨_, _, _, z⟩ := this; exact ⟨_, z⟩
    | tbl ps => exact ⟨_, this⟩
    | met f y => exact ⟨_, this⟩
    | ext φ => obtain ⟨_, z, _⟩ := this; exact z
  have hn : ∀ a, gone B H a = true → H' a = none := fun a e => by
    obtain ⟨_, o, e1, _⟩ := gone_some e
    obtain ⟨ob, z⟩ := there a o e1
    exact un.free a ob z (drp_gone e) (by simp)
  have nfr : ∀ a o, H a = some o → a ∉ frs outer := fun a o e z => by rw [frf a z] at e; cases e
  have tup' : ∀ b xs, H' b = some (.tup xs) → mrg B H H' b = some (.tup xs) := fun b xs e => mrg_keep hn e (fun _ _ z => by cases z)
  have own' : ∀ b x, H' b = some (.own x) → mrg B H H' b = some (.own x) := fun b xs e => mrg_keep hn e (fun _ _ z => by cases z)
  have tupH : ∀ b xs, H b = some (.tup xs) → mrg B H H' b = some (.tup xs) := fun b xs e => by
    have g := gone_no (B := B) e rfl
    rw [mrg_old e g]
    exact un.tups b xs (by rw [drp_no g]; exact e)
  refine ⟨v, mrg B H H', os, bare, ⟨?_, ?_, ?_, ?_, ?_, ?_, ?_⟩, ?_, r, q hn⟩
  · intro b o z n hb hx
    exact un.keep b o z (by rw [drp_no (gone_none n)]; exact n) hb hx
  · intro b o z n hb hx
    exact un.slot b o z (by rw [drp_no (gone_none n)]; exact n) hb hx
  · intro b o z n hx
    rw [mrg_new n, un.free b o z (by rw [drp_no (gone_none n)]; exact n) hx]
    rfl
  · exact un.there
  · exact tupH
  · intro b o w' e
    cases g : gone B H b with
    | true => rw [mrg_gone g]; exact e
    | false => rw [mrg_old e g]; exact un.frzs b o w' (by rw [drp_no g]; exact e)
  · intro b ps e
    have g := gone_no (B := B) e rfl
    obtain ⟨more, z⟩ := un.tbls b ps (by rw [drp_no g]; exact e)
    exact ⟨more, by rw [mrg_old e g]; exact z⟩
  · intro a o e
    cases g : gone B H a with
    | true =>
      rw [mrg_gone g] at e
      have x := hok a o e
      have hk : ∀ ob, s.heap.get? a = some ob → s'.heap.get? a = some ob := fun ob z => un.keep a ob z (drp_gone g) (nfr a o e) (by simp)
      obtain ⟨_, o', e1, e2⟩ := gone_some g
      rw [e] at e1
      cases e1
      have one : ∀ y : HO, (∃ xs, y = .lst xs) ∨ (∃ kvs, y = .dT kvs) → ObjOk P w H s.heap a y → ObjOk P w (mrg B H H') s'.heap a y := by
        rintro y (⟨xs, rfl⟩ | ⟨kvs, rfl⟩) x
        · obtain ⟨z, its, n, rr, ee⟩ := x
          exact ⟨z, its, n, rr, hk _ ee⟩
        · obtain ⟨z, yy, xs, rr, ob, es, ep, ee, c⟩ := x
          exact ⟨z, yy, xs, Paired.mapP rr fun p q z => ⟨z.1, tupH _ _ z.2.1, z.2.2⟩, ob, es, ep, hk _ ee, c⟩
      cases o with
      | lst xs => exact one _ (.inl ⟨_, rfl⟩) x
      | dT kvs => exact one _ (.inr ⟨_, rfl⟩) x
      | frz ob u =>
        obtain ⟨x1, x2⟩ := x
        cases u with
        | lst xs => exact ⟨hk _ x1, one _ (.inl ⟨_, rfl⟩) x2⟩
        | dT kvs => exact ⟨hk _ x1, one _ (.inr ⟨_, rfl⟩) x2⟩
        | tup _ => cases e2
        | dK _ => cases e2
        | set _ _ => cases e2
        | ins _ _ _ => cases e2
        | own _ => cases e2
        | xd _ => cases e2
        | rng _ _ => cases e2
        | tbl _ => cases e2
        | met _ _ => cases e2
        | ext _ => cases e2
        | frz _ _ => cases e2
      | tup _ => cases e2
      | dK _ => cases e2
      | set _ _ => cases e2
      | ins _ _ _ => cases e2
      | own _ => cases e2
      | xd _ => cases e2
      | rng _ _ => cases e2
      | tbl _ => cases e2
      | met _ _ => cases e2
      | ext _ => cases e2
    | false =>
      have base : ∀ y, ObjOk P w H' s'.heap a y → ObjOk P w (mrg B H H') s'.heap a y := fun y x => x.stay (fun _ _ _ q => q) (fun b q => own' b a q) fun b xs q => tup' b xs q
      cases q : H a with
      | some w' =>
        rw [mrg_old q g] at e
        exact base _ (ok' a o e)
      | none =>
        rw [mrg_new q] at e
        cases z : H' a with
        | none => rw [z] at e; cases e
        | some y =>
          rw [z] at e
          by_cases f : ∃ ob u, y = .frz ob u
          · obtain ⟨ob, u, rfl⟩ := f
            have e : some u = some o := e
            cases e
            exact base _ (ok' a _ z).2
          · rw [thaw1_no (fun ob u z => f ⟨ob, u, z⟩)] at e
            cases e
            exact base _ (ok' a _ z)
end
def refs : List V → List Addr
  | [] => []
  | .ref a :: l => a :: refs l
  | _ :: l => refs l
def tCallF (sp : Sp) (E : XK) (t : TA) : TE := fun σ H Q => t σ H fun vs H1 => sp vs (drp (refs vs) H1) (fun v H' => (∀ a, gone (refs vs) H1 a = true → H' a = none) → Q v (mrg (refs vs) H1 H')) E
section
variable {X : Cx} {k : Nat} {f : Addr} {fd : FuncData} {ps : List Str} {sp : Sp} {E : XK} {x : Str} {p pos : Pos} {e : Expr} {es : List Expr} {t : TA}
end
end L2
namespace MD
open PySem PySem.Spec L2
/-! the mirror: a list of lists of numbers, new and told apart by what they hold -/
def isLO (o : Obj) : Bool := match o.cls with | .type s => s == "list" | _ => false
def noL (K : PySem.W.Frag) : Bool := K.all fun p => !isLO p.2
def lints? : List D → Option (List (List Int))
  | [] => some []
  | .list l :: ds => (ints? l).bind fun ns => (lints? ds).map (ns :: ·)
  | _ :: _ => none
/-- a number, or a list of numbers -/
def argF : D → Bool
  | .int _ => true
  | .list l => (ints? l).isSome
  | _ => false
def lenF : D → List Nat
  | .list l => [l.length]
  | _ => []
def isT : R → Bool
  | .t (.lst _) => true
  | _ => false
def trL (xss : List (List Int)) : Tr := .lst (xss.map fun ns => Tr.fl (ns.map .int))
def freshR (ds : List D) (r : R) : Option R := match r.d with
  | .list ls => (lints? ls).bind fun xss => if xss.Nodup ∧ (∀ ns ∈ xss, ∀ d ∈ ds, ns.length ∉ lenF d) ∧ (isT r = true ∨ xss ≠ []) then some (.t (trL xss)) else none
  | _ => none
def mCallF (n0 : Nat) (g : List D → Option R) (n : MA) : ME := fun E => (n E).bind fun rs => if rs.length = n0 ∧ (rs.map R.d).all argF = true then (g (rs.map R.d)).bind (freshR (rs.map R.d)) else none
section
variable {X : Cx} {K : PySem.W.Frag} {n : MA}
end
end MD

namespace MD
open PySem PySem.Spec L2
/-! ### for x in xs: x.append(c), xs an own list of own lists -/
section
variable {X : Cx} {K : PySem.W.Frag} {e : Expr} {n : MA} {pos : Pos} {ff : Bool}
def appT (c : Int) : Tr → Option Tr
  | .lst l => if l.length < lim then some (.lst (l ++ [.leaf (.int c)])) else none
  | _ => none
def appTs (c : Int) : List Tr → Option (List Tr)
  | [] => some []
  | t :: ts => (appT c t).bind fun t' => (appTs c ts).map (t' :: ·)
def mForApp (i j : Nat) (c : Int) : MS := fun E => match E[i]? with
  | some (some (.t (.lst ts))) => if i ≠ j ∧ j < E.length then (appTs c ts).bind fun ts' => some (.nx ((E.set i (some (.t (.lst ts')))).set j none)) else none
  | _ => none
end
end MD
namespace MD
open PySem PySem.Spec L2
section
variable {X : Cx} {e : Expr} {m : ME} {p2 pos : Pos}
/-! ### t[lo:hi], t a tuple -/
def gCutT (x : R) (lo hi : Option Int) : Option R := match x.d with
  | .tuple l => if x.cl = true ∧ ¬ (HT.sIx l.length 0 lo = 0 ∧ HT.sIx l.length l.length hi = l.length) then some (.c (.tuple (cutD l lo hi))) else none
  | _ => none
def mSlT (m : ME) (ml mh : Ev → Option (Option Int)) : ME := fun E => (m E).bind fun x => (ml E).bind fun lo => (mh E).bind fun hi => gCutT x lo hi
end
end MD

namespace MD
open PySem PySem.Spec L2
/-! ### all cuts of six sticks are grown -/
/-! ### some three can be flipped -/
def rows6 : List (List Nat) := [[0, 1, 4, 10], [0, 2, 5, 11], [0, 3, 6, 12], [1, 2, 7, 13], [1, 3, 8, 14], [2, 3, 9, 15], [4, 5, 7, 16], [4, 6, 8, 17], [5, 6, 9, 18], [7, 8, 9, 19], [10, 11, 13, 16], [10, 12, 14, 17], [11, 12, 15, 18], [13, 14, 15, 19], [16, 17, 18, 19]]
def good6 (c : List Int) : Bool := rows6.all fun ps => !decide (1 < chg (ps.map fun p => c.getD p 0))
/-! the cuts gone through one by one, as numbers -/
def btN (m p : Nat) : Nat := Nat.mod (Nat.shiftRight m p) 2
def ok16 (t : Nat) : Bool := Nat.beq (Nat.mod (Nat.shiftRight 53643 t) 2) 1
def ok8 (t : Nat) : Bool := Nat.beq (Nat.mod (Nat.shiftRight 219 t) 2) 1
def ok4 (m a b c d : Nat) : Bool := ok16 (Nat.add (Nat.add (btN m a) (Nat.mul 2 (btN m b))) (Nat.add (Nat.mul 4 (btN m c)) (Nat.mul 8 (btN m d))))
def ok3 (m a b c : Nat) : Bool := ok8 (Nat.add (Nat.add (btN m a) (Nat.mul 2 (btN m b))) (Nat.mul 4 (btN m c)))
def rowsT : List (List (List Nat)) := [[], [], [], [], [[0, 1, 4]], [[0, 2, 5]], [[0, 3, 6]], [[1, 2, 7], [4, 5, 7]], [[1, 3, 8], [4, 6, 8]], [[2, 3, 9], [5, 6, 9], [7, 8, 9]], [[0, 1, 4, 10]], [[0, 2, 5, 11]], [[0, 3, 6, 12]], [[1, 2, 7, 13], [10, 11, 13]], [[1, 3, 8, 14], [10, 12, 14]], [[2, 3, 9, 15], [11, 12, 15], [13, 14, 15]], [[4, 5, 7, 16], [10, 11, 13, 16]], [[4, 6, 8, 17], [10, 12, 14, 17]], [[5, 6, 9, 18], [11, 12, 15, 18], [16, 17, 18]], [[7, 8, 9, 19], [13, 14, 15, 19], [16, 17, 18, 19]]]
def rowsP : List (List (List Nat)) := [[[0, 1, 4, 10], [0, 2, 5, 11], [0, 3, 6, 12]], [[0, 1, 4, 10], [1, 2, 7, 13], [1, 3, 8, 14]], [[0, 2, 5, 11], [1, 2, 7, 13], [2, 3, 9, 15]], [[0, 3, 6, 12], [1, 3, 8, 14], [2, 3, 9, 15]], [[0, 1, 4, 10], [4, 5, 7, 16], [4, 6, 8, 17]], [[0, 2, 5, 11], [4, 5, 7, 16], [5, 6, 9, 18]], [[0, 3, 6, 12], [4, 6, 8, 17], [5, 6, 9, 18]], [[1, 2, 7, 13], [4, 5, 7, 16], [7, 8, 9, 19]], [[1, 3, 8, 14], [4, 6, 8, 17], [7, 8, 9, 19]], [[2, 3, 9, 15], [5, 6, 9, 18], [7, 8, 9, 19]], [[0, 1, 4, 10], [10, 11, 13, 16], [10, 12, 14, 17]], [[0, 2, 5, 11], [10, 11, 13, 16], [11, 12, 15, 18]], [[0, 3, 6, 12], [10, 12, 14, 17], [11, 12, 15, 18]], [[1, 2, 7, 13], [10, 11, 13, 16], [13, 14, 15, 19]], [[1, 3, 8, 14], [10, 12, 14, 17], [13, 14, 15, 19]], [[2, 3, 9, 15], [11, 12, 15, 18], [13, 14, 15, 19]], [[4, 5, 7, 16], [10, 11, 13, 16], [16, 17, 18, 19]], [[4, 6, 8, 17], [10, 12, 14, 17], [16, 17, 18, 19]], [[5, 6, 9, 18], [11, 12, 15, 18], [16, 17, 18, 19]], [[7, 8, 9, 19], [13, 14, 15, 19], [16, 17, 18, 19]]]
def rowOk (m : Nat) : List Nat → Bool
  | [a, b, c, d] => ok4 m a b c d
  | [a, b, c] => ok3 m a b c
  | _ => true
def rowF (m : Nat) : List Nat → Bool
  | [a, b, c, d] => ok4 m a b c d
  | _ => true
def leafB (m : Nat) : Bool := (List.range 20).any fun p => (rowsP.getD p []).all (rowF (Nat.xor m (Nat.pow 2 p)))
def dfs : Nat → Nat → Nat → Bool
  | 0, _, m => leafB m
  | f + 1, k, m => (bif (rowsT.getD k []).all (rowOk m) then dfs f (k + 1) m else true) && (bif (rowsT.getD k []).all (rowOk (Nat.add m (Nat.pow 2 k))) then dfs f (k + 1) (Nat.add m (Nat.pow 2 k)) else true)
def mkN (c : List Int) : Nat → Nat
  | 0 => 0
  | k + 1 => mkN c k + (c.getD k 0).toNat * 2 ^ k
section
variable {c : List Int} (hb : ∀ s ∈ c, s = 0 ∨ s = 1)
include hb
end
end MD

namespace MD
open PySem PySem.Spec L2
/-! ### just the slabs of the three move -/
def inTh (n q : Nat) (p : Nat × Nat) (a : Nat) : Bool := decide (srtI [(p.1 : Int), (p.2 : Int), (a : Int)] = thP n q)
def hitP (n q : Nat) (p : Nat × Nat) : Bool := (othL n p).any (inTh n q p)
def thPt (n q : Nat) : List Pt := [((thP n q).getD 0 0, (thP n q).getD 1 0), ((thP n q).getD 0 0, (thP n q).getD 2 0), ((thP n q).getD 1 0, (thP n q).getD 2 0)]
/-- sums over what is chosen -/
def wsum (w : Nat → Int) (f : Nat → Bool) (l : List Nat) : Int := ((l.filter f).map w).sum
def stk (n : Nat) : List Pt := (List.range n).map fun (a : Nat) => (10 - 4 * (a : Int), 1 + (a : Int))
/-- a slab, as it is told -/
def encSl (x : (Nat × Nat) × Pt) : D := .tuple [.int (x.1.1 : Nat), .int (x.1.2 : Nat), eP x.2]
/-! steps of the mirror -/
theorem mApp_eqT {i : Nat} {n : MA} {E : Ev} {l : List Tr} {rs : List R} {d : D} (h : E[i]? = some (some (.t (.lst l)))) (hn : n E = some rs) (hp : pros rs = some [d]) (hl : l.length < lim) : mApp i n E = some (.nx (E.set i (some (.t (.lst (l ++ [.leaf d])))))) := by
  unfold mApp
  rw [h]
  show (n E).bind _ = _
  rw [hn]
  show (pros rs).bind _ = _
  rw [hp]
  show (if l.length < lim then _ else none) = _
  rw [if_pos hl]
theorem mApp_eq {i : Nat} {n : MA} {E : Ev} {l : List D} {rs : List R} {d : D} (h : E[i]? = some (some (.t (Tr.fl l)))) (hn : n E = some rs) (hp : pros rs = some [d]) (hl : l.length < lim) : mApp i n E = some (.nx (E.set i (some (.t (Tr.fl (l ++ [d])))))) := by
  rw [mApp_eqT (l := l.map .leaf) h hn hp (by rw [List.length_map]; exact hl)]
  unfold Tr.fl
  rw [List.map_append]
  rfl
theorem list_T (t : List Int) : gList [.c (encT t)] = some (.o (t.map .int)) := rfl
end MD

namespace MD
open PySem PySem.Spec L2
/-! ### a def that is entered with no list at all: its lists may be changed, whoever holds them -/
def SameT (H H' : Hp) : Prop := ∀ a o, H a = some o → isLD o = false → H' a = some o
theorem SameT.trans {H H1 H2 : Hp} (a : SameT H H1) (b : SameT H1 H2) : SameT H H2 := fun x o h n => b x o (a x o h n) n
def EndsL (K : PySem.W.Frag) (D : Ends) (Z : Msk) (H : Hp) : Out → Prop
  | .nx E' => ∀ σ' H' O', Held K H' ⟨Z, O'⟩ σ' E' → SameT H H' → D.nx σ' H'
  | .bk E' => ∀ σ' H' O', Held K H' ⟨Z, O'⟩ σ' E' → SameT H H' → D.bk σ' H'
  | .ct E' => ∀ σ' H' O', Held K H' ⟨Z, O'⟩ σ' E' → SameT H H' → D.ct σ' H'
  | .rt r => ∀ v H', SameT H H' → RA K H' ⟨Z, noM⟩ v r → D.rt v H'
def sL (K : PySem.W.Frag) (m : MS) : TS := fun D σ H => ∃ E W o, Held K H W σ E ∧ m E = some o ∧ EndsL K D W.z H o
section
variable {X : Cx} {K : PySem.W.Frag} {ff : Bool} {st : Stmt} {rest : List Stmt} {s t : MS}
end
def noLD (H : Hp) : Prop := ∀ a o, H a = some o → isLD o = false
def spL (K : PySem.W.Frag) (n : Nat) (g : List D → Option R) : Sp := fun vs H Q _ => vs.length = n ∧ noLD H ∧ ∃ ds r, DpAll K H vs ds ∧ g ds = some r ∧ ∀ v H', Same H H' → Dp K H' v r.d → Q v H'
structure CalL (P : Program) (w : World) (K : PySem.W.Frag) (mg : Str → Option Value) (base : Heap) (x : Str) (k : Nat) (ps : List Str) (g : List D → Option R) : Prop where
  ex : ∃ f fd, FnOk P w K mg base CX0 k f fd ps (spL K ps.length g) ∧ mg x = some (.ref f) ∧ PySem.W.keepIn K (.ref f) = true ∧ Binds K fd ps []
/-! its call: numbers handed in, a truth told -/
def argN : D → Bool
  | .int _ => true
  | _ => false
def mCallL (n0 : Nat) (g : List D → Option R) (n : MA) : ME := fun E => (n E).bind fun rs => if rs.length = n0 ∧ (rs.map R.d).all argN = true then (g (rs.map R.d)).bind (fun r => match r.d with | .bool b => some (.c (.bool b)) | _ => none) else none
section
variable {X : Cx} {K : PySem.W.Frag} {n : MA}
end
/-! thaw: where the def was entered with no list, no list is locked from without -/
def thw (H : Hp) : Hp := fun a => match H a with
  | some (.frz _ (.lst xs)) => some (.lst xs)
  | x => x
theorem thw_no {H : Hp} {a : Addr} {o : HO} (h : H a = some o) (n : ∀ ob xs, o ≠ .frz ob (.lst xs)) : thw H a = some o := by
  unfold thw
  rw [h]
  cases o with
  | frz ob u =>
    cases u with
    | lst xs => exact absurd rfl (n _ _)
    | _ => rfl
  | _ => rfl
theorem thw_none {H : Hp} {a : Addr} (h : H a = none) : thw H a = none := by unfold thw; rw [h]
section
variable {X : Cx} {K : PySem.W.Frag} {pins : List (Addr × Obj)} {σ : L2.St} {H : Hp} {s : Shared}
theorem thw_some {H : Hp} {a : Addr} {o : HO} (h : thw H a = some o) : H a = some o ∨ ∃ ob xs, o = .lst xs ∧ H a = some (.frz ob (.lst xs)) := by
  unfold thw at h
  split at h
  · rename_i ob xs e
    cases h
    exact .inr ⟨ob, xs, rfl, e⟩
  · exact .inl h
theorem Inv.thw (hl : noLD X.H_0) (I : Inv X pins σ H s) : Inv X pins σ (MD.thw H) s := by
  refine ⟨I.ok, I.os, I.bare, ⟨I.base.keep, I.base.slot, fun b o z n hx => ?_, I.base.there, fun b xs e => ?_, fun b o u e => ?_, fun b ps e => ?_⟩, I.loc, I.cell, thw_none I.free, fun x c e => thw_none (I.freeC x c e), fun p hp => ?_, fun a o e => ?_, I.len⟩
  · exact thw_none (I.base.free b o z n hx)
  · exact thw_no (I.base.tups b xs e) (fun _ _ z => by cases z)
  · have := I.base.frzs b o u e
    refine thw_no this (fun ob xs z => ?_)
    cases z
    have := hl b _ e
    cases this
  · obtain ⟨more, z⟩ := I.base.tbls b ps e
    exact ⟨more, thw_no z (fun _ _ y => by cases y)⟩
  · obtain ⟨p1, p2, p3⟩ := I.pin p hp
    exact ⟨p1, thw_none p2, p3⟩
  · have stay : ∀ y, ObjOk X.prog X.w H s.heap a y → ObjOk X.prog X.w (MD.thw H) s.heap a y := fun y x => x.stay (fun _ _ _ q => q) (fun b q => thw_no q (fun _ _ z => by cases z)) fun b xs q => thw_no q (fun _ _ z => by cases z)
    rcases thw_some e with h | ⟨ob, xs, rfl, h⟩
    · exact stay _ (I.hok a o h)
    · exact stay _ (I.hok a _ h).2
end
/-! data that bears none of some lists -/
mutual
def noSub (xss : List (List Int)) : D → Bool
  | .list l => (match ints? l with | some ns => !decide (ns ∈ xss) | none => true) && noSubs xss l
  | .tuple l => noSubs xss l
  | .obj _ _ l => noSubs xss l
  | .dict _ l => noSubs xss l
  | _ => true
def noSubs (xss : List (List Int)) : List D → Bool
  | [] => true
  | d :: ds => noSub xss d && noSubs xss ds
end
section
variable {K : PySem.W.Frag} {M : Msk} {H H' : Hp} {xss : List (List Int)} {as : List Addr}
end
section
variable {K : PySem.W.Frag} {M : Msk} {H : Hp}
end
def okSl (xss : List (List Int)) : Option Sl → Bool
  | some (.v d) => noSub xss d
  | none => true
  | some (.t _) => false
def mSpoil (i j : Nat) (c : Int) : MS := fun E => match E[i]? with
  | some (some (.v (.list ls))) => (lints? ls).bind fun xss => if (i ≠ j ∧ j < E.length) ∧ xss.Nodup ∧ (∀ t ∈ xss, t.length < lim) ∧ ((E.set i none).set j none).all (okSl xss) = true then some (.nx ((E.set i (some (.v (encLL (xss.map (· ++ [c])))))).set j none)) else none
  | _ => none
section
variable {X : Cx} {K : PySem.W.Frag} {pos : Pos}
end
end MD

namespace MD
open PySem PySem.Spec L2
section
variable {X : Cx} {K : PySem.W.Frag} {m : ME} {pos : Pos}
/-! ### x.f[0], x.f[-1] = e, x an own object of one field -/
def mSwapF (i : Nat) (C : Addr) (f : Str) (m : ME) : MS := fun E => match E[i]? with
  | some (some (.t (.obj C' [f'] [.lst l]))) => if C' = C ∧ f' = f ∧ leafy l = true ∧ l ≠ [] then (m E).bind fun r => r.pro.bind fun d => (match d with | .tuple [d1, d0] => some (.nx (E.set i (some (.t (.obj C' [f'] [Tr.fl (((Tr.ds l).set 0 d1).set (l.length - 1) d0)]))))) | _ => none) else none
  | _ => none
end
end MD

namespace MD
open PySem PySem.Spec L2
/-! ### of five sticks the fewest flips are as many as the signs that are unlike, each three once -/
def nearer (a b : List Int) (L : List Nat) : Bool := L.any fun p => !decide (a.getD p 0 = b.getD p 0)
def nearAll : Bool := (growI 5 10).all fun a => (growI 5 10).all fun b => decide (a = b) || nearer a b (lsP 5 a)
end MD

namespace MD
open PySem PySem.Spec L2
/-! ### the first and the last of the shares change places -/
def lastP (sh : List Pt) : Pt := sh.getD (sh.length - 1) (0, 0)
def swp (sh : List Pt) : List Pt := (sh.set 0 (lastP sh)).set (sh.length - 1) (sh.getD 0 (0, 0))
/-! ### rows of one line -/
def tmI (c d e : Nat) : List Int := [1 + (c : Int), -1 - (d : Int), 2, -1, 1].take (3 + e)
def lnR (a b c d e : Nat) : List Pt := (tmI c d e).map fun t => (I1 a * t, (b : Int) * t)
def lnL (c d e : Nat) : Int := ((tmI c d e).map fun t => (if t < 0 then -t else t)).sum
def lnB (c d e : Nat) : Int := (((tmI c d e).filter fun t => decide (t < 0)).map fun t => t).sum
def lnG (a b c d e : Nat) : List Pt × Pt := ([(I1 a * lnL c d e, (b : Int) * lnL c d e)], (I1 a * lnB c d e, (b : Int) * lnB c d e))
def lnC (a b c d e : Nat) : Bool := okR (lnR a b c d e) && decide (gth (lnR a b c d e) = lnG a b c d e)
def lnAll : Bool := (List.range 3).all fun a => (List.range 3).all fun b => (List.range 2).all fun c => (List.range 3).all fun d => (List.range 3).all fun e => lnC a b c d e
/-! ### a point beside a side -/
/-! ### what the spoiling of the threes does not reach -/
/-! ### big numbers by hand -/
def far20 : Int := 100000000000000000000
def twoL : List Pt := [(1, 0), (0, 1)]
def fiveP : List Pt := [(2, 1), (1, 1), (0, 2), (2, 0), (1, 2)]
def farL : Pt := (far20 + 1, far20)
def threeL : List Pt := [(1, 0), (1, 1), (0, 1)]
def sh1 : List Pt := [(1, far20 + 1), (far20, far20 + 1), (1, far20 + 1)]
def sh2 : List Pt := [(1, far20 + 1), (far20 - 1, far20 + 1), (1, far20 + 1)]
def bdB (p : Pt) : Bool := decide (p.1.natAbs < 2 ^ 70) && decide (p.2.natAbs < 2 ^ 70)
end MD

/-! EXCEPTIONS: one that flies, and what it leaves as it was -/
namespace MD
open PySem PySem.Spec L2 PyProof.Rows
/-- the exception at a, of the class at C, its trace tv, nothing handled when it was made -/
def ExcO (h : Heap) (a C : Addr) (tv : Value) : Prop := ∃ oe vs, h.get? a = some oe ∧ (oe.cls = .ref C ∧ oe.dict = none) ∧ oe.data = .fields vs ∧ vs[1]? = some tv ∧ vs[2]? = some .none
/-- a trace entry, which frame it is noted for -/
def TbO (h : Heap) (T : Addr) (fl : Value) : Prop := ∃ oT ts, h.get? T = some oT ∧ oT.data = .fields ts ∧ ts[3]? = some fl
def Tv (h : Heap) (a : Addr) (fl tv : Value) : Prop := tv = .none ∨ ∃ T, tv = .ref T ∧ T ≠ a ∧ TbO h T fl
/-- all is kept but a and its trace; of the frames the slots may change -/
structure KpX (fr : List Addr) (a : Addr) (tv : Value) (h h' : Heap) : Prop where
  keep : ∀ b o, h.get? b = some o → b ≠ a → tv ≠ .ref b → b ∉ fr → h'.get? b = some o
  slot : ∀ b o, h.get? b = some o → b ≠ a → tv ≠ .ref b → ∃ sl, h'.get? b = some { o with slots := sl }
theorem dict_mapFields (f : Array Value → Array Value) (o : Obj) : (o.mapFields f).dict = o.dict := by obtain ⟨c, d, dt, sl⟩ := o; cases dt <;> rfl
section
variable {M : Model} {A : Around} {E : Value → Shared → Prop} {s : Shared} {base : Heap} {env : Env} {outer : List Env} {L a C : Addr} {tv fl : Value} {Q : Unit → Shared → Prop}
theorem fr_out {h : Heap} {l : List Env} {b : Addr} {o : Obj} {vs : Array Value} (hl : h.FunFrames base l) (hb : h.get? b = some o) (hd : o.data = .fields vs) : b ∉ frs l := fun hm => by
  obtain ⟨_, o', ho', hn⟩ := hl.mem hm
  rw [hb] at ho'
  cases ho'
  exact hn vs hd
theorem entryX {oe : Obj} {vs : Array Value} {head : Value} {nx : Bool} (hfr : A.frames = some (env :: outer)) (hl : s.heap.FunFrames base (env :: outer)) (hf : env.frame = some L)
    (he : s.heap.get? a = some oe) (hc : oe.cls = .ref C ∧ oe.dict = none) (hd : oe.data = .fields vs) (h1 : 2 < vs.size) (h2 : vs[2]? = some .none)
    (k : ∀ h' T, s.heap.objs.size ≤ T → KpX (frs (env :: outer)) a .none s.heap h' → ExcO h' a C (.ref T) → T ≠ a → TbO h' T (rawInt L) → Q () { s with heap := h' }) :
    wpAny M A (do let fo ← frameOf env; let pl ← entryPlaceOf L nx; let en ← EntryCells.newEntry head fo .none (rawInt L) .none pl; setField (.ref a) 1 en) Q E s := by
  have hout := fr_out hl he hd
  refine wpAny_bind (wpAny_frameOf_fun hfr hl hf fun h1' so => ?_)
  refine wpAny_bind (wpAny_entryPlaceOf fun pl hpl => ?_)
  unfold EntryCells.newEntry newFields
  refine wpAny_bind (wpAny_newObj_type ?_ (hpl.sizeOk5 _ _ _ _ _))
  have hz : h1'.objs.size = s.heap.objs.size := so.1
  have ea : h1'.get? a = some oe := (so.2.1 a hout).trans he
  generalize hob : ({ cls := .type "traceback", dict := none, data := .fields ([head, .ref L, .none, rawInt L, .none] ++ (if pl.isEmpty then List.replicate 6 Value.none else pl)).toArray } : Obj) = ob
  have obf : ob.isFreed = false := by rw [← hob]; rfl
  have eb := Heap.get?_push_of_some (h := h1') ob ea
  refine wpAny_setField eb hd (by omega) ?_
  have nTa : h1'.objs.size ≠ a := Nat.ne_of_gt (Heap.lt_size ea)
  have dd := Obj.data_mapFields hd (·.setIfInBounds 1 (Value.ref h1'.objs.size))
  have ec := Heap.get?_update_self (Obj.mapFields (·.setIfInBounds 1 (Value.ref h1'.objs.size))) eb (Obj.isFreed_of_fields dd)
  have eT := (Heap.get?_update_other (h1'.push ob) (Obj.mapFields (·.setIfInBounds 1 (Value.ref h1'.objs.size))) (Ne.symm nTa)).trans (Heap.get?_push_size h1' obf)
  have kk : ∀ b o, b ≠ a → h1'.get? b = some o → ((h1'.push ob).update a (Obj.mapFields (·.setIfInBounds 1 (Value.ref h1'.objs.size)))).get? b = some o := fun b o nb hb => by
    rw [Heap.get?_update_other _ _ (Ne.symm nb)]
    exact Heap.get?_push_of_some _ hb
  refine k _ h1'.objs.size (Nat.le_of_eq hz.symm) ⟨fun b o hb nb _ nf => kk b o nb ((so.2.1 b nf).trans hb), fun b o hb nb _ => ?_⟩ ?_ nTa ?_
  · obtain ⟨sl, q⟩ := so.2.2 b o hb
    exact ⟨sl, kk b _ nb q⟩
  · exact ⟨_, _, ec, ⟨(Obj.cls_mapFields _ _).trans hc.1, (dict_mapFields _ _).trans hc.2⟩, dd, (by have q : 1 < vs.size := (by omega); simp [q]), by rw [Array.getElem?_setIfInBounds_ne (by decide)]; exact h2⟩
  · refine ⟨_, ([head, .ref L, .none, rawInt L, .none] ++ (if pl.isEmpty then List.replicate 6 Value.none else pl)).toArray, eT, by rw [← hob], ?_⟩
    rcases hpl with rfl | ⟨_, _, _, _, _, _, _, rfl⟩ <;> simp
theorem noteX (hfr : A.frames = some (env :: outer)) (hl : s.heap.FunFrames base (env :: outer)) (hf : env.frame = some L) (hx : ExcO s.heap a C tv) (ht : Tv s.heap a .none tv)
    (k : ∀ h' T, s.heap.get? T = none → KpX (frs (env :: outer)) a tv s.heap h' → ExcO h' a C (.ref T) → T ≠ a → TbO h' T (rawInt L) → Q () { s with heap := h' }) : wpAny M A (noteFrame (.ref a) env) Q E s := by
  obtain ⟨oe, vs, he, hc, hd, h1, h2⟩ := hx
  have hsz : 2 < vs.size := (Array.getElem?_eq_some_iff.mp h2).1
  unfold noteFrame
  simp only [hf]
  refine wpAny_bind (wpAny_field he hd h1 ?_)
  rcases ht with rfl | ⟨T, rfl, nT, oT, ts, hT, hdT, h3⟩
  · rw [if_neg (by decide)]
    exact entryX hfr hl hf he hc hd hsz h2 fun h' T q1 q2 q3 q4 q5 => k h' T (Heap.get?_none_of_le q1) q2 q3 q4 q5
  · rw [if_pos (show (Value.ref T != Value.none) = true from by simp)]
    refine wpAny_bind (wpAny_field hT hdT h3 ?_)
    rw [if_neg (show ¬ ((Value.none == rawInt L) = true) from by simp [rawInt])]
    refine wpAny_bind (wpAny_setField hT hdT (Array.getElem?_eq_some_iff.mp h3).1 ?_)
    have oth : ∀ b, b ≠ T → (s.heap.update T (Obj.mapFields (·.setIfInBounds 3 Value.none))).get? b = s.heap.get? b := fun b nb => Heap.get?_update_other _ _ (Ne.symm nb)
    have nfr := fr_out hl hT hdT
    refine entryX (s := { s with heap := s.heap.update T (Obj.mapFields (·.setIfInBounds 3 Value.none)) }) hfr (hl.of_keeps fun b o hb hn => ⟨o, (oth b fun z => ?_).trans hb, rfl⟩) hf ((oth a nT.symm).trans he) hc hd hsz h2 fun h' T' q1 q2 q3 q4 q5 => k h' T' (Heap.get?_none_of_le (by rw [← Heap.size_update (h := s.heap)]; exact q1)) ⟨fun b o hb nb nt nf => ?_, fun b o hb nb nt => ?_⟩ q3 q4 q5
    · rw [z, hT] at hb; cases hb; exact hn _ hdT
    · exact q2.keep b o ((oth b fun z => nt (by rw [z])).trans hb) nb (by simp) nf
    · exact q2.slot b o ((oth b fun z => nt (by rw [z])).trans hb) nb (by simp)
theorem flightX {T : Addr} (hx : ExcO s.heap a C (.ref T)) (nT : T ≠ a) (ht : TbO s.heap T fl)
    (k : ∀ h', (∀ b o, s.heap.get? b = some o → b ≠ T → h'.get? b = some o) → ExcO h' a C (.ref T) → TbO h' T .none → Q () { s with heap := h' }) : wpAny M A (setFlight (.ref a) none) Q E s := by
  obtain ⟨oe, vs, he, hc, hd, h1, h2⟩ := hx
  obtain ⟨oT, ts, hT, hdT, h3⟩ := ht
  unfold setFlight
  refine wpAny_bind (wpAny_field he hd h1 ?_)
  rw [if_pos (show (Value.ref T != Value.none) = true from by simp)]
  have h3' := (Array.getElem?_eq_some_iff.mp h3).1
  have oth : ∀ b, b ≠ T → (s.heap.update T (Obj.mapFields (·.setIfInBounds 3 ((none : Option Addr).elim Value.none fun f => rawInt f)))).get? b = s.heap.get? b := fun b nb => Heap.get?_update_other _ _ (Ne.symm nb)
  refine wpAny_setField hT hdT h3' (k _ (fun b o hb nb => (oth b nb).trans hb) ⟨oe, vs, (oth a nT.symm).trans he, hc, hd, h1, h2⟩ ?_)
  exact ⟨_, _, Heap.get?_update_self _ hT (Obj.isFreed_of_fields (Obj.data_mapFields hdT _)), Obj.data_mapFields hdT _, by simp [h3']⟩
end
end MD

/-! EXCEPTIONS: defs that raise -/
namespace MD
open PySem PySem.Spec L2 PyProof.Rows
theorem ok_there {P : Program} {w : World} {H : Hp} {h : Heap} {a : Addr} {o : HO} (x : ObjOk P w H h a o) : ∃ u, h.get? a = some u := by
  cases o with
  | lst xs => obtain ⟨_, _, _, _, e⟩ := x; exact ⟨_, e⟩
  | tup xs => obtain ⟨_, _, _, u, e, _⟩ := x; exact ⟨_, e⟩
  | dK kvs => obtain ⟨_, _, _, _, u, _, _, e, _⟩ := x; exact ⟨_, e⟩
  | dT kvs => obtain ⟨_, _, _, _, u, _, _, e, _⟩ := x; exact ⟨_, e⟩
  | set S n => obtain ⟨u, _, _, _, e, _⟩ := x; exact ⟨_, e⟩
  | ins C dx fs => obtain ⟨_, _, _, e, _⟩ := x; exact ⟨_, e⟩
  | own y => exact x
  | xd fs => obtain ⟨_, ⟨u, _, _, e, _⟩, _⟩ := x; exact ⟨_, e⟩
  | rng lo hi => obtain ⟨_, _, _, e⟩ := x; exact ⟨_, e⟩
  | frz ob u => obtain ⟨e, _⟩ := x; exact ⟨_, e⟩
  | tbl ps => exact ⟨_, (show h.get? a = some _ from x)⟩
  | met f y => exact ⟨_, (show h.get? a = some _ from x)⟩
  | ext φ => obtain ⟨_, q, _⟩ := x; exact q
theorem none_trk {P : Program} {w : World} {H : Hp} {h : Heap} {a : Addr} (x : HOk P w H h) (e : h.get? a = none) : H a = none := by
  cases q : H a with
  | none => rfl
  | some o => obtain ⟨u, z⟩ := ok_there (x a o q); rw [e] at z; cases z
/-- an exception of the class at C stands at a: it and its trace are new since the entry, and nobody tracks them -/
def XS (X : Cx) (H : Hp) (s : Shared) (a C : Addr) : Prop := H a = none ∧ (X.s_0.heap.get? a = none ∧ ∀ p ∈ X.pn, p.1 ≠ a) ∧ ∃ tv, ExcO s.heap a C tv ∧ Tv s.heap a .none tv ∧ ∀ T, tv = .ref T → H T = none ∧ X.s_0.heap.get? T = none ∧ ∀ p ∈ X.pn, p.1 ≠ T
/-- what is wanted of it -/
def XW (X : Cx) (H : Hp) (O : Msk) (C : Addr) : Prop := ∀ (pins : List (Addr × Obj)) (a : Addr) (σ' : L2.St) (H' : Hp) (O' : Msk) (s' : Shared), Inv X pins σ' H' s' → Fr false H O H' O' → XS X H' s' a C → X.xe (.ref a) s'
theorem XW.later {X : Cx} {H H1 : Hp} {O O1 : Msk} {C : Addr} (h : XW X H O C) (f : Fr false H O H1 O1) : XW X H1 O1 C := fun pins a σ' H' O' s' I g x => h pins a σ' H' O' s' I (f.trans g) x
abbrev NX := Ev → Option Addr
def sX (X : Cx) (n : NX) : TS := fun D σ H => ∃ E W C, Held X.K H W σ E ∧ n E = some C ∧ XW X H W.o C
/-- what is wanted of one that an expression raises: the names are as they were -/
def XE (X : Cx) (σ : L2.St) (H : Hp) (C : Addr) : Prop := ∀ (pins : List (Addr × Obj)) (a : Addr) (H' : Hp) (s' : Shared), Inv X pins σ H' s' → Same H H' → XS X H' s' a C → X.xe (.ref a) s'
theorem XE.later {X : Cx} {σ : L2.St} {H H1 : Hp} {C : Addr} (h : XE X σ H C) (f : Same H H1) : XE X σ H1 C := fun pins a H' s' I g x => h pins a H' s' I (f.trans g) x
theorem XW.e {X : Cx} {σ : L2.St} {H : Hp} {O : Msk} {C : Addr} (h : XW X H O C) : XE X σ H C := fun pins a H' s' I g x => h pins a σ H' O s' I (Fr.of g) x
def eX (X : Cx) (n : NX) : TE := fun σ H Q => ∃ E W C, Held X.K H W σ E ∧ n E = some C ∧ XE X σ H C
/-- how it lies behind a call -/
def CXr (P : Program) (w : World) : CXT := fun outer H s E e s' => ∃ a C T H', e = .ref a ∧ ExcO s'.heap a C (.ref T) ∧ T ≠ a ∧ TbO s'.heap T .none ∧ H' a = none ∧ H' T = none ∧ s.heap.get? a = none ∧ s.heap.get? T = none ∧
  s'.os = s.os ∧ AllBare s'.gens ∧ Un (frs outer) [] H H' s.heap s'.heap ∧ Same H H' ∧ HOk P w H' s'.heap ∧ E (.ref C) none H'
section
variable {X : Cx} {pins : List (Addr × Obj)} {σ : L2.St} {H : Hp} {s : Shared} {a C : Addr}
/-- objects but the exception and its trace are kept: what is tracked is as it was -/
theorem hok_kp {P : Program} {w : World} {h h' : Heap} {fr : List Addr} {tv : Value} (ok : HOk P w H h) (k : KpX fr a tv h h') (ha : H a = none) (ht : ∀ T, tv = .ref T → H T = none) (hf : ∀ b ∈ fr, H b = none) : HOk P w H h' := fun b o e => by
  have nf : ∀ c u, H c = some u → c ≠ a ∧ tv ≠ .ref c ∧ c ∉ fr := fun c u q => ⟨fun z => (by rw [z, ha] at q; cases q), fun z => (by rw [ht c z] at q; cases q), fun z => (by rw [hf c z] at q; cases q)⟩
  refine (ok b o e).stay (fun c u hc q => ?_) (fun _ q => q) fun _ _ q => q
  have : ∃ v, H c = some v := by
    rcases hc with rfl | hc
    · exact ⟨_, e⟩
    · exact ⟨_, hc⟩
  obtain ⟨v, hv⟩ := this
  obtain ⟨n1, n2, n3⟩ := nf c v hv
  exact k.keep c u q n1 n2 n3
theorem KpX.then {fr : List Addr} {tv : Value} {h h1 h2 : Heap} {T : Addr} (k : KpX fr a tv h h1) (hT : h.get? T = none) (q : ∀ b o, h1.get? b = some o → b ≠ T → h2.get? b = some o) : KpX fr a tv h h2 where
  keep := fun b o e n1 n2 n3 => q b o (k.keep b o e n1 n2 n3) (fun z => by rw [z, hT] at e; cases e)
  slot := fun b o e n1 n2 => let ⟨sl, z⟩ := k.slot b o e n1 n2; ⟨sl, q b _ z (fun y => by rw [y, hT] at e; cases e)⟩
/-- an exception leaves a def's body -/
theorem leaveX {M : Model} {E : Value → Shared → Prop} {Q : Unit → Shared → Prop} (I : Inv X pins σ H s) (hst : X.stack = X.env :: X.outer) (hfm : X.env.frame = some X.env.locals) (hex : X.ex = []) (x : XS X H s a C)
    (k : ∀ h' T, ExcO h' a C (.ref T) → T ≠ a → TbO h' T .none → H T = none → X.s_0.heap.get? T = none → Un (frs X.outer) [] X.H_0 H X.s_0.heap h' → HOk X.prog X.w H h' → Q () { s with heap := h' }) : wpAny M X.A (leaving X.env (.ref a)) Q E s := by
  obtain ⟨xa, xb, tv, he, ht, hT⟩ := x
  have hfr : X.A.frames = some (X.env :: X.outer) := by rw [← hst]; exact I.ok.frames
  have hfl := I.stack
  have hfree := I.stkFree
  rw [hst] at hfl hfree
  unfold leaving
  refine wpAny_bind (noteX hfr hfl hfm he ht fun h1 T q1 q2 q3 q4 q5 => ?_)
  refine flightX q3 q4 q5 fun h2 r1 r2 r3 => ?_
  have kp : KpX (frs (X.env :: X.outer)) a tv s.heap h2 := q2.then q1 r1
  have nw : ∀ b o, X.s_0.heap.get? b = some o → b ≠ a ∧ tv ≠ .ref b := fun b o e => ⟨fun z => (by rw [z, xb.1] at e; cases e), fun z => (by rw [(hT b z).2.1] at e; cases e)⟩
  have loc : ∀ b o, X.s_0.heap.get? b = some o → b ≠ X.env.locals := fun b o e z => absurd (Nat.lt_of_lt_of_le (Heap.lt_size e) I.ok.above) (by rw [z]; exact Nat.lt_irrefl _)
  have inn : ∀ b, b ∈ frs (X.env :: X.outer) → b = X.env.locals ∨ b ∈ frs X.outer := fun b hb => by
    unfold frs at hb
    rw [List.filterMap_cons, hfm] at hb
    exact List.mem_cons.mp hb
  have nex : ∀ b : Addr, b ∉ X.ex := fun b => by rw [hex]; simp
  have hTn : X.s_0.heap.get? T = none := by
    cases z : X.s_0.heap.get? T with
    | none => rfl
    | some o => obtain ⟨o', e'⟩ := I.base.there T o z (nex T); rw [q1] at e'; cases e'
  refine k h2 T r2 q4 r3 (none_trk I.hok q1) hTn ⟨fun b o e n nf _ => ?_, fun b o e n nf _ => ?_, fun b o e n _ => I.base.free b o e n (nex b), fun b o e _ => ?_, I.base.tups, I.base.frzs, I.base.tbls⟩ (hok_kp I.hok kp xa (fun T z => (hT T z).1) hfree)
  · obtain ⟨n1, n2⟩ := nw b o e
    exact kp.keep b o (I.base.keep b o e n nf (nex b)) n1 n2 fun hb => (inn b hb).elim (loc b o e) nf
  · obtain ⟨n1, n2⟩ := nw b o e
    obtain ⟨sl, z⟩ := I.base.slot b o e n nf (nex b)
    obtain ⟨sl2, z2⟩ := kp.slot b _ z n1 n2
    exact ⟨sl2, z2⟩
  · obtain ⟨n1, n2⟩ := nw b o e
    obtain ⟨o', z⟩ := I.base.there b o e (nex b)
    obtain ⟨sl2, z2⟩ := kp.slot b _ z n1 n2
    exact ⟨_, z2⟩
end
/-- a promise to raise -/
def spX (K : PySem.W.Frag) (n : Nat) (h : List D → Option Addr) : Sp := fun vs H Q E => vs.length = n ∧ ∃ Z ds C, Dom Z H ∧ DpAll K (hid Z H) vs ds ∧ h ds = some C ∧ ∀ H', E (.ref C) none H'
section
variable {P : Program} {w : World} {K : PySem.W.Frag} {mg : Str → Option Value} {base : Heap}
theorem fn_X {x qual : Str} {st : Stmt} {f : Addr} {fd : FuncData} {N ps : List Str} {k n0 : Nat} {h : List D → Option Addr} {n : NX} (F : Fun K x qual st f fd) (S : FnScope N ps (defScope st)) (hn : n0 = ps.length)
    (hbody : ∀ (cdv : Value) (A : Around) (outer : List Env) (s : Shared) (H : Hp) (E : XK), Room k (A.deeper (envOfC qual (defScope st) s.heap.objs.size f cdv)) →
      PSs (cxOf (CXr P w) P w K mg base N qual (defScope st) f cdv A outer s H E) (defBody st) (sX (cxOf (CXr P w) P w K mg base N qual (defScope st) f cdv A outer s H E) n))
    (hm : ∀ ds C, h ds = some C → ds.length = n0 → n (startE N ds) = some C) : FnOk P w K mg base (CXr P w) (k + 1) f fd ps (spX K n0 h) := by
  obtain ⟨oc, od, kV, doc, pm, an, cdv, ct, osl, rfl, lk, hcd⟩ := F.ex
  refine fn_of lk hcd S (fun vs H Q E q => by rw [← hn]; exact q.1) fun A outer s H vs Q E hr hsp => ?_
  obtain ⟨hl, Z, ds, C, hZ, hd, hg, q⟩ := hsp
  refine ⟨_, hbody cdv A outer s H E hr, startE N ds, ⟨Z, noM⟩, C, held_start hZ hd, hm ds C hg (by rw [← DpAll_len hd]; exact hl), ?_⟩
  intro pins a σ' H' O' s' I fr xs
  have sm : Same H H' := fun a o e => (fr.1 a o e rfl).1
  have xa := xs.1
  have xb := xs.2.1.1
  refine leaveX (E := _) I rfl rfl rfl xs fun h' T r1 r2 r3 r4 r5 r6 r7 => ?_
  exact ⟨a, C, T, H', rfl, r1, r2, r3, xa, r4, xb, r5, I.os, I.bare, r6, sm, r7, q H'⟩
end
end MD

/-! EXCEPTIONS: rules -/
namespace MD
open PySem PySem.Spec L2 PyProof.Rows
/-- the classes above a refusal that are not the text's own -/
abbrev bmV : List Value := [.type "ValueError", .type "Exception", .type "BaseException", .type "object"]
structure XC (K : PySem.W.Frag) (C : Addr) : Prop where
  ex : PySem.W.excIn K C bmV "ValueError.__new__" = true
theorem cls_obj {K : PySem.W.Frag} {h : Heap} {C : Addr} {bmB : List Value} {newId : String} (kin : K.In h) (q : PySem.W.excIn K C bmB newId = true) :
    ∃ tl N nm qn bs hd sn sub ab col dd k0 k1 k2 k3 k5 mN, h.get? C = some (excClassObj nm qn C N bs tl hd sn sub ab col dd k0 k1 k2 k3 k5 newId) ∧ h.Ns N mN ∧ mN "__init__" = none ∧ OwnTail h bmB tl := by
  unfold PySem.W.excIn at q
  split at q
  · rename_i dd cd sl lk
    split at q
    · rename_i D' tl k0 k1 k2 k3 nw k5 em es
      simp only [Bool.and_eq_true, beq_iff_eq, Bool.not_eq_true'] at q
      obtain ⟨⟨⟨⟨⟨e1, e2⟩, e3⟩, e4⟩, e5⟩, e6⟩ := q
      subst e1 e2
      obtain ⟨nm, bs, mro, ns, qn, hd, sn, sub, ab, col, del⟩ := cd
      dsimp only at em e3 e5 e6
      subst em e3
      have e7 : sl = #[k0, k1, k2, k3, some (.builtin nw), k5] := by
        obtain ⟨l⟩ := sl
        simp only at es
        rw [es]
      subst e7
      exact ⟨tl, ns, nm, qn, bs, hd, sn, sub, ab, col, dd, k0, k1, k2, k3, k5, _, kin _ _ lk, .of_isNs (PySem.W.isNs_of_in kin e5), PySem.W.nsMap_none_of_in kin e5 e6, PySem.W.tail_of_in kin e4⟩
    · cases q
  · cases q
structure CalX (P : Program) (w : World) (K : PySem.W.Frag) (mg : Str → Option Value) (base : Heap) (x : Str) (k : Nat) (ps : List Str) (h : List D → Option Addr) : Prop where
  ex : ∃ f fd, FnOk P w K mg base (CXr P w) k f fd ps (spX K ps.length h) ∧ mg x = some (.ref f) ∧ PySem.W.keepIn K (.ref f) = true ∧ Binds K fd ps []
def nCall (n0 : Nat) (h : List D → Option Addr) (n : MA) : NX := fun E => (n E).bind fun rs => if rs.length = n0 then h (rs.map R.d) else none
section
variable {X : Cx} {e : Expr} {es : List Expr} {n : MA} {pos p : Pos} {x : Str}
theorem RAs_len {K : PySem.W.Frag} {H : Hp} {W : WM} : ∀ {vs : List V} {rs : List R}, RAs K H W vs rs → vs.length = rs.length
  | _, _, .nil => rfl
  | _, _, .cons _ t => by simp [RAs_len t]
/-- a def that raises is called -/
theorem run_X {pins : List (Addr × Obj)} {σ : L2.St} {H : Hp} {s : Shared} {us : List Value} {vs : List V} {rs : List R} {W : WM} {E : Ev} {f : Addr} {fd : FuncData} {ps : List Str} {k : Nat} {h : List D → Option Addr} {C : Addr} {Q : Value → Shared → Prop}
    (F : FnOk X.prog X.w X.K X.mg X.base (CXr X.prog X.w) k f fd ps (spX X.K ps.length h)) (hr : Room k X.A) (hb : Binds X.K fd ps []) (hex : X.ex = []) (I : Inv X pins σ H s) (r : Vals vs us) (hH : Held X.K H W σ E) (ra : RAs X.K H W vs rs) (hl : rs.length = ps.length)
    (hc : h (rs.map R.d) = some C) (xw : XE X σ H C) : wpAny (model X.prog X.w) X.A (call (.ref f) us) Q X.xe s := by
  have hlv : vs.length = ps.length := (RAs_len ra).trans hl
  have hlu : us.length = ps.length := by rw [← r.length]; exact hlv
  have B := hb s us I.kIn (by rw [List.append_nil]; exact hlu)
  rw [List.append_nil] at B
  refine wpAny_call (codeAny_mono (F.run X.A X.stack s H ⟨us, []⟩ us vs (fun _ _ => False) (fun c _ _ => c = .ref C) hr I.env0 B r ⟨hlv, W.z, _, C, fun a ha => hH.dom a (WM.zw a ha), ra.dps, hc, fun _ => rfl⟩) fun r s' hq => ?_)
  cases r with
  | error e =>
    obtain ⟨a, C', T, H', rfl, q1, q2, q3, q4, q5, q6, q7, q8, q9, q10, q11, q12, q13⟩ := hq
    cases q13
    have nw : ∀ b, s.heap.get? b = none → X.s_0.heap.get? b = none := fun b hb => by
      cases z : X.s_0.heap.get? b with
      | none => rfl
      | some o => obtain ⟨o', e'⟩ := I.base.there b o z (by rw [hex]; simp); rw [hb] at e'; cases e'
    have np : ∀ b, s.heap.get? b = none → ∀ p ∈ X.pn, p.1 ≠ b := fun b hb p hp z => by
      have q := (I.pin p (List.mem_append_left _ hp)).1
      rw [z, hb] at q
      cases q
    have I' : Inv X pins σ H' s' := I.call' (ch := []) q8 q10 q12 q9 (fun b z => absurd z (by simp))
    exact xw pins a H' s' I' q11 ⟨q4, ⟨nw a q6, np a q6⟩, .ref T, q1, .inr ⟨T, rfl, q2, q3⟩, fun T' z => by cases z; exact ⟨q5, nw T q7, np T q7⟩⟩
  | ok fl =>
    cases fl with
    | ret u => obtain ⟨_, _, _, _, _, _, _, z⟩ := hq; exact z.elim
    | next => exact False.elim hq
    | brk => exact False.elim hq
    | cont => exact False.elim hq
theorem x_call {k : Nat} {ps : List Str} {h : List D → Option Addr} (C : CalX X.prog X.w X.K X.mg X.base x k ps h) (hr : Room k X.A) (ha : PA X (e :: es) (tMA X.K n)) (hex : X.ex = [] := by rfl)
    (hg : Gl X x := by rfl) (hdb : (x == ("__debug__" : Str)) = false := by decide) (he : starEach (e :: es) X.env = (false, eval e X.env) :: starEach es X.env := by rfl) (hpl : (backTo pos (starEach es X.env)).any (·.1) = false := by rfl) :
    PE X (.Call (.Name x p) (e :: es) [] pos) (eX X (nCall ps.length h n)) := by
  obtain ⟨f, fd, F, hm, hk, hb⟩ := C.ex
  intro pins s σ H Q I q
  obtain ⟨E, W, C', hH, hn, xw⟩ := q
  obtain ⟨rs, er, hn⟩ := bindSome hn
  split at hn
  · rename_i hl
    refine wpAny_Call_Name_kw (ld_glob I hg hm ?_ hdb)
    refine PySem.W.callWith_K (h₀ := X.base) I.ok.mod.kin hk (thn (ha pos pins s σ H (fun vs H1 => Same H H1 ∧ RAs X.K H1 W vs rs) I ⟨E, W, rs, hH, er, fun vs H' s' r' => ⟨s', r'⟩⟩) fun us s1 ⟨vs, H1, I1, r, q1, q2⟩ => ⟨I1.kIn, ?_⟩) he hpl
    exact run_X F hr hb hex I1 r (hH.grow q1) q2 hl hn (xw.later q1)
  · cases hn
def nIf (c : MT) (a b : NX) : NX := fun E => (c E).bind fun k => if k = true then a E else b E
def nNo : NX := fun _ => none
theorem x_noS {st : Stmt} : PS X st (sX X nNo) := fun _ _ _ _ _ _ ⟨_, _, _, _, hn, _⟩ => by cases hn
theorem x_nil {st : List Stmt} : PSs X st (sX X nNo) := fun _ _ _ _ _ _ ⟨_, _, _, _, hn, _⟩ => by cases hn
theorem x_ifExp {c a b : Expr} {nc : MT} {na nb : NX} (hc : PT X c (tMT X.K nc)) (ha : PE X a (eX X na)) (hb : PE X b (eX X nb)) : PE X (.IfExp c a b pos) (eX X (nIf nc na nb)) := pe_imp (pe_ifExp hc ha hb) fun σ H Q ⟨E, W, C, hH, hn, xw⟩ => by
  obtain ⟨k, ek, hn⟩ := bindSome hn
  refine ⟨E, W, k, hH, ek, fun H1 s1 => ?_⟩
  cases k with
  | false => rw [if_neg Bool.false_ne_true] at hn ⊢; exact ⟨E, W, C, hH.grow s1, hn, xw.later s1⟩
  | true => rw [if_pos rfl] at hn ⊢; exact ⟨E, W, C, hH.grow s1, hn, xw.later s1⟩
theorem x_if {c : Expr} {a b : List Stmt} {nc : MT} {na nb : NX} (hc : PT X c (tMT X.K nc)) (ha : PSs X a (sX X na)) (hb : PSs X b (sX X nb)) : PS X (.If c a b pos) (sX X (nIf nc na nb)) := ps_imp (ps_if hc ha hb) fun D σ H ⟨E, W, C, hH, hn, xw⟩ => by
  obtain ⟨k, ek, hn⟩ := bindSome hn
  refine ⟨E, W, k, hH, ek, fun H1 s1 => ?_⟩
  cases k with
  | true => rw [if_pos rfl] at hn ⊢; exact ⟨E, W, C, hH.grow s1, hn, xw.later (Fr.of s1)⟩
  | false => rw [if_neg Bool.false_ne_true] at hn ⊢; exact ⟨E, W, C, hH.grow s1, hn, xw.later (Fr.of s1)⟩
theorem x_ret {m : NX} (he : PE X e (eX X m)) : PS X (.Return (some e) pos) (sX X m) := ps_imp (ps_ret he) fun D σ H ⟨E, W, C, hH, hn, xw⟩ => ⟨E, W, C, hH, hn, xw.e⟩
theorem x_expr {m : NX} (he : PE X e (eX X m)) (hs : swapsWith e none pos.line X.env = pure false := by rfl) : PS X (.Expr e pos) (sX X m) := ps_imp (ps_expr he hs) fun D σ H ⟨E, W, C, hH, hn, xw⟩ => ⟨E, W, C, hH, hn, xw.e⟩
def nAlt (a : NX) (s : MS) (b : NX) : NX := fun E => match a E with | some C => some C | none => (s E).bind fun o => match o with | .nx E' => b E' | _ => none
theorem x_cons {st : Stmt} {rest : List Stmt} {a b : NX} {sm : MS} (h1 : PS X st (sX X a)) (h2 : PS X st (sM X.K false sm)) (h3 : PSs X rest (sX X b)) : PSs X (st :: rest) (sX X (nAlt a sm b)) := fun pins s σ H D I ⟨E, W, C, hH, hn, xw⟩ => by
  unfold nAlt at hn
  split at hn
  · rename_i C' ea
    cases hn
    exact pss_cons h1 (x_nil (X := X)) pins s σ H D I ⟨E, W, C, hH, ea, xw⟩
  · obtain ⟨o, eo, hn⟩ := bindSome hn
    refine pss_cons h2 h3 pins s σ H D I ⟨E, W, o, hH, eo, ?_⟩
    cases o with
    | nx E' => exact fun σ' H' O' hh f => ⟨E', ⟨W.z, O'⟩, C, hh, hn, xw.later f⟩
    | bk E' => cases hn
    | ct E' => cases hn
    | rt r => cases hn
theorem x_one {st : Stmt} {a : NX} (h1 : PS X st (sX X a)) : PSs X [st] (sX X a) := pss_one h1
/-- raise C(..) -/
def nRaise (C : Addr) (n : MA) : NX := fun E => (n E).bind fun rs => if rs.length ≤ 9 then some C else none
theorem x_raise {C : Addr} {np cpos : Pos} (c : XC X.K C) (hm : X.mg x = some (.ref C)) (ha : PA X (e :: es) (tMA X.K n)) (hc : X.calm = true := by rfl) (hex : X.ex = [] := by rfl)
    (hg : Gl X x := by rfl) (hdb : (x == ("__debug__" : Str)) = false := by decide) (he : starEach (e :: es) X.env = (false, eval e X.env) :: starEach es X.env := by rfl) (hpl : (backTo cpos (starEach es X.env)).any (·.1) = false := by rfl) :
    PS X (.Raise (some (.Call (.Name x np) (e :: es) [] cpos)) none pos) (sX X (nRaise C n)) := by
  intro pins s σ H D I q
  obtain ⟨E, W, C', hH, hn, xw⟩ := q
  obtain ⟨rs, er, hn⟩ := bindSome hn
  split at hn
  case isFalse => cases hn
  rename_i h9
  cases hn
  obtain ⟨tl, N, nm, qn, bs, hd, sn, sub, ab, col, dd, k0, k1, k2, k3, k5, mN, hC, hN, hni, TL⟩ := cls_obj I.mod.kin c.ex
  refine wpAny_Raise_call_subT (C := C) (nm := nm) (q := qn) (N := N) (bs := bs) (bm := tl) (hdct := hd) (sn := sn) (sub := sub) (ab := ab) (col := col) (dd := dd) (k0 := k0) (k1 := k1) (k2 := k2) (k3 := k3) (k5 := k5) PySem.F.excBase_ValueError (mN := mN)
    (TL.hasType PySem.F.excBase_ValueError.hasBase) (I.ok.hd hc) (by rw [he]; show (false || (backTo cpos (starEach es X.env)).any (·.1)) = false; rw [hpl]; rfl) hni (ld_glob I hg hm ⟨rfl, ?_⟩ hdb)
  have A := ha cpos pins s σ H (fun vs H1 => Same H H1 ∧ RAs X.K H1 W vs rs) I ⟨E, W, rs, hH, er, fun vs H' s' r' => ⟨s', r'⟩⟩
  rw [he] at A ⊢
  refine Calls.evalArgs_plain (wpAny_mono A (fun us s2 z => ?_) fun _ _ y => y)
  obtain ⟨vs, H1, I1, r, q1, q2⟩ := z
  refine ⟨rfl, ?_, I1.bk _ _ hC, hN.keeps I1.bk, TL.keeps I1.bk, fun h' a mk => ?_⟩
  · rw [← r.length, RAs_len q2]
    exact Nat.le_trans h9 (by rw [sizeLine_eq]; decide)
  · obtain ⟨t, ht, _⟩ := mk.there
    have nw : X.s_0.heap.get? a = none := by
      cases z : X.s_0.heap.get? a with
      | none => rfl
      | some o => obtain ⟨o', e'⟩ := I1.base.there a o z (by rw [hex]; simp); rw [mk.new] at e'; cases e'
    exact xw pins a σ H1 W.o _ (I1.kept mk.keeps) (Fr.of q1) ⟨none_trk I1.hok mk.new, ⟨nw, fun p hp z => by have q := (I1.pin p (List.mem_append_left _ hp)).1; rw [z, mk.new] at q; cases q⟩, .none, ⟨_, _, ht, ⟨rfl, rfl⟩, rfl, rfl, rfl⟩, .inl rfl, fun T z => by cases z⟩
end
end MD

namespace MD
open PySem PySem.Spec L2 PyProof.Rows
/-! ### isinstance of an exception that is handled -/
structure XI (K : PySem.W.Frag) (C : Addr) : Prop where
  hga : PySem.W.findIn K (.ref C) "__getattribute__" = some (some (.builtin "BaseException.__getattribute__"))
  hgn : PySem.W.findIn K (.ref C) "__getattr__" = some none
  ha : PySem.W.findIn K (.ref C) "__class__" = some (some (.builtin "object.__class__"))
  hn : PySem.W.specialIn K (.builtin "object.__class__") "__get__" = some (some (.builtin "getset_descriptor.__get__"))
  ht : PySem.W.takesIn K (.builtin "object.__class__") = some true
  hm : PySem.W.mroIn K C (.type "object") = some true
  hb : PySem.W.mroIn K C (.type "BaseException") = some true
section
variable {prog : Program} {w : World} {A : Around} {E : Value → Shared → Prop} {s : Shared} {K : PySem.W.Frag} {x C : Addr} {ox : Obj}
theorem exc_check {M : Model} {nameV : Value} {Q : Unit → Shared → Prop} (c : XI K C) (kin : K.In s.heap) (I : PySem.W.InstAt s.heap x ox C none) (hq : Q () s) : wpAny M A (checkBuiltinCall "BaseException.__getattribute__" ⟨[.ref x, nameV], []⟩) Q E s := by
  have hk : builtinKind "BaseException.__getattribute__" = some .slot := by decide +kernel
  have hsp : splitId "BaseException.__getattribute__" = some ("BaseException", "__getattribute__") := by decide +kernel
  have ha := F.args_bexc_ga (.ref x) nameV
  simp only [checkBuiltinCall, hk, hsp]
  refine wpAny_bind ?_
  have LI : PySem.W.Looks M s.heap (isInstance (.ref x) (.type "BaseException")) true := I.type.andThen (PySem.W.looks_mroIn kin c.hb)
  refine LI.here ?_
  repeat (first | assumption | wp_step)
theorem exc_class {Q : Option Value → Shared → Prop} (c : XI K C) (kin : K.In s.heap) (I : PySem.W.InstAt s.heap x ox C none) (h : Q (some (.ref C)) { s with toks := s.toks + 1 }) : wpAny (model prog w) A (getAttr? (.ref x) "__class__") Q E s := by
  obtain ⟨hh, g, d, t, os⟩ := s
  have L0 := I.type (M := model prog w)
  have L1 := PySem.W.looks_findIn (M := model prog w) kin c.hga
  have L2 := PySem.W.looks_findIn (M := model prog w) kin c.hgn
  unfold getAttr? getAttrBy? getAttrBy
  refine wpAny_bind (wpAny_mkText (wpAny_bind (wpAny_attempt (wpAny_holding (wpAny_bind (L0.at (wpAny_bind (L1.at ?_))))))))
  show wpAny _ _ (getAttrByItsOwn _ _ _ _ _ _) _ _ _
  unfold getAttrByItsOwn
  refine wpAny_bind ?_
  show wpAny _ _ (typeLookup (.ref C) "__getattr__") _ _ _
  refine L2.at ?_
  refine wpAny_bind (wpAny_attempt (wpAny_holding ?_))
  show wpAny _ _ (boundAndCalled _ _ _) _ _ _
  unfold boundAndCalled
  have f3 := PySem.F.attr_ValueError.ga.bind (.ref x)
  rw [f3]
  refine wpAny_bind (wpAny_pure ?_)
  have hf : PySem.W.findObj K C none "__class__" = some (.bind (.builtin "getset_descriptor.__get__") (.builtin "object.__class__")) := by
    have q := c.hm
    unfold PySem.W.mroIn at q
    obtain ⟨cd, e, _⟩ := Option.bind_eq_some_iff.mp q
    unfold PySem.W.findObj
    rw [e, Option.bind_some, c.ha, Option.bind_some]
    simp [c.hn, c.ht]
  have L3 := PySem.W.looks_find (M := model prog w) kin I hf
  refine wpAny_call (codeAny_call_builtin PySem.F.attr_ValueError.ga.plain F.entry_bexc_ga (exc_check c kin I ?_))
  refine wpAny_bind (wpAny_pure ?_)
  refine wpAny_bind (wpAny_pure ?_)
  refine wpAny_bind (L0.at ?_)
  refine wpAny_bind (L3.at ?_)
  show wpAny _ _ (holding [Value.builtin "object.__class__"] (call (.builtin "getset_descriptor.__get__") [.builtin "object.__class__", .ref x, .ref C]) >>= ret) _ _ _
  refine wpAny_bind (wpAny_holding (wpAny_call (PySem.W.class_get (ox := ox) (od := none) kin I c.hm (wpAny_pure ?_))))
  exact PySem.W.handed_on rfl (wpAny_pure h)
theorem kitx_exc (c : XI K C) : PySem.W.KitX K (.ref x) (.ref C) (fun h => PySem.W.InstAt h x ox C none) where
  ty := fun _ _ _ I => I.type
  it := fun _ _ X _ => by
    have q := c.hm
    unfold PySem.W.mroIn at q
    obtain ⟨cd, e, _⟩ := Option.bind_eq_some_iff.mp q
    unfold PySem.W.clsIn at e
    split at e
    · rename_i c' d' cd' sl' ho
      intro A' Q' E' s' k q
      unfold isType loadHead
      exact wpAny_bind (wpAny_loadPart (k _ _ (X _ _ ho)) (wpAny_pure q))
    · cases e
  ne := fun h tp dd its n sl X htp => by
    have q := c.hm
    unfold PySem.W.mroIn at q
    obtain ⟨cd, e, _⟩ := Option.bind_eq_some_iff.mp q
    refine Bool.eq_false_iff.mpr fun z => ?_
    have e2 : C = tp := Value.ref.inj (beq_iff_eq.mp z)
    subst e2
    unfold PySem.W.clsIn at e
    split at e
    · rename_i c' d' cd' sl' ho
      have y := (X _ _ ho).symm.trans htp
      cases y
    · cases e
  ca := fun X I k => exc_class c X I k
end
/-- isinstance(e, D): e handled -/
def gIsiX (K : PySem.W.Frag) (Cs : List Addr) (c : Value) : G1 := fun x => match x.d with
  | .exc _ C0 => if C0 ∈ Cs then (PySem.W.kitOne K (.ref C0) c).map fun k => .c (.bool k) else none
  | _ => none
def rIsiX (K : PySem.W.Frag) (Cs : List Addr) (c : Value) (cv : V) : List V → Hp → VK → Prop := fun xs H Q => ∃ x a0 C0 b, xs = [x, cv] ∧ Dp K H x (.exc a0 C0) ∧ C0 ∈ Cs ∧ PySem.W.kitOne K (.ref C0) c = some b ∧ Q (.bl b) H
section
variable {X : Cx} {K : PySem.W.Frag} {e : Expr} {m : ME} {pos p p2 : Pos}
theorem cr_isiX (Cs : List Addr) (c : Value) (cv : V) (hcv : ∀ u, RelV cv u → u = c) (hC : ∀ C0 ∈ Cs, XI X.K C0) : CallR X (.builtin "isinstance") (rIsiX X.K Cs c cv) := by
  intro pins s σ H xs us Q I r h
  obtain ⟨x, a0, C0, k, rfl, hd, hc, hi, q⟩ := h
  obtain ⟨u, v, rfl, ru, rv⟩ := r.two
  have e := hcv _ rv
  subst e
  have fin : ∀ tk, EP X pins σ Q (.bool k) { s with toks := tk } := fun tk => ⟨.bl k, H, I.tok _, rfl, q⟩
  cases hd with
  | exc h1 h2 =>
    rename_i o
    cases ru
    obtain ⟨ho, _⟩ := I.hok a0 _ h1
    obtain ⟨⟨h3, h4⟩, vs, h5, _⟩ := h2
    exact PySem.W.kia_one (kitx_exc (ox := o) (hC C0 hc)) I.kIn ⟨ho, h3, by unfold PySem.W.notCls; rw [h5], by rw [h4]; trivial⟩ hi (by intro z; cases z) fin
theorem m_isiX {Cs : List Addr} {C : Addr} {y : Str} (hC : ∀ C0 ∈ Cs, XI K C0) (hm : X.mg "isinstance" = none) (hy : X.mg y = some (.ref C)) (he : PE X e (tM X.K m)) (hK : X.K = K := by rfl) (hg : Gl X "isinstance" := by rfl) (hgy : Gl X y := by rfl) (hd : (y == ("__debug__" : Str)) = false := by decide)
    (h1 : starEach [e, .Name y p2] X.env = (false, eval e X.env) :: starEach [.Name y p2] X.env := by rfl) (h2 : (backTo pos (starEach [.Name y p2] X.env)).any (·.1) = false := by rfl)
    (h3 : starEach [.Name y p2] X.env = (false, eval (.Name y p2) X.env) :: starEach [] X.env := by rfl) :
    PE X (.Call (.Name "isinstance" p) [e, .Name y p2] [] pos) (tM X.K (mUn (gIsiX K Cs (.ref C)) m)) := by
  subst hK
  refine pe_imp (pe_callB (cr_isiX Cs (.ref C) (.ref C) (fun u h => h) hC) hg hm PyProof.Rows.boot_isinstance (pa_cons he (pa_cons (pe_glob (v := .ref C) hgy hy rfl hd) pa_nil h3) h1) (he := h1) (hpl := h2)) fun σ H Q ⟨E, W, rc, hH, hm, k⟩ => ?_
  obtain ⟨ra, ea, hm⟩ := bindSome hm
  unfold gIsiX at hm
  split at hm
  · rename_i a0 C0 ed
    split at hm
    · rename_i hc
      cases hi : PySem.W.kitOne X.K (.ref C0) (.ref C) with
      | none => rw [hi] at hm; cases hm
      | some z =>
        rw [hi] at hm
        cases hm
        refine ⟨E, W, ra, hH, ea, fun x H1 s1 r1 f1 => ⟨x, a0, C0, z, rfl, ?_, hc, hi, k _ H1 s1 (Dp.bl z) trivial⟩⟩
        have q := r1.dp
        rw [ed] at q
        exact q
    · cases hm
  · cases hm
theorem m_isiXT {Cs : List Addr} {T : String} {y : Str} (hC : ∀ C0 ∈ Cs, XI K C0) (hm : X.mg "isinstance" = none) (hy : X.mg y = none) (he : PE X e (tM X.K m)) (hv : bootBuiltins y = some (.type T) := by decide +kernel) (hK : X.K = K := by rfl) (hg : Gl X "isinstance" := by rfl) (hgy : Gl X y := by rfl) (hn : y ≠ "__name__" := by decide) (hd : (y == ("__debug__" : Str)) = false := by decide)
    (h1 : starEach [e, .Name y p2] X.env = (false, eval e X.env) :: starEach [.Name y p2] X.env := by rfl) (h2 : (backTo pos (starEach [.Name y p2] X.env)).any (·.1) = false := by rfl)
    (h3 : starEach [.Name y p2] X.env = (false, eval (.Name y p2) X.env) :: starEach [] X.env := by rfl) :
    PE X (.Call (.Name "isinstance" p) [e, .Name y p2] [] pos) (tM X.K (mUn (gIsiX K Cs (.type T)) m)) := by
  subst hK
  refine pe_imp (pe_callB (cr_isiX Cs (.type T) (.ty T) (fun u h => h) hC) hg hm PyProof.Rows.boot_isinstance (pa_cons he (pa_cons (pe_bltn (v := .ty T) hgy hy hv rfl hn hd) pa_nil h3) h1) (he := h1) (hpl := h2)) fun σ H Q ⟨E, W, rc, hH, hm, k⟩ => ?_
  obtain ⟨ra, ea, hm⟩ := bindSome hm
  unfold gIsiX at hm
  split at hm
  · rename_i a0 C0 ed
    split at hm
    · rename_i hc
      cases hi : PySem.W.kitOne X.K (.ref C0) (.type T) with
      | none => rw [hi] at hm; cases hm
      | some z =>
        rw [hi] at hm
        cases hm
        refine ⟨E, W, ra, hH, ea, fun x H1 s1 r1 f1 => ⟨x, a0, C0, z, rfl, ?_, hc, hi, k _ H1 s1 (Dp.bl z) trivial⟩⟩
        have q := r1.dp
        rw [ed] at q
        exact q
    · cases hm
  · cases hm
end
end MD

namespace MD
open PySem PySem.Spec L2 PyProof.Rows
section
variable {X : Cx} {pins : List (Addr × Obj)} {σ : L2.St} {H : Hp} {s : Shared} {a C : Addr} {tv : Value} {h' : Heap}
/-- an exception and its trace have changed, slots of frames too: all else stands -/
theorem Inv.mov (I : Inv X pins σ H s) (hex : X.ex = []) (kp : KpX (frs X.stack) a tv s.heap h') (xa : H a = none) (xb : X.s_0.heap.get? a = none) (xt : ∀ T, tv = .ref T → H T = none ∧ X.s_0.heap.get? T = none)
    (da : ∃ o vs, s.heap.get? a = some o ∧ o.data = .fields vs) (dt : ∀ T, tv = .ref T → ∃ o vs, s.heap.get? T = some o ∧ o.data = .fields vs) (pa : ∀ p ∈ X.pn ++ pins, p.1 ≠ a ∧ tv ≠ .ref p.1) : Inv X pins σ H { s with heap := h' } := by
  have nw : ∀ b o, X.s_0.heap.get? b = some o → b ≠ a ∧ tv ≠ .ref b := fun b o e => ⟨fun z => (by rw [z, xb] at e; cases e), fun z => (by rw [(xt b z).2] at e; cases e)⟩
  have df : ∀ b o, s.heap.get? b = some o → (∀ vs, o.data ≠ .fields vs) → b ≠ a ∧ tv ≠ .ref b := fun b o e n => ⟨fun z => (by
    obtain ⟨o', vs, q, d⟩ := da
    rw [z, q] at e
    cases e
    exact n vs d), fun z => (by
    obtain ⟨o', vs, q, d⟩ := dt b z
    rw [q] at e
    cases e
    exact n vs d)⟩
  have nex : ∀ b : Addr, b ∉ X.ex := fun b => by rw [hex]; simp
  have loc : ∀ b o, X.s_0.heap.get? b = some o → b ≠ X.env.locals := fun b o e z => absurd (Nat.lt_of_lt_of_le (Heap.lt_size e) I.ok.above) (by rw [z]; exact Nat.lt_irrefl _)
  have cel : ∀ c v, s.heap.IsCell c v → h'.IsCell c v := fun c v ⟨o, e, d⟩ => by
    obtain ⟨n1, n2⟩ := df c o e fun vs z => by rw [d] at z; cases z
    obtain ⟨sl, q⟩ := kp.slot c o e n1 n2
    exact ⟨_, q, d⟩
  refine ⟨I.ok, I.os, I.bare, ⟨fun b o e n nf _ => ?_, fun b o e n nf _ => ?_, fun b o e n _ => I.base.free b o e n (nex b), fun b o e _ => ?_, I.base.tups, I.base.frzs, I.base.tbls⟩, ?_, fun x c e => ?_, I.free, I.freeC, fun p hp => ?_, hok_kp I.hok kp xa (fun T z => (xt T z).1) I.stkFree, I.len⟩
  · obtain ⟨n1, n2⟩ := nw b o e
    exact kp.keep b o (I.base.keep b o e n nf (nex b)) n1 n2 fun hb => (List.mem_cons.mp (I.stkSub b hb)).elim (loc b o e) nf
  · obtain ⟨n1, n2⟩ := nw b o e
    obtain ⟨sl, z⟩ := I.base.slot b o e n nf (nex b)
    obtain ⟨sl2, z2⟩ := kp.slot b _ z n1 n2
    exact ⟨sl2, z2⟩
  · obtain ⟨n1, n2⟩ := nw b o e
    obtain ⟨o', z⟩ := I.base.there b o e (nex b)
    obtain ⟨sl2, z2⟩ := kp.slot b _ z n1 n2
    exact ⟨_, z2⟩
  · obtain ⟨m, ⟨o, es, ep, ho, r⟩, hl⟩ := I.loc
    obtain ⟨n1, n2⟩ := df _ o ho fun vs z => by rw [r.1] at z; cases z
    obtain ⟨sl, q⟩ := kp.slot _ o ho n1 n2
    refine ⟨m, ⟨_, es, ep, q, r⟩, fun i x v e1 e2 e3 => ?_⟩
    obtain ⟨u, ru, lk⟩ := hl i x v e1 e2 e3
    refine ⟨u, ru, ?_⟩
    rcases lk with lk | ⟨kd, c, ec, ic⟩
    · exact .inl lk
    · exact .inr ⟨kd, c, ec, cel c _ ic⟩
  · obtain ⟨v, q⟩ := I.cell x c e
    exact ⟨v, cel c v q⟩
  · obtain ⟨p1, p2, p3, p4, p5⟩ := I.pin p hp
    refine ⟨kp.keep p.1 p.2 p1 (pa p hp).1 (pa p hp).2 fun hb => (List.mem_cons.mp (I.stkSub _ hb)).elim p3 p4, p2, p3, p4, p5⟩
/-- an exception is looked after from here on -/
theorem Inv.trk {o : Obj} {vs : Array Value} (I : Inv X pins σ H s) (hex : X.ex = []) (xa : H a = none) (xb : X.s_0.heap.get? a = none) (ho : s.heap.get? a = some o) (hd : o.data = .fields vs) (pa : ∀ p ∈ X.pn ++ pins, p.1 ≠ a) : Inv X pins σ (upd H a (.frz o (.own a))) s := by
  have up : ∀ b u, H b = some u → upd H a (.frz o (.own a)) b = some u := fun b u e => by
    rw [upd_ne fun z => ?_]
    · exact e
    · rw [z, xa] at e; cases e
  refine ⟨I.ok, I.os, I.bare, ⟨I.base.keep, I.base.slot, fun b u e n nx => ?_, I.base.there, fun b xs e => up _ _ (I.base.tups b xs e), fun b ob u e => up _ _ (I.base.frzs b ob u e), fun b ps e => let ⟨more, q⟩ := I.base.tbls b ps e; ⟨more, up _ _ q⟩⟩, I.loc, I.cell, ?_, fun x c e => ?_, fun p hp => ?_, fun b u e => ?_, I.len⟩
  · rw [upd_ne fun z => ?_]
    · exact I.base.free b u e n nx
    · rw [z, xb] at e; cases e
  · rw [upd_ne fun z => ?_]
    · exact I.free
    · obtain ⟨m, ⟨ol, es, ep, hl, r⟩, _⟩ := I.loc
      rw [z, ho] at hl
      cases hl
      rw [r.1] at hd
      cases hd
  · rw [upd_ne fun z => ?_]
    · exact I.freeC x c e
    · obtain ⟨v, oc, q, d⟩ := I.cell x c e
      rw [z, ho] at q
      cases q
      rw [d] at hd
      cases hd
  · obtain ⟨p1, p2, p3, p4, p5⟩ := I.pin p hp
    exact ⟨p1, by rw [upd_ne (pa p hp)]; exact p2, p3, p4, p5⟩
  · by_cases hb : b = a
    · subst hb
      rw [upd_same] at e
      cases e
      exact ⟨ho, o, ho⟩
    · rw [upd_ne hb] at e
      exact (I.hok b u e).stay (fun c v _ q => q) (fun c q => up _ _ q) fun c xs q => up _ _ q
/-- within an except suite -/
abbrev Cx.hnd (X : Cx) (a : Addr) : Cx := { X with A := X.A.mark (some (.ref a)), calm := false, xe := fun _ _ => False }
theorem Inv.hnd (I : Inv X pins σ H s) (a : Addr) : Inv (Cx.hnd X a) pins σ H s :=
  ⟨⟨I.ok.mod, I.ok.kind, I.ok.glob, I.ok.blt, I.ok.above, I.ok.inj, I.ok.has, I.ok.cab, fun z => (by cases z), I.ok.frames, I.ok.stk, I.ok.exf, I.ok.bs, I.ok.bsz, I.ok.noex, I.ok.exfs, I.ok.funs, I.ok.frf⟩, I.os, I.bare, I.base, I.loc, I.cell, I.free, I.freeC, I.pin, I.hok, I.len⟩
theorem Inv.unhnd (J : Inv X pins σ H s) {pins' : List (Addr × Obj)} {σ' : L2.St} {H' : Hp} {s' : Shared} (I : Inv (Cx.hnd X a) pins' σ' H' s') : Inv X pins' σ' H' s' :=
  ⟨J.ok, I.os, I.bare, I.base, I.loc, I.cell, I.free, I.freeC, I.pin, I.hok, I.len⟩
/-- the pins as the context's -/
abbrev Cx.pnd (X : Cx) (pn : List (Addr × Obj)) (xe : Value → Shared → Prop) : Cx := { X with pn := pn, xe := xe }
theorem Inv.pnd (I : Inv X pins σ H s) (xe : Value → Shared → Prop) : Inv (Cx.pnd X (X.pn ++ pins) xe) [] σ H s :=
  ⟨⟨I.ok.mod, I.ok.kind, I.ok.glob, I.ok.blt, I.ok.above, I.ok.inj, I.ok.has, I.ok.cab, I.ok.hd, I.ok.frames, I.ok.stk, I.ok.exf, I.ok.bs, I.ok.bsz, I.ok.noex, I.ok.exfs, I.ok.funs, I.ok.frf⟩, I.os, I.bare, I.base, I.loc, I.cell, I.free, I.freeC, fun p hp => I.pin p (by simpa using hp), I.hok, I.len⟩
theorem Inv.unpnd (J : Inv X pins σ H s) {xe : Value → Shared → Prop} {pins' : List (Addr × Obj)} {σ' : L2.St} {H' : Hp} {s' : Shared} (I : Inv (Cx.pnd X (X.pn ++ pins) xe) pins' σ' H' s') : Inv X pins σ' H' s' :=
  ⟨J.ok, I.os, I.bare, I.base, I.loc, I.cell, I.free, I.freeC, fun p hp => I.pin p (List.mem_append_left _ hp), I.hok, I.len⟩
end
end MD

namespace MD
open PySem PySem.Spec L2 PyProof.Rows
open Classical in
/-- try: e, except C as the i-th name: the suite, whatever the exception's place -/
noncomputable def mTry (nb : NX) (Cs : List Addr) (i : Nat) (ms : Addr → MS) : MS := fun E => (nb E).bind fun C => if C ∈ Cs then (if h : ∃ o, ∀ a, ms a (E.set i (some (.v (.exc a C)))) = some o then (match h.choose with
  | .nx E' => some (.nx (E'.set i none))
  | .rt r => some (.rt r)
  | _ => none) else none) else none
theorem mTry_rt {nb : NX} {Cs : List Addr} {i : Nat} {ms : Addr → MS} {E : Ev} {C : Addr} {r : R} (h1 : nb E = some C) (h2 : C ∈ Cs) (h3 : ∀ a, ms a (E.set i (some (.v (.exc a C)))) = some (.rt r)) : mTry nb Cs i ms E = some (.rt r) := by
  unfold mTry
  rw [h1]
  simp only [Option.bind_some]
  rw [if_pos h2]
  have q : ∃ o, ∀ a, ms a (E.set i (some (.v (.exc a C)))) = some o := ⟨_, h3⟩
  rw [dif_pos q]
  have z := q.choose_spec 0
  rw [h3 0] at z
  rw [← Option.some.inj z]
theorem mTry_inv {nb : NX} {Cs : List Addr} {i : Nat} {ms : Addr → MS} {E : Ev} {o : Out} (h : mTry nb Cs i ms E = some o) : ∃ C o', nb E = some C ∧ C ∈ Cs ∧ (∀ a, ms a (E.set i (some (.v (.exc a C)))) = some o') ∧ ((∃ E', o' = .nx E' ∧ o = .nx (E'.set i none)) ∨ (∃ r, o' = .rt r ∧ o = .rt r)) := by
  unfold mTry at h
  obtain ⟨C, e1, h⟩ := bindSome h
  split at h
  · rename_i hc
    split at h
    · rename_i q
      refine ⟨C, q.choose, e1, hc, q.choose_spec, ?_⟩
      split at h
      · rename_i E' e; exact .inl ⟨E', e, (Option.some.inj h).symm⟩
      · rename_i r e; exact .inr ⟨r, e, (Option.some.inj h).symm⟩
      · cases h
    · cases h
  · cases h
section
variable {X : Cx}
/-- a name goes -/
theorem goneX {M : Model} {A : Around} {E : Value → Shared → Prop} {pins : List (Addr × Obj)} {σ : L2.St} {H : Hp} {s : Shared} {i : Nat} {nm : Str} {pos : Pos} {Q : Unit → Shared → Prop} (I : Inv X pins σ H s) (hN : X.N.Nodup) (hi : X.N[i]? = some nm) (hl : X.env.kindOf nm = some .local)
    (k : ∀ s', Inv X pins (σ.set i none) H s' → Q () s') : wpAny M A (do bindName X.env nm .none; unbindBehindTheSuite X.env nm pos) Q E s := by
  obtain ⟨m, hn, hv⟩ := id I.loc
  refine wpAny_nameGoes_keeps hl hn (by rw [I.ok.kind]; rfl) fun h' v hn' sb => k _ ?_
  have oth : ∀ b o, b ≠ X.env.locals → s.heap.get? b = some o → h'.get? b = some o := fun b o nb e => (sb.2 b nb).trans e
  have loc : ∀ b o, X.s_0.heap.get? b = some o → b ≠ X.env.locals := fun b o e z => absurd (Nat.lt_of_lt_of_le (Heap.lt_size e) I.ok.above) (by rw [z]; exact Nat.lt_irrefl _)
  have trk : ∀ b u, H b = some u → b ≠ X.env.locals := fun b u e z => by rw [z, I.free] at e; cases e
  have cel : ∀ x c, X.env.cells.lookup x = some c → ∀ v, s.heap.IsCell c v → h'.IsCell c v := fun x c e v ⟨o, q, d⟩ => ⟨o, oth c o (I.cne x c e) q, d⟩
  refine ⟨I.ok, I.os, I.bare, ⟨fun b o e n nf nx => oth b o (loc b o e) (I.base.keep b o e n nf nx), fun b o e n nf nx => ?_, I.base.free, fun b o e nx => ?_, I.base.tups, I.base.frzs, I.base.tbls⟩, ⟨_, hn', fun j x w e1 e2 e3 => ?_⟩, fun x c e => ?_, I.free, I.freeC, fun p hp => ?_, fun b u e => ?_, by rw [List.length_set]; exact I.len⟩
  · obtain ⟨sl, z⟩ := I.base.slot b o e n nf nx
    exact ⟨sl, oth b _ (loc b o e) z⟩
  · obtain ⟨o', z⟩ := I.base.there b o e nx
    exact ⟨o', oth b _ (loc b o e) z⟩
  · have hji : j ≠ i := fun z => by
      subst z
      rw [List.getElem?_set] at e2
      simp at e2
    rw [List.getElem?_set_ne (Ne.symm hji)] at e2
    obtain ⟨u, ru, lk⟩ := hv j x w e1 e2 e3
    have nx : x ≠ nm := fun z => by subst z; exact hji (nd_ix hN e1 hi)
    refine ⟨u, ru, ?_⟩
    rcases lk with ⟨kd, q⟩ | ⟨kd, c, ec, ic⟩
    · exact .inl ⟨kd, by simp only [if_neg nx]; exact q⟩
    · exact .inr ⟨kd, c, ec, cel x c ec _ ic⟩
  · obtain ⟨v, q⟩ := I.cell x c e
    exact ⟨v, cel x c e v q⟩
  · obtain ⟨p1, p2, p3, p4, p5⟩ := I.pin p hp
    exact ⟨oth p.1 p.2 p3 p1, p2, p3, p4, p5⟩
  · refine (I.hok b u e).stay (fun c w hc q => oth c w ?_ q) (fun _ q => q) fun _ _ q => q
    rcases hc with z | z
    · rw [z]; exact trk b u e
    · exact trk c _ z
theorem m_try {ff : Bool} {e : Expr} {epos pos np hpos : Pos} {cb nm : Str} {i : Nat} {b0 : Stmt} {suite : List Stmt} {nb : NX} {ms : Addr → MS} {B : Addr} {Cs : List Addr} {K : PySem.W.Frag}
    (he : ∀ pn xe, PE (Cx.pnd X pn xe) e (eX (Cx.pnd X pn xe) nb)) (hs : ∀ a, PSs (Cx.hnd X a) (b0 :: suite) (sM X.K ff (ms a))) (hB : X.mg cb = some (.ref B)) (hx : ∀ C ∈ Cs, PySem.W.exmOne K (.ref C) (.ref B) = some true)
    (hN : X.N.Nodup) (hi : X.N[i]? = some nm) (hl : X.env.kindOf nm = some .local) (hK : X.K = K := by rfl) (hst : X.stack = X.env :: X.outer := by rfl) (hfm : X.env.frame = some X.env.locals := by rfl) (hex : X.ex = [] := by rfl) (hg : Gl X cb := by rfl)
    (hdb : (cb == ("__debug__" : Str)) = false := by decide) (hsw : swapsWith e none epos.line X.env = pure false := by rfl) (hf : X.fn nm = true ∨ X.env.scope.names.lookup nm = some .local := by first | exact .inl rfl | exact .inr rfl) :
    PS X (.Try [.Expr e epos] [.ExceptHandler (some (.Name cb np)) (some nm) (b0 :: suite) hpos] [] [] pos) (sM X.K ff (mTry nb Cs i ms)) := by
  subst hK
  intro pins s σ H D I q
  obtain ⟨E, W, o, hH, hm, k⟩ := q
  obtain ⟨C, o', eC, hC, hms, ho⟩ := mTry_inv hm
  refine wpAny_Try_except ?_
  generalize hxe : (fun (e : Value) (s₁ : Shared) => wpAny (model X.prog X.w) X.A (noteFrame e X.env) (fun _ s₂ => wpAny (model X.prog X.w) X.A (setFlight e none) (fun _ s₃ => wpAny (model X.prog X.w) X.A (handleBy e X.env [.ExceptHandler (some (.Name cb np)) (some nm) (b0 :: suite) hpos]) (SP X pins D) X.xe s₃) X.xe s₂) X.xe s₁) = xe
  have want : XE (Cx.pnd X (X.pn ++ pins) xe) σ H C := by
    intro pins' a H' s1 I1 sm xs
    show xe (.ref a) s1
    rw [← hxe]
    have J := Inv.unpnd I I1
    obtain ⟨xa, ⟨xb, xp⟩, tv, hex1, ht, hT⟩ := xs
    have hfr : X.A.frames = some (X.env :: X.outer) := by rw [← hst]; exact J.ok.frames
    have hfl := J.stack
    rw [hst] at hfl
    refine noteX hfr hfl hfm hex1 ht fun h1 T q1 q2 q3 q4 q5 => ?_
    refine flightX (s := { s1 with heap := h1 }) q3 q4 q5 fun h2 r1 r2 r3 => ?_
    have kp : KpX (frs X.stack) a tv s1.heap h2 := by rw [hst]; exact q2.then q1 r1
    have dta : ∃ o vs, s1.heap.get? a = some o ∧ o.data = .fields vs := by
      obtain ⟨oe, vs, z1, _, z2, _⟩ := hex1
      exact ⟨oe, vs, z1, z2⟩
    have dtt : ∀ T, tv = .ref T → ∃ o vs, s1.heap.get? T = some o ∧ o.data = .fields vs := fun T z => by
      rcases ht with y | ⟨T', y, _, oT, ts, y1, y2, _⟩
      · rw [y] at z; cases z
      · rw [y] at z; cases z; exact ⟨oT, ts, y1, y2⟩
    have J2 : Inv X pins σ H' { s1 with heap := h2 } := Inv.mov J hex kp xa xb (fun T z => ⟨(hT T z).1, (hT T z).2.1⟩) dta dtt fun p hp => ⟨xp p hp, fun z => (hT _ z).2.2 p hp rfl⟩
    have hTn : X.s_0.heap.get? T = none := by
      cases z : X.s_0.heap.get? T with
      | none => rfl
      | some o => obtain ⟨o', e'⟩ := J.base.there T o z (by rw [hex]; simp); rw [q1] at e'; cases e'
    have hTp : ∀ p ∈ X.pn ++ pins, p.1 ≠ T := fun p hp z => by have y := (J.pin p hp).1; rw [z, q1] at y; cases y
    have hTH : H' T = none := none_trk J.hok q1
    refine wpAny_handleBy_cons (codeAny_handlers_test ?_) (by intro q; cases q)
    refine ld_glob (X := Cx.hnd X a) (Inv.hnd J2 a) hg hB ?_ hdb
    obtain ⟨oe, vs, y1, ⟨y2, y2'⟩, y3, y4, y5⟩ := id r2
    have LT : PySem.W.Looks (model X.prog X.w) h2 (typeOf (.ref a)) (.ref C) := y2 ▸ (PySem.W.Looks.ld y1).andThen .now
    refine (PySem.W.exm_one (K := X.K) J2.kIn LT (hx C hC)).here ?_
    refine codeAny_handlers_suite_as ?_
    refine flightX (s := { s1 with heap := h2 }) r2 q4 r3 fun h3 t1 t2 t3 => ?_
    have kp3 : KpX (frs X.stack) a (.ref T) h2 h3 := ⟨fun b o e1 _ n2 _ => t1 b o e1 fun z => n2 (by rw [z]), fun b o e1 _ n2 => ⟨o.slots, t1 b o e1 fun z => n2 (by rw [z])⟩⟩
    have J3 : Inv X pins σ H' { s1 with heap := h3 } := Inv.mov (s := { s1 with heap := h2 }) (tv := .ref T) J2 hex kp3 xa xb (fun T' z => by cases z; exact ⟨hTH, hTn⟩) ⟨oe, vs, y1, y3⟩ (fun T' z => by cases z; obtain ⟨oT, ts, z1, z2, _⟩ := r3; exact ⟨oT, ts, z1, z2⟩) fun p hp => ⟨xp p hp, fun z => hTp p hp (by cases z; rfl)⟩
    obtain ⟨oe3, vs3, w1, w2, w3, w4, w5⟩ := id t2
    have J4 := Inv.trk J3 hex xa xb w1 w3 xp
    have up : Same H' (upd H' a (.frz oe3 (.own a))) := fun b u eb => by
      rw [upd_ne fun z => ?_]
      · exact eb
      · rw [z, xa] at eb; cases eb
    refine store_ok (X := Cx.hnd X a) (v := .ref a) (Inv.hnd J4 a) hN hi (.inl hl) rfl (fun s5 J5 => ?_) hf
    have hH4 := (hH.grow sm).grow up
    have dp : Dp X.K (hid W.w (upd H' a (.frz oe3 (.own a)))) (.ref a) (.exc a C) := by
      refine .exc (hid_eq.mpr ⟨?_, upd_same⟩) ⟨w2, vs3, w3, w5⟩
      cases z : W.w a with
      | false => rfl
      | true => obtain ⟨o, y, _⟩ := (hH.grow sm).dom a z; rw [xa] at y; cases y
    have fin : ∀ f s6, SP (Cx.hnd X a) pins { nx := fun σ' H' => D.nx (σ'.set i none) H', rt := D.rt } f s6 → wpAny (model X.prog X.w) X.A (do bindName X.env nm .none; unbindBehindTheSuite X.env nm hpos) (fun _ s₃ => SP X pins D f s₃) X.xe s6 := fun f s6 z => by
      cases f with
      | next =>
        obtain ⟨σ', H6, J6, z⟩ := z
        exact goneX (Inv.unhnd I J6) hN hi hl fun s7 J7 => ⟨_, H6, J7, z⟩
      | brk => obtain ⟨_, _, _, z⟩ := z; exact z.elim
      | cont => obtain ⟨_, _, _, z⟩ := z; exact z.elim
      | ret u =>
        obtain ⟨v, σ', H6, J6, rv, z⟩ := z
        exact goneX (Inv.unhnd I J6) hN hi hl fun s7 J7 => ⟨v, _, H6, J7, rv, z⟩
    have k4 := k.later (Fr.of (f := ff) (O := W.o) (sm.trans up))
    refine wpAny_mono (hs a pins s5 _ _ { nx := fun σ' H' => D.nx (σ'.set i none) H', rt := D.rt } J5 ⟨_, W, o', hH4.setv i dp, hms a, ?_⟩) (fun f s6 z => fin f s6 z) fun _ _ z => z.elim
    rcases ho with ⟨E', rfl, rfl⟩ | ⟨r, rfl, rfl⟩
    · exact fun σ' H6 O6 hh fr => k4 _ H6 O6 (hh.setn i none) fr
    · exact k4
  refine wpAny_mono (pss_one (ps_expr (he (X.pn ++ pins) xe) hsw) [] s σ H ⟨fun _ _ => False, fun _ _ => False, fun _ _ => False, fun _ _ => False⟩ (Inv.pnd I xe) ⟨E, W, C, hH, eC, want⟩) (fun f s1 z => ?_) fun _ _ z => z
  cases f with
  | next => obtain ⟨_, _, _, z⟩ := z; exact z.elim
  | brk => obtain ⟨_, _, _, z⟩ := z; exact z.elim
  | cont => obtain ⟨_, _, _, z⟩ := z; exact z.elim
  | ret u => obtain ⟨_, _, _, _, _, z⟩ := z; exact z.elim
end
end MD

namespace MD
open PySem PySem.Spec L2 PyProof.Rows
/-- the exception that is handled is looked after, and was raised with none handled -/
def Quiet (X : Cx) : Prop := ∃ a o C, X.A.handled = some (.ref a) ∧ X.H_0 a = some (.frz o (.own a)) ∧ XOb o C
theorem Quiet.blk {X : Cx} (q : Quiet X) {pins : List (Addr × Obj)} {σ : L2.St} {H : Hp} {s s' : Shared} {scope : Scope} {ce : Env} {fp : List Addr} (I : Inv X pins σ H s) : Quiet (X.blk s' H scope ce fp) := by
  obtain ⟨a, o, C, h1, h2, h3⟩ := q
  exact ⟨a, o, C, h1, I.base.frzs _ _ _ h2, h3⟩
theorem Quiet.now {X : Cx} (q : Quiet X) {pins : List (Addr × Obj)} {σ : L2.St} {H : Hp} {s : Shared} (I : Inv X pins σ H s) : ∃ a o vs, X.A.handled = some (.ref a) ∧ s.heap.get? a = some o ∧ o.data = .fields vs ∧ vs[2]? = some .none := by
  obtain ⟨a, o, C, h1, h2, h3, vs, h4, h5⟩ := q
  exact ⟨a, o, vs, h1, (I.hok a _ (I.base.frzs _ _ _ h2)).1, h4, h5⟩
section
variable {prog : Program} {w : World} {A : Around} {E : Value → Shared → Prop} {s : Shared}
theorem entry_unchain : entryFor table "proto.unchain" = some Builtin.«proto.unchain» := entryFor_of_tree (by kernel_rfl)
theorem range_endN {it a : Addr} {o : Obj} {vs : Array Value} {x left step : Int} {Q : Option Value → Shared → Prop} (hh : A.handled = some (.ref a)) (ho : s.heap.get? a = some o) (hd : o.data = .fields vs) (h2 : vs[2]? = some .none)
    (hit : IsRangeIter s.heap it x left step) (hl : left ≤ 0) (hQ : ∀ h', Heap.ExtBut it s.heap h' → Q none { s with heap := h' }) : wpAny (model prog w) A (pyNext (.ref it)) Q E s := by
  have hT : s.TypeIs (.ref it) "range_iterator" := ⟨_, hit, rfl⟩
  unfold pyNext
  refine wpAny_bind (wpAny_attempt (wpAny_callSpecial?_slot (name := Str.ofString "__next__") hT PySem.F.slot_range_iterator_next (wpAny_call_entry PySem.F.slot_range_iterator_next hT PySem.F.entry_range_iterator_next ?_ (PySem.F.args_range_iterator_next_1 _))))
  show wpAny _ _ (field (.ref it) 0 >>= _) _ _ s
  refine wpAny_bind (wpAny_field hit rfl (x := rawInt x) rfl ?_)
  show wpAny _ _ (field (.ref it) 1 >>= _) _ _ s
  refine wpAny_bind (wpAny_field hit rfl (x := rawInt left) rfl ?_)
  show wpAny _ _ (field (.ref it) 2 >>= _) _ _ s
  refine wpAny_bind (wpAny_field hit rfl (x := rawInt step) rfl ?_)
  show wpAny _ _ (if left ≤ 0 then _ else _) _ _ s
  rw [if_pos hl]
  refine wpAny_bind (wpAny_rule ?_)
  refine wpAny_bind ?_
  show wpAny _ _ (newExc (.type "StopIteration") [] >>= _) _ _ _
  refine wpAny_bind ?_
  simp only [newExc, newTuple]
  refine wpAny_bind (wpAny_newObj_type ?_ (by size_fits))
  refine wpAny_bind (m := firstArgMember _ _) (wpAny_of_eq (a := Value.none) (by first | rfl | (simp only [firstArgMember]; rfl)) ?_)
  refine wpAny_newObj_type ?_ (by size_fits)
  simp only [raiseNew]
  refine wpAny_bind (wpAny_handled ?_)
  rw [show A.in1.handled = some (.ref a) from hh]
  have sz : (s.heap.push { cls := Value.type "tuple", data := Data.seq #[] }).objs.size = s.heap.objs.size + 1 := by rw [Heap.size_push]
  generalize hob : ({ cls := Value.type "StopIteration", data := Data.fields (#[Value.ref s.heap.objs.size, Value.none, Value.none, Value.none, Value.bool false, Value.none] ++ ownMembersOf (Value.type "StopIteration") []) } : Obj) = ob
  generalize hhp : s.heap.push { cls := Value.type "tuple", data := Data.seq #[] } = hp at *
  have e1 : hp.get? a = some o := by rw [← hhp]; exact Heap.get?_push_of_some _ ho
  have e2 : (hp.push ob).get? a = some o := Heap.get?_push_of_some _ e1
  have na : a ≠ hp.objs.size := Nat.ne_of_lt (Heap.lt_size e1)
  show wpAny _ _ (if (Value.ref a != Value.ref hp.objs.size) = true then _ else _) _ _ _
  rw [if_pos (by simpa using na)]
  refine wpAny_bind (wpAny_holding (wpAny_runValue (codeAny_builtin entry_unchain ?_)))
  show wpAny _ _ (field (.ref a) 2 >>= _) _ _ _
  refine wpAny_bind (wpAny_field e2 hd h2 ?_)
  show wpAny _ _ (ret Value.none) _ _ _
  refine wpAny_pure ?_
  show wpAny _ _ (updateField hp.objs.size 2 (Value.ref a) >>= _) _ _ _
  have e3 : (hp.push ob).get? hp.objs.size = some ob := Heap.get?_push_size _ (by rw [← hob]; rfl)
  have dob : ob.data = .fields (#[Value.ref s.heap.objs.size, Value.none, Value.none, Value.none, Value.bool false, Value.none] ++ ownMembersOf (Value.type "StopIteration") []) := by rw [← hob]
  refine wpAny_bind ?_
  unfold updateField
  refine wpAny_bind (wpAny_load e3 ?_)
  rw [dob]
  show wpAny _ _ (if 2 < (#[Value.ref s.heap.objs.size, Value.none, Value.none, Value.none, Value.bool false, Value.none] ++ ownMembersOf (Value.type "StopIteration") []).size then _ else _) _ _ _
  rw [if_pos (by simp; omega)]
  refine wpAny_update (s := { s with heap := hp.push ob }) e3 ?_
  · refine wpAny_throw ?_
    have e4 := Heap.get?_update_self (Obj.mapFields (·.setIfInBounds 2 (Value.ref a))) e3 (Obj.isFreed_of_fields (Obj.data_mapFields dob _))
    refine wpAny_bind (wpAny_isInstance (T := "StopIteration") (b := true) ⟨_, e4, by rw [Obj.cls_mapFields, ← hob]⟩ isSubtype_stop ?_)
    refine wpAny_pure (hQ _ fun b ob' nb eb => ?_)
    have q : hp.get? b = some ob' := by rw [← hhp]; exact Heap.get?_push_of_some _ eb
    rw [Heap.get?_update_other _ _ (Nat.ne_of_gt (Heap.lt_size q))]
    exact Heap.get?_push_of_some _ q
end
end MD
namespace L2
open PySem PySem.Spec PyProof.Rows
structure TurnN (P : Program) (w : World) (K : PySem.W.Frag) (tg : Expr) (J : It) (fp : List Addr) (it : Addr) (tn : Nat → Heap → Prop) : Prop where
  mem : it ∈ fp
  obj : ∀ i h, tn i h → ∀ b ∈ fp, ∃ o, h.get? b = some o ∧ ∀ v, o.data ≠ .cell v
  keep : ∀ i h h', tn i h → (∀ b ∈ fp, ∀ o, h.get? b = some o → h'.get? b = some o) → tn i h'
  item : ∀ (X : Cx), X.prog = P → X.w = w → X.K = K → MD.Quiet X → ∀ (i : Nat) (pins : List (Addr × Obj)) (s : Shared) (σ : St) (H : Hp) (E : Value → Shared → Prop), Inv X pins σ H s → (∀ b ∈ fp, FpOk X pins H b) → tn i s.heap → J.go i H →
    wpAny (model P w) X.A (pyNext (.ref it)) (fun r s1 => ∃ u, r = some u ∧
      wpAny (model P w) X.A (letOwnedTupleGo tg (.ref it) u) (fun _ s2 => ∃ x H', Inv X pins σ H' s2 ∧ RelV x u ∧ J.yld i H x H' ∧ tn (i + 1) s2.heap ∧ ∀ b ∈ fp, H' b = none) E s1) E s
  done : ∀ (X : Cx), X.prog = P → X.w = w → X.K = K → MD.Quiet X → ∀ (i : Nat) (pins : List (Addr × Obj)) (s : Shared) (σ : St) (H : Hp) (E : Value → Shared → Prop), Inv X pins σ H s → (∀ b ∈ fp, FpOk X pins H b) → tn i s.heap → J.stop i H →
    wpAny (model P w) X.A (pyNext (.ref it)) (fun r s1 => r = none ∧ Inv X pins σ H s1) E s
  self : ∀ (A : Around) (i : Nat) (s : Shared) (Q : Value → Shared → Prop) (E : Value → Shared → Prop), tn i s.heap → Q (.ref it) s → wpAny (model P w) A (pyIter (.ref it)) Q E s
def PIEN (X : Cx) (pins : List (Addr × Obj)) (σ : St) (tg : Expr) (R : It → Hp → Prop) (itv : Value) (s2 : Shared) : Prop :=
  ∃ (it : Addr) (fp : List Addr) (tn : Nat → Heap → Prop) (J : It) (H' : Hp), itv = .ref it ∧ Inv X pins σ H' s2 ∧ TurnN X.prog X.w X.K tg J fp it tn ∧ tn 0 s2.heap ∧ (∀ b ∈ fp, FpOk X pins H' b) ∧ R J H'
def PIN (X : Cx) (tg iter : Expr) (wi : TI) : Prop :=
  ∀ (pins : List (Addr × Obj)) (s : Shared) (σ : St) (H : Hp) (R : It → Hp → Prop), Inv X pins σ H s → wi σ H R →
    wpAny (model X.prog X.w) X.A (eval iter X.env) (fun v s1 => wpAny (model X.prog X.w) X.A (pyIter v) (PIEN X pins σ tg R) X.xe s1) X.xe s

theorem turn_rangeN {P : Program} {w : World} {K : PySem.W.Frag} {tg : Expr} (it : Addr) (lo : Int) (n : Nat) : TurnN P w K tg (Itr lo n) [it] it (fun i h => IsRangeIter h it (lo + (i : Nat) * 1) ((n : Int) - (i : Nat)) 1) where
  mem := by simp
  obj := fun i h st b hb => by
    have e : b = it := by simpa using hb
    subst e
    exact ⟨_, st, fun v z => nomatch z⟩
  keep := fun i h h' st k => k it (by simp) _ st
  item := by
    intro X hP hw hK hq i pins s σ H E I hf st hg
    subst hP hw hK
    obtain ⟨f0, f1, f2, f3, f4, f5⟩ := hf it (by simp)
    have hg' : i < n := hg
    refine wpAny_pyNext_range_item st (by omega) fun h' st' sb => ?_
    have I1 : Inv X pins σ H { s with heap := h', toks := s.toks + 1 } := I.turned (fun b o hb e => (sb.2 b hb).trans e) f0 f1 f3 f4 f5
    have st2 : IsRangeIter h' it (lo + ((i + 1 : Nat) : Int) * 1) ((n : Int) - ((i + 1 : Nat) : Int)) 1 := by
      have e1 : lo + (i : Int) * 1 + 1 = lo + ((i + 1 : Nat) : Int) * 1 := by omega
      have e2 : (n : Int) - (i : Int) - 1 = (n : Int) - ((i + 1 : Nat) : Int) := by omega
      rw [← e1, ← e2]
      exact st'
    refine ⟨_, rfl, go_of (s := { s with heap := h', toks := s.toks + 1 }) (n := "range_iterator") st' rfl rfl (by decide) ⟨.int (lo + i), H, I1, ⟨s.toks, ?_⟩, ⟨rfl, rfl⟩, st2, fun b hb => (hf b hb).1⟩⟩
    rw [Int.mul_one]
  done := by
    intro X hP hw hK hq i pins s σ H E I hf st hg
    subst hP hw hK
    obtain ⟨f0, f1, f2, f3, f4, f5⟩ := hf it (by simp)
    obtain ⟨a, o, vs, q1, q2, q3, q4⟩ := hq.now I
    exact MD.range_endN q1 q2 q3 q4 st (by have : n ≤ i := hg; omega) fun h' eb => ⟨rfl, I.turned (t' := s.toks) (fun b o hb e => eb b o hb e) f0 f1 f3 f4 f5⟩
  self := fun _ _ _ _ _ st h => wpAny_pyIter_rangeiter st h
section
variable {X : Cx} {tg : Expr}
theorem range_itN {pins : List (Addr × Obj)} {σ : St} {H : Hp} {s : Shared} {R : It → Hp → Prop} {E : Value → Shared → Prop} {lo hi : Int} {t u v : Tok} {tk : Nat} (I : Inv X pins σ H s) (h1 : -(2 ^ 62) ≤ lo) (h2 : lo < 2 ^ 62) (h3 : -(2 ^ 62) ≤ hi) (h4 : hi < 2 ^ 62)
    (q : R (Itr lo (hi - lo).toNat) H) : wpAny (model X.prog X.w) X.A (pyIter (.ref s.heap.objs.size)) (PIEN X pins σ tg R) E { s with heap := s.heap.push { cls := .type "range", data := .fields #[.int lo t, .int hi u, .int 1 v] }, toks := tk } := by
  refine wpAny_pyIter_range (IsRange.new ..) (small_one h1 h2 h3 h4) ?_
  have I1 : Inv X pins σ H { s with heap := s.heap.push { cls := .type "range", data := .fields #[.int lo t, .int hi u, .int 1 v] }, toks := tk } := I.kept fun b o e => Heap.get?_push_of_some _ e
  refine ⟨(s.heap.push { cls := .type "range", data := .fields #[.int lo t, .int hi u, .int 1 v] }).objs.size, [(s.heap.push { cls := .type "range", data := .fields #[.int lo t, .int hi u, .int 1 v] }).objs.size], _, _, H, rfl,
    I1.kept (t' := tk) fun b o e => Heap.get?_push_of_some _ e, turn_rangeN _ lo (hi - lo).toNat, ?_, fun b hb => ?_, q⟩
  · have e1 : lo + ((0 : Nat) : Int) * 1 = lo := by simp
    have e2 : (((hi - lo).toNat : Nat) : Int) - ((0 : Nat) : Int) = Builtin.Range.rangeSize lo hi 1 := by rw [rangeSize_one]; split <;> omega
    show IsRangeIter _ _ (lo + ((0 : Nat) : Int) * 1) ((((hi - lo).toNat : Nat) : Int) - ((0 : Nat) : Int)) 1
    rw [e1, e2]
    exact Heap.get?_push_size _ rfl
  · have e : b = (s.heap.push { cls := .type "range", data := .fields #[.int lo t, .int hi u, .int 1 v] }).objs.size := by simpa using hb
    subst e
    exact I1.fpOk (Nat.le_refl _) (I1.hok.fresh (Nat.le_refl _))
theorem pi_range1N {a : Expr} {ta : TA} {p pos : Pos} (hg : Gl X "range") (hm : X.mg "range" = none) (ha : PA X [a] ta) (hs : starEach [a] X.env = [(false, eval a X.env)] := by rfl) : PIN X tg (.Call (.Name "range" p) [a] [] pos) (iRng1 ta) := by
  intro pins s σ H R I h
  refine Call_ (ld_blt I hg hm boot_range (PyProof.Rows.callWith_type1 (thn (ha pos pins s σ H _ I h) fun us s1 ⟨vs, H1, I1, r1, q1⟩ => ?_) hs rfl))
  obtain ⟨j, e, q1, q2, q⟩ := q1
  subst e
  cases r1 with
  | cons r rr =>
    cases rr
    obtain ⟨t, rfl⟩ := r
    exact call_range_1 (range_itN I1 (by omega) (by omega) q1 q2 (by simpa using q))
end
section
variable {X : Cx}
set_option maxHeartbeats 4000000 in
theorem lc_coreN {pins : List (Addr × Obj)} {s : Shared} {σ : St} {H : Hp} {Q : VK} {elt tg iter : Expr} {ifs : List Expr} {scope : Scope} {own : List (Str × Nat)} {pos pos' : Pos} {wi : TI} {g : TG} {tt : TT} {te : TE} {use : Option (Value → Sem Unit)} {Qf : Value → Shared → Prop}
    (hq : MD.Quiet X) (hN : X.N.Nodup) (I : Inv X pins σ H s) (hi : PIN X tg iter wi) (ok : BlkOk X.N X.env.scope scope own)
    (hg : ∀ (s : Shared) (H : Hp) (C : Addr) (cl : List (Str × Addr)) (fp : List Addr), PG (X.blk s H scope (compEnvC scope cl C X.env) fp) tg g) (ht : ∀ (s : Shared) (H : Hp) (C : Addr) (cl : List (Str × Addr)) (fp : List Addr), PTs (X.blk s H scope (compEnvC scope cl C X.env) fp) ifs tt)
    (he : ∀ (s : Shared) (H : Hp) (C : Addr) (cl : List (Str × Addr)) (fp : List Addr), PE (X.blk s H scope (compEnvC scope cl C X.env) fp) elt te) (hs : ∀ x, foldedSetIterable iter X.env x = pure x)
    (h : tLc wi g tt te (own.map (·.2)) σ H Q)
    (hRR : ∀ D C s' m H', Inv X pins σ H' s' → Q (.ref D) H' → s'.heap.Ns C m → FpOk X pins H' C → compPost (model X.prog X.w) X.A X.xe use Qf (.ref D) C (.ok .next) s') :
    wpAny (model X.prog X.w) X.A (comprehension (.ListComp elt [⟨tg, iter, ifs, 0⟩] scope pos) scope X.env pos' (newList []) false (eval iter X.env) use) Qf X.xe s := by
  have hfree : ∀ y ∈ scope.names, y.2 = .free → ∃ c, X.env.cells.lookup y.1 = some c := fun y hy e => by
    rcases ok.free y hy e with k | k
    · exact I.ok.has _ (.inl k)
    · exact I.ok.has _ (.inr k)
  refine wpAny_comprehension_free (use := use) rfl hs (closure_ok hfree) ok.kind (fun y hy e => by rw [ok.uniq y hy, e])
    (thn (hi pins s σ H _ I h) fun xv s1 hx => thn hx fun itv s2 h2 => ?_)
  obtain ⟨it, fp, tn, J, H2, e, I2, T, st2, f2, q⟩ := h2
  subst e
  refine wpAny_newObj_type (newEnv_comp ?_) (by show 0 ≤ sizeLine; decide)
  generalize hD : s2.heap.objs.size = D
  have hDn : H2 D = none := I2.hok.fresh (Nat.le_of_eq hD)
  obtain ⟨W, ⟨m0, w0⟩, turn⟩ := q D hDn
  -- the new list
  generalize hs3 : ({ s2 with heap := s2.heap.push { cls := .type "list", data := .seq ([] : List Value).toArray } } : Shared) = s3
  have I3 : Inv X pins σ (upd H2 D (.lst [])) s3 := by
    rw [← hs3]
    refine I2.laid (t' := s2.toks) (fun b o e => Heap.get?_push_of_some _ e) (Nat.le_of_eq hD) ⟨Nat.zero_le _, [], 0, .nil, ?_⟩
    rw [← hD]
    exact Heap.get?_push_size _ rfl
  have h3 : s3.heap = s2.heap.push { cls := .type "list", data := .seq ([] : List Value).toArray } := by rw [← hs3]
  have sz : ∀ b ∈ fp, b < s2.heap.objs.size := fun b hb => by
    obtain ⟨o, e, _⟩ := T.obj _ _ st2 b hb
    exact Heap.lt_size e
  have f3 : ∀ b ∈ fp, FpOk X pins (upd H2 D (.lst [])) b ∧ b < s3.heap.objs.size := fun b hb => by
    have hlt := sz b hb
    refine ⟨⟨?_, (f2 b hb).2⟩, by rw [h3, Heap.size_push]; exact Nat.lt_succ_of_lt hlt⟩
    rw [upd_ne (by rw [← hD]; exact Nat.ne_of_lt hlt)]
    exact (f2 b hb).1
  have st3 : tn 0 s3.heap := T.keep _ _ _ st2 fun b _ o e => by rw [h3]; exact Heap.get?_push_of_some _ e
  have I4 := block_start I3 ok hN f3
  have pg := hg s3 (upd H2 D (.lst [])) s3.heap.objs.size (cellsFrom (s3.heap.objs.size + 1) scope.names (cloFrom X.env.cells scope.names [])) fp
  have pt := ht s3 (upd H2 D (.lst [])) s3.heap.objs.size (cellsFrom (s3.heap.objs.size + 1) scope.names (cloFrom X.env.cells scope.names [])) fp
  have pe := he s3 (upd H2 D (.lst [])) s3.heap.objs.size (cellsFrom (s3.heap.objs.size + 1) scope.names (cloFrom X.env.cells scope.names [])) fp
  show codeAny _ _ (.compStart (.ListComp elt [⟨tg, iter, ifs, 0⟩] scope pos) 0 (.ref it) (.ref D) (compEnvC scope (cellsFrom (s3.heap.objs.size + 1) scope.names (cloFrom X.env.cells scope.names [])) s3.heap.objs.size X.env)) (compPost (model X.prog X.w) X.A X.xe use Qf (.ref D) s3.heap.objs.size) { s3 with heap := pushCells (s3.heap.push { cls := .type "dict", data := .dict #[] }) scope.names }
  have nfp : ∀ b ∈ fp, (upd H2 D (.lst [])) b = none := fun b hb => (f3 b hb).1.1
  generalize hce : compEnvC scope (cellsFrom (s3.heap.objs.size + 1) scope.names (cloFrom X.env.cells scope.names [])) s3.heap.objs.size X.env = ce at I4 pg pt pe ⊢
  have cL : ce.locals = s3.heap.objs.size := by subst hce; rfl
  generalize hH3 : upd H2 D (.lst []) = H3 at I3 I4 pg pt pe w0 nfp f3
  generalize hs4 : ({ s3 with heap := pushCells (s3.heap.push { cls := .type "dict", data := .dict #[] }) scope.names } : Shared) = s4 at I4 ⊢
  have st4 : tn 0 s4.heap := T.keep _ _ _ st3 fun b _ o e => by rw [← hs4]; exact pushCells_keeps _ _ _ _ (Heap.get?_push_of_some _ e)
  have stat : ∀ {σ' : St} {H' : Hp} {s' : Shared}, Inv (X.blk s3 H3 scope ce fp) [] σ' H' s' → (∀ b ∈ fp, H' b = none) → ∀ b ∈ fp, FpOk (X.blk s3 H3 scope ce fp) [] H' b := fun {σ' H' s'} I' hn b hb =>
    ⟨hn b hb, (I'.ok.exf b hb).1, I'.ok.exfs b hb, .inl hb, fun x c e => (I'.ok.exf b hb).2 x c e, fun p hp => absurd (show p ∈ ([] : List (Addr × Obj)) ++ [] from hp) (by simp)⟩
  have loop : codeAny (model X.prog X.w) X.A (.compLoop (.ListComp elt [⟨tg, iter, ifs, 0⟩] scope pos) 0 (.ref it) (.ref D) ce) (compPost (model X.prog X.w) X.A X.xe use Qf (.ref D) s3.heap.objs.size) s4 := by
    refine compLoop_any (fun n s' => ∃ i H', Inv (X.blk s3 H3 scope ce fp) [] (wipe σ (own.map (·.2))) H' s' ∧ tn i s'.heap ∧ (∀ b ∈ fp, H' b = none) ∧ W i n H') ?_ m0 ⟨0, H3, I4, st4, nfp, w0⟩
    rintro n s5 ⟨i, H5, I5, st5, n5, w5⟩
    rcases turn i n H5 w5 with ⟨stop, qq⟩ | ⟨go, Nx, hNx, step⟩
    · have td := T.done (X.blk s3 H3 scope ce fp) rfl rfl rfl (hq.blk I3) i [] s5 _ H5 (fun _ _ => False) I5 (stat I5 n5) st5 stop
      refine thnF td fun r s6 ⟨hr, I6⟩ => ?_
      subst hr
      -- back in the def's context
      have I7 : Inv X pins σ H5 s6 := I3.call' (ch := fp) I6.os I6.base I6.hok I6.bare fun b hb => ⟨(f3 b hb).1.2.2.2.1, (f3 b hb).1.2.1, (f3 b hb).1.2.2.2.2.1, (f3 b hb).1.2.2.2.2.2⟩
      have nC : H5 s3.heap.objs.size = none := by
        have z : H5 ce.locals = none := I6.free
        rw [cL] at z
        exact z
      obtain ⟨m, hn, _⟩ := I6.loc
      have hn : s6.heap.Ns ce.locals m := hn
      rw [cL] at hn
      exact hRR D s3.heap.objs.size s6 m H5 I7 qq hn (I3.fpOk (Nat.le_refl _) nC)
    · have ti := T.item (X.blk s3 H3 scope ce fp) rfl rfl rfl (hq.blk I3) i [] s5 _ H5 (fun _ _ => False) I5 (stat I5 n5) st5 go
      refine thnF ti fun r s6 ⟨u, hr, h6⟩ => ?_
      subst hr
      refine thnF h6 fun _ s7 ⟨x, H7, I7, r7, y7, st7, n7⟩ => ?_
      have I7' := I7.pinned (stat I7 n7) (T.obj _ _ st7)
      refine thnF (pg _ s7 _ H7 x u _ I7' r7 (step x H7 y7)) fun _ s8 ⟨σ8, H8, I8, hw8, q8⟩ => ?_
      refine thnF (pt _ s8 σ8 H8 _ I8 q8) fun b s9 ⟨H9, I9, q9⟩ => ?_
      -- the turn's end
      have fin : ∀ {s' : Shared} {H' : Hp}, Inv (X.blk s3 H3 scope ce fp) ([] ++ pinsAt fp s7.heap) σ8 H' s' → Nx H' → ∃ m, m < n ∧ ∃ i H', Inv (X.blk s3 H3 scope ce fp) [] (wipe σ (own.map (·.2))) H' s' ∧ tn i s'.heap ∧ (∀ b ∈ fp, H' b = none) ∧ W i m H' := fun {s' H'} I' nx => by
        obtain ⟨m', hm, w'⟩ := hNx H' nx
        have pin' : ∀ b ∈ fp, ∀ o, s7.heap.get? b = some o → s'.heap.get? b = some o ∧ H' b = none := fun b hb o e =>
          let z := I'.pin (b, o) (List.mem_append_right _ (List.mem_append_right _ (mem_pinsAt hb e)))
          ⟨z.1, z.2.1⟩
        have hl : (wipe σ (own.map (·.2))).length = σ8.length := by rw [← hw8, wipe_length]
        refine ⟨m', hm, i + 1, H', (I'.unpinned (pins := [])).weak hl (fun j v e => ?_), T.keep _ _ _ st7 fun b hb o e => (pin' b hb o e).1, fun b hb => ?_, w'⟩
        · rw [← hw8] at e
          exact (wipe_some e).1
        · obtain ⟨o, e, _⟩ := T.obj _ _ st7 b hb
          exact (pin' b hb o e).2
      cases b with
      | false =>
        simp only [Bool.false_eq_true, if_false] at q9 ⊢
        exact fin I9 q9
      | true =>
        simp only [if_true] at q9 ⊢
        refine thnF (pe _ s9 σ8 H9 _ I9 q9) fun z s10 ⟨yv, H10, I10, r10, acc, hD10, hz10, nx⟩ => ?_
        exact app_ok (X := X.blk s3 H3 scope ce fp) I10 hD10 hz10 r10 fun s11 I11 => fin I11 nx
  exact codeAny_compStart_list loop (T.self X.A 0 _ _ _ st4 loop)
theorem pe_lcN {elt tg iter : Expr} {ifs : List Expr} {scope : Scope} {own : List (Str × Nat)} {pos : Pos} {wi : TI} {g : TG} {tt : TT} {te : TE} (hq : MD.Quiet X) (hN : X.N.Nodup) (hi : PIN X tg iter wi) (ok : BlkOk X.N X.env.scope scope own)
    (hg : ∀ (s : Shared) (H : Hp) (C : Addr) (cl : List (Str × Addr)) (fp : List Addr), PG (X.blk s H scope (compEnvC scope cl C X.env) fp) tg g) (ht : ∀ (s : Shared) (H : Hp) (C : Addr) (cl : List (Str × Addr)) (fp : List Addr), PTs (X.blk s H scope (compEnvC scope cl C X.env) fp) ifs tt)
    (he : ∀ (s : Shared) (H : Hp) (C : Addr) (cl : List (Str × Addr)) (fp : List Addr), PE (X.blk s H scope (compEnvC scope cl C X.env) fp) elt te) (hs : ∀ x, foldedSetIterable iter X.env x = pure x := by intro _; rfl) :
    PE X (.ListComp elt [⟨tg, iter, ifs, 0⟩] scope pos) (tLc wi g tt te (own.map (·.2))) := by
  intro pins s σ H Q I h
  rw [eval_ListComp]
  refine lc_coreN hq hN I hi ok hg ht he hs h fun D C s' m H' I' q hn f => ⟨m, hn, fun h'' sb => ?_⟩
  obtain ⟨f0, f1, f2, f3, f4, f5⟩ := f
  exact ⟨.ref D, H', I'.turned (t' := s'.toks) (fun b o hb e => (sb.2 b hb).trans e) f0 f1 f3 f4 f5, rfl, q⟩
end
end L2
namespace MD
open PySem PySem.Spec L2
section
variable {X : Cx} {tg : Expr} {n : MA} {p pos : Pos}
theorem pin_imp {iter : Expr} {t t' : TI} (h : PIN X tg iter t) (i : ∀ σ H Q, t' σ H Q → t σ H Q) : PIN X tg iter t' := fun pins s σ H Q I q => h pins s σ H Q I (i σ H Q q)
theorem m_irange1N {a : Expr} (hm : X.mg "range" = none) (ha : PA X [a] (tMA X.K n)) (hg : Gl X "range" := by rfl) (hs : starEach [a] X.env = [(false, eval a X.env)] := by rfl) : PIN X tg (.Call (.Name "range" p) [a] [] pos) (tMI X.K (mIR1 n)) :=
  pin_imp (pi_range1N hg hm ha hs) fun σ H Q ⟨E, W, c, l, hH, hm, k⟩ => by
    obtain ⟨rs, ea, hm⟩ := bindSome hm
    split at hm
    · rename_i x
      split at hm
      · rename_i j ej
        split at hm
        · rename_i hb
          cases hm
          have hb := of_decide_eq_true hb
          refine ⟨E, W, _, hH, ea, fun vs H1 s1 r1 => ?_⟩
          cases r1 with
          | cons h t =>
            cases t
            have q := h.dp
            rw [ej] at q
            cases Dp_int q
            exact ⟨j, rfl, hb.1, hb.2, k _ H1 s1 (walk_rng _ _)⟩
        · cases hm
      · cases hm
    · cases hm
theorem m_lcN {elt iter : Expr} {ifs : List Expr} {scope : Scope} {own : List (Str × Nat)} {mi : MI} {mt : MT} {me : ME} {g : TG} {pick : D → Option (List D)} (hq : MD.Quiet X) (hN : X.N.Nodup) (ht' : TgOk X.K g (own.map (·.2)) pick) (hi : PIN X tg iter (tMI X.K mi)) (ok : BlkOk X.N X.env.scope scope own)
    (hg : ∀ (s : Shared) (H : Hp) (C : Addr) (cl : List (Str × Addr)) (fp : List Addr), PG (X.blk s H scope (compEnvC scope cl C X.env) fp) tg g) (ht : ∀ (s : Shared) (H : Hp) (C : Addr) (cl : List (Str × Addr)) (fp : List Addr), PTs (X.blk s H scope (compEnvC scope cl C X.env) fp) ifs (tMT X.K mt))
    (he : ∀ (s : Shared) (H : Hp) (C : Addr) (cl : List (Str × Addr)) (fp : List Addr), PE (X.blk s H scope (compEnvC scope cl C X.env) fp) elt (tM X.K me)) (hs : ∀ x, foldedSetIterable iter X.env x = pure x := by intro _; rfl) :
    PE X (.ListComp elt [⟨tg, iter, ifs, 0⟩] scope pos) (tM X.K (mLc (own.map (·.2)) pick mi mt me)) :=
  pe_imp (pe_lcN hq hN hi ok hg ht he hs) (tLc_of ht')
end
end MD

namespace L2
open PySem PySem.Spec PyProof.Rows
/-- room for a call within an except suite -/
structure RoomN (k : Nat) (A : Around) : Prop where
  dp : A.depth + 3 * k + 5 < recursionLimit
  un : A.units + 16 * k + 200 < cLine
theorem Room.n {k : Nat} {A : Around} (r : Room k A) : RoomN k A := ⟨r.dp, r.un⟩
theorem RoomN.mark {k : Nat} {A : Around} (r : RoomN k A) (h : Option Value) : RoomN k (A.mark h) := ⟨r.dp, r.un⟩
theorem RoomN.deeper {k : Nat} {A : Around} (r : RoomN (k + 1) A) (env : Env) : RoomN k (A.deeper env) :=
  ⟨by have := r.dp; show A.depth + 1 + 3 * k + 5 < _; omega, by have := r.un; show A.units + 3 + 16 * k + 200 < _; omega⟩
/-- the exception that is handled at a call -/
def QA (A : Around) (H : Hp) : Prop := ∃ a o C, A.handled = some (.ref a) ∧ H a = some (.frz o (.own a)) ∧ MD.XOb o C
def cxOfN (CX : CXT) (P : Program) (w : World) (K : PySem.W.Frag) (mg : Str → Option Value) (base : Heap) (N : List Str) (qual : Str) (scope : Scope) (f : Addr) (cd : Value) (A : Around) (outer : List Env) (s : Shared) (H : Hp) (E : XK) : Cx where
  prog := P
  w := w
  K := K
  mg := mg
  base := base
  A := A.deeper (envOfC qual scope s.heap.objs.size f cd)
  N := N
  s_0 := s
  H_0 := H
  env := envOfC qual scope s.heap.objs.size f cd
  outer := outer
  stack := envOfC qual scope s.heap.objs.size f cd :: outer
  ex := []
  calm := false
  fn := fun _ => true
  pn := []
  xe := fun e s' => wpAny (model P w) (A.deeper (envOfC qual scope s.heap.objs.size f cd)) (leaving (envOfC qual scope s.heap.objs.size f cd) e) (fun _ s'' => CX outer H s E e s'') (fun e' s'' => CX outer H s E e' s'') s'

theorem inv_startN {CX : CXT} {P : Program} {w : World} {K : PySem.W.Frag} {mg : Str → Option Value} {base : Heap} {N ps : List Str} {qual : Str} {scope : Scope} {f : Addr} {cd : Value} {A : Around} {outer : List Env} {s s1 : Shared} {H : Hp} {E : XK} {us : List Value} {vs : List V}
    (S : FnScope N ps scope) (e0 : Env0 P w K mg base A outer s H) (hl : vs.length = ps.length) (r : Vals vs us)
    (x : InCallC s s.heap.objs.size (bindL (envOfC qual scope s.heap.objs.size f cd).kindOf (ps.zip us) fun _ => none) (cellsFrom (s.heap.objs.size + 1) scope.names []) (bindC (envOfC qual scope s.heap.objs.size f cd).kindOf (ps.zip us) fun _ => none) s1) :
    Inv (cxOfN CX P w K mg base N qual scope f cd A outer s H E) [] (start N vs) H s1 := by
  have hpl : ps.length ≤ N.length := by have := congrArg List.length S.pre; rw [List.length_take] at this; omega
  obtain ⟨h1, tk, rfl, hk⟩ := x.done
  have noA : ∀ b : Addr, b ∉ (cxOfN CX P w K mg base N qual scope f cd A outer s H E).ex := fun b z => absurd (show b ∈ ([] : List Addr) from z) (by simp)
  refine ⟨⟨e0.mod, S.kind, rfl, rfl, Nat.le_refl _, fun y z c h1 h2 => ?_, fun y hy => ?_, fun y c _ h => ?_, fun z => (by cases z), Around.frames_deeper e0.frames, .inr ⟨rfl, rfl⟩, fun b z => absurd z (noA b), e0.bs, e0.bsz, fun b _ _ => noA b, fun b z => absurd z (noA b), e0.funs, e0.frf⟩,
    rfl, e0.bare, Un.kept hk, ⟨_, x.toInCall.ns, fun i y v h1 h2 h3 => ?_⟩, fun y c h => ⟨_, x.cell y c h⟩, e0.hok.fresh (Nat.le_refl _), fun y c h => ?_, fun p hp => absurd (show p ∈ ([] : List (Addr × Obj)) from hp) (by simp), e0.hok.kept hk, ?_⟩
  · exact name_of_addr x.apart (PySem.mem_of_lookup h1) (PySem.mem_of_lookup h2)
  · have hy : scope.names.lookup y = some .cell ∨ scope.names.lookup y = some .free := hy
    rcases hy with hy | hy
    · exact cell_has hy
    · exact absurd rfl (S.nofree _ (PySem.mem_of_lookup hy))
  · exact Nat.le_of_lt (x.above y c (PySem.mem_of_lookup h))
  · have hi : i < vs.length := by
      unfold start at h2
      by_cases hi : i < vs.length
      · exact hi
      · rw [List.getElem?_append_right (by simpa using hi)] at h2
        rw [List.getElem?_replicate] at h2
        split at h2 <;> cases h2
    have ha : vs[i]? = some v := by
      unfold start at h2
      rw [List.getElem?_append_left (by simpa using hi), List.getElem?_map] at h2
      cases e : vs[i]? with
      | none => rw [e] at h2; cases h2
      | some a => rw [e] at h2; cases h2; rfl
    obtain ⟨u, hu, rv⟩ := r.get ha
    have hp : ps[i]? = some y := by
      rw [← S.pre, List.getElem?_take_of_lt (by omega)]; exact h1
    have ndP : ps.Nodup := by rw [← S.pre]; exact S.nd.sublist (List.take_sublist _ _)
    refine ⟨u, rv, ?_⟩
    rcases S.par y (List.mem_of_getElem? hp) with k | k
    · exact .inl ⟨k, bindL_get ndP hp hu k⟩
    · obtain ⟨c, e⟩ := cell_has (n := s.heap.objs.size + 1) k
      refine .inr ⟨.inl k, c, e, ?_⟩
      have q := x.cell y c e
      rw [bindC_get ndP hp hu (by show scope.names.lookup y ≠ _; rw [k]; decide)] at q
      exact q
  · exact e0.hok.fresh (Nat.le_of_lt (x.above y c (PySem.mem_of_lookup h)))
  · unfold start
    show _ = N.length
    rw [List.length_append, List.length_map, List.length_replicate]
    omega

structure FnOkN (P : Program) (w : World) (K : PySem.W.Frag) (mg : Str → Option Value) (base : Heap) (k : Nat) (f : Addr) (fd : FuncData) (ps : List Str) (sp : Sp) : Prop where
  len : ∀ vs H Q E, sp vs H Q E → vs.length = ps.length
  run : ∀ (A : Around) (outer : List Env) (s : Shared) (H : Hp) (args : Args) (us : List Value) (vs : List V) (Q : VK) (E : XK), RoomN k A → QA A H → Env0 P w K mg base A outer s H → BindsTo s fd args (ps.zip us) → Vals vs us → sp vs H Q E →
    codeAny (model P w) A (.call (.ref f) args) (CR CX0 outer P w H s Q E) s
theorem fn_ofN {P : Program} {w : World} {K : PySem.W.Frag} {mg : Str → Option Value} {base : Heap} {k : Nat} {f : Addr} {name qual : Str} {params : Arguments} {body : List Stmt} {scope : Scope} {dV kV doc pm cdv ct oc : Value} {an od : Option Addr}
    {osl : Array (Option Value)} {N ps : List Str} {sp : Sp} (lk : K.lookup f = some ⟨oc, od, .func (PySem.W.fnOf name qual params body scope dV kV doc pm an cdv ct), osl⟩) (hcd : PySem.W.codeIn K cdv qual = true) (S : FnScope N ps scope)
    (len : ∀ vs H Q E, sp vs H Q E → vs.length = ps.length)
    (hbody : ∀ (A : Around) (outer : List Env) (s : Shared) (H : Hp) (vs : List V) (Q : VK) (E : XK), RoomN k (A.deeper (envOfC qual scope s.heap.objs.size f cdv)) → MD.Quiet (cxOfN CX0 P w K mg base N qual scope f cdv A outer s H E).nox → sp vs H Q E →
      ∃ t, PSs (cxOfN CX0 P w K mg base N qual scope f cdv A outer s H E) body t ∧ t { nx := fun _ H' => Q .non H', rt := Q } (start N vs) H) :
    FnOkN P w K mg base (k + 1) f (PySem.W.fnOf name qual params body scope dV kV doc pm an cdv ct) ps sp := by
  refine ⟨len, fun A outer s H args us vs Q E hr qa e0 hb r hsp => ?_⟩
  have hl := len _ _ _ _ hsp
  have KX : K.In s.heap := e0.mod.kin.keeps fun b o e => (e0.bs b o e).1
  have lim : s.heap.NoLimit := e0.mod.nolimit.keeps fun b o e => (e0.bs b o e).1
  have hkind : ∀ y ∈ ps.zip us, scope.names.lookup y.1 = some .local ∨ (scope.names.lookup y.1 = some .cell ∧ ((cellsFrom (s.heap.objs.size + 1) scope.names []).lookup y.1).isSome = true) := fun ⟨n, v⟩ hy => by
    rcases S.par n (List.of_mem_zip hy).1 with q | q
    · exact .inl q
    · exact .inr ⟨q, PySem.W.cellsFrom_some _ _ _ (.inl q)⟩
  refine codeAny_call_function (by have := hr.dp; omega) (KX _ _ lk) rfl S.co S.gen rfl (PySem.W.codeRec_of KX hcd) (hb _ _ _ _ ?_)
  refine wpAny_newFunctionEnv_cells S.kind hkind fun env he s1 x => ?_
  subst he
  refine ⟨lim.keeps x.toInCall.keep, codeAny_func ?_⟩
  obtain ⟨t, ht, hq⟩ := hbody A outer s H vs Q E (hr.deeper _) qa hsp
  have I : Inv (cxOfN CX0 P w K mg base N qual scope f cdv A outer s H E) [] (start N vs) H s1 := inv_startN S e0 hl r x
  refine wpAny_mono (ht [] s1 (start N vs) H _ I hq) (fun fl s' hs => ?_) fun e s' hs => hs
  have fin : ∀ {σ' : St} {H' : Hp} {v : V} {u : Value}, Inv (cxOfN CX0 P w K mg base N qual scope f cdv A outer s H E) [] σ' H' s' → RelV v u → Q v H' → CE outer P w H s Q u s' :=
    fun {σ' H' v u} J rv q => ⟨v, H', J.os, J.bare, J.base, J.hok, rv, q⟩
  cases fl with
  | ret u =>
    obtain ⟨v, σ', H', J, rv, q⟩ := hs
    exact fin J rv q
  | next =>
    obtain ⟨σ', H', J, q⟩ := hs
    exact fin (v := V.non) (u := Value.none) J rfl q
  | brk =>
    obtain ⟨_, _, _, q⟩ := hs
    exact False.elim q
  | cont =>
    obtain ⟨_, _, _, q⟩ := hs
    exact False.elim q
end L2
namespace MD
open PySem PySem.Spec L2 PyProof.Rows
structure CalN (P : Program) (w : World) (K : PySem.W.Frag) (mg : Str → Option Value) (base : Heap) (x : Str) (k : Nat) (ps : List Str) (g : List D → Option R) : Prop where
  ex : ∃ f fd, FnOkN P w K mg base k f fd ps (spD K ps.length g) ∧ mg x = some (.ref f) ∧ PySem.W.keepIn K (.ref f) = true ∧ Binds K fd ps []
section
variable {P : Program} {w : World} {K : PySem.W.Frag} {mg : Str → Option Value} {base : Heap}
theorem fn_N {x qual : Str} {st : Stmt} {f : Addr} {fd : FuncData} {N ps : List Str} {k n0 : Nat} {g : List D → Option R} {m : MS} (F : Fun K x qual st f fd) (S : FnScope N ps (defScope st)) (hn : n0 = ps.length)
    (hbody : ∀ (cdv : Value) (A : Around) (outer : List Env) (s : Shared) (H : Hp) (E : XK), RoomN k (A.deeper (envOfC qual (defScope st) s.heap.objs.size f cdv)) → Quiet (cxOfN CX0 P w K mg base N qual (defScope st) f cdv A outer s H E).nox →
      PSs (cxOfN CX0 P w K mg base N qual (defScope st) f cdv A outer s H E).nox (defBody st) (sM K false m))
    (hm : ∀ ds r, g ds = some r → ds.length = n0 → ∃ r', m (startE N ds) = some (.rt r') ∧ r'.up = r) : FnOkN P w K mg base (k + 1) f fd ps (spD K n0 g) := by
  obtain ⟨oc, od, kV, doc, pm, an, cdv, ct, osl, rfl, lk, hcd⟩ := F.ex
  refine fn_ofN lk hcd S (fun vs H Q E q => by rw [← hn]; exact q.1) fun A outer s H vs Q E hr qa hsp => ?_
  obtain ⟨hl, Z, ds, r, hZ, hd, hg, q⟩ := hsp
  obtain ⟨r', hm, hup⟩ := hm ds r hg (by rw [← DpAll_len hd]; exact hl)
  refine ⟨_, (hbody cdv A outer s H E hr qa).nox, startE N ds, ⟨Z, noM⟩, .rt r', held_start hZ hd, hm, ?_⟩
  intro v H' O' fr ra rg
  have sm : Same H H' := fun a o e => (fr.1 a o e rfl).1
  subst hup
  have ra' : RA K H' ⟨(WM.mk Z noM).w, noM⟩ v r' := by rw [WM.w0]; exact ra
  refine q v H' sm (up_ok ra') (up_f ?_)
  cases r' with
  | c d => trivial
  | u d => trivial
  | t T =>
    refine fun K' M as l p hp => ?_
    cases y : H p with
    | none => rfl
    | some ob => have := rg K' M as l p hp ob y; cases this
theorem cal_exN' {x : Str} {st : Stmt} {N ps : List Str} {k : Nat} {m : MS} {Spec : (List D → Option R) → Prop} (F : FunG K mg x st ps) (S : FnScope N ps (defScope st))
    (hbody : ∀ (f : Addr) (cdv : Value) (A : Around) (outer : List Env) (s : Shared) (H : Hp) (E : XK), RoomN k (A.deeper (envOfC x (defScope st) s.heap.objs.size f cdv)) → Quiet (cxOfN CX0 P w K mg base N x (defScope st) f cdv A outer s H E).nox →
      PSs (cxOfN CX0 P w K mg base N x (defScope st) f cdv A outer s H E).nox (defBody st) (sM K false m))
    (hs : Spec (runD m N)) : ∃ g, CalN P w K mg base x (k + 1) ps g ∧ Spec g := by
  obtain ⟨f, fd, h1, h2, h3⟩ := F.ex
  exact ⟨runD m N, ⟨f, fd, fn_N h1 S rfl (hbody f) (fun ds r h _ => runD_ok ds r h), h2, h1.kp, h3⟩, hs⟩
def runX (n : NX) (N : List Str) : List D → Option Addr := fun ds => n (startE N ds)
theorem cal_exX {x : Str} {st : Stmt} {N ps : List Str} {k : Nat} {n : NX} {Spec : (List D → Option Addr) → Prop} (F : FunG K mg x st ps) (S : FnScope N ps (defScope st))
    (hbody : ∀ (f : Addr) (cdv : Value) (A : Around) (outer : List Env) (s : Shared) (H : Hp) (E : XK), Room k (A.deeper (envOfC x (defScope st) s.heap.objs.size f cdv)) →
      PSs (cxOf (CXr P w) P w K mg base N x (defScope st) f cdv A outer s H E) (defBody st) (sX (cxOf (CXr P w) P w K mg base N x (defScope st) f cdv A outer s H E) n))
    (hs : Spec (runX n N)) : ∃ h, CalX P w K mg base x (k + 1) ps h ∧ Spec h := by
  obtain ⟨f, fd, h1, h2, h3⟩ := F.ex
  exact ⟨runX n N, ⟨f, fd, fn_X h1 S rfl (hbody f) (fun ds C h _ => h), h2, h1.kp, h3⟩, hs⟩
end
def hasExc (a : Addr) (ds : List D) : Bool := ds.any fun d => match d with | .exc b _ => decide (b = a) | _ => false
def mCallH (a : Addr) (n0 : Nat) (g : List D → Option R) (n : MA) : ME := fun E => (n E).bind fun rs => if rs.length = n0 ∧ hasExc a (rs.map R.d) = true then (g (rs.map R.d)).map R.taint else none
section
variable {X : Cx} {e : Expr} {es : List Expr} {n : MA} {pos p : Pos} {x : Str}
theorem exc_in {K : PySem.W.Frag} {H : Hp} {a : Addr} : ∀ {vs : List V} {ds : List D}, DpAll K H vs ds → hasExc a ds = true → ∃ o C, H a = some (.frz o (.own a)) ∧ XOb o C
  | _, _, .nil, h => by cases h
  | _, _, @DpAll.cons _ _ v vs d ds h1 h2, h => by
    unfold hasExc at h
    rw [List.any_cons, Bool.or_eq_true] at h
    rcases h with h | h
    · split at h
      · rename_i b C
        have e := of_decide_eq_true h
        subst e
        cases h1 with
        | exc q1 q2 => exact ⟨_, _, q1, q2⟩
      · cases h
    · exact exc_in h2 h
/-- a def is called within an except suite, the exception handed on -/
theorem m_callH {a : Addr} {k : Nat} {ps : List Str} {g : List D → Option R} (C : CalN X.prog X.w X.K X.mg X.base x k ps g) (hr : RoomN k X.A) (hh : X.A.handled = some (.ref a)) (ha : PA X (e :: es) (tMA X.K n))
    (hg : Gl X x := by rfl) (hdb : (x == ("__debug__" : Str)) = false := by decide) (he : starEach (e :: es) X.env = (false, eval e X.env) :: starEach es X.env := by rfl) (hpl : (backTo pos (starEach es X.env)).any (·.1) = false := by rfl) :
    PE X (.Call (.Name x p) (e :: es) [] pos) (tM X.K (mCallH a ps.length g n)) := by
  obtain ⟨f, fd, F, hm, hk, hb⟩ := C.ex
  intro pins s σ H Q I q
  obtain ⟨E, W, rc, hH, hn, kk⟩ := q
  obtain ⟨rs, er, hn⟩ := bindSome hn
  split at hn
  · rename_i hl
    cases eg : g (rs.map R.d) with
    | none => rw [eg] at hn; cases hn
    | some r0 =>
      rw [eg] at hn
      cases hn
      refine wpAny_Call_Name_kw (ld_glob I hg hm ?_ hdb)
      refine PySem.W.callWith_K (h₀ := X.base) I.ok.mod.kin hk (thn (ha pos pins s σ H (fun vs H1 => Same H H1 ∧ RAs X.K H1 W vs rs) I ⟨E, W, rs, hH, er, fun vs H' s' r' => ⟨s', r'⟩⟩) fun us s1 ⟨vs, H1, I1, r, q1, q2⟩ => ⟨I1.kIn, ?_⟩) he hpl
      have hlv : vs.length = ps.length := (RAs_len q2).trans hl.1
      have hlu : us.length = ps.length := by rw [← r.length]; exact hlv
      have B := hb s1 us I1.kIn (by rw [List.append_nil]; exact hlu)
      rw [List.append_nil] at B
      obtain ⟨o, C0, z1, z2⟩ := exc_in (Dpam q2.dps hid_sub) hl.2
      have hd := ((hH.grow q1)).dom
      refine wpAny_call (codeAny_mono (F.run X.A X.stack s1 H1 ⟨us, []⟩ us vs Q E0 hr ⟨a, o, C0, hh, z1, z2⟩ I1.env0 B r ⟨hlv, W.z, _, r0, fun b hb => hd b (WM.zw b hb), q2.dps, eg, fun v H' s' ra rf => kk v H' (q1.trans s') (taint_ok hd s' ra rf) (taint_f (rf.anti q1))⟩) fun r s' hq => ?_)
      cases r with
      | error e => exact hq.elim
      | ok fl =>
        cases fl with
        | ret u => exact I1.after hq
        | next => exact False.elim hq
        | brk => exact False.elim hq
        | cont => exact False.elim hq
  · cases hn
end
end MD

/-! DEFS AS VALUES: handed on by name, called through a name -/
namespace MD
open PySem PySem.Spec L2 PyProof.Rows
theorem _root_.L2.RoomN.units {k : Nat} {A : Around} (r : RoomN k A) : A.units + 64 < cLine := by have := r.un; omega
section
variable {P : Program} {w : World} {K : PySem.W.Frag} {mg : Str → Option Value} {base : Heap}
theorem Cal.lift {x : Str} {j k : Nat} {ps : List Str} {g : List D → Option R} (C : Cal P w K mg base x j ps g) (h : j ≤ k) : Cal P w K mg base x k ps g := by
  obtain ⟨f, fd, F, r⟩ := C.ex
  exact ⟨f, fd, F.mono h, r⟩
theorem CalX.lift {x : Str} {j k : Nat} {ps : List Str} {h : List D → Option Addr} (C : CalX P w K mg base x j ps h) (q : j ≤ k) : CalX P w K mg base x k ps h := by
  obtain ⟨f, fd, F, r⟩ := C.ex
  exact ⟨f, fd, F.mono q, r⟩
abbrev Tb (α : Type) := List (Str × List Str × (List D → Option α))
structure Tab (P : Program) (w : World) (K : PySem.W.Frag) (mg : Str → Option Value) (base : Heap) (k : Nat) (tab : Tb R) : Prop where
  all : ∀ e ∈ tab, Cal P w K mg base e.1 k e.2.1 e.2.2
structure TabX (P : Program) (w : World) (K : PySem.W.Frag) (mg : Str → Option Value) (base : Heap) (k : Nat) (tab : Tb Addr) : Prop where
  all : ∀ e ∈ tab, CalX P w K mg base e.1 k e.2.1 e.2.2
theorem tab_nil {k : Nat} : Tab P w K mg base k [] := ⟨fun _ h => nomatch h⟩
theorem tab_cons {k : Nat} {x : Str} {ps : List Str} {g : List D → Option R} {tab : Tb R} (C : Cal P w K mg base x k ps g) (T : Tab P w K mg base k tab) : Tab P w K mg base k ((x, ps, g) :: tab) := ⟨List.forall_mem_cons.mpr ⟨C, T.all⟩⟩
theorem tabx_nil {k : Nat} : TabX P w K mg base k [] := ⟨fun _ h => nomatch h⟩
theorem tabx_cons {k : Nat} {x : Str} {ps : List Str} {g : List D → Option Addr} {tab : Tb Addr} (C : CalX P w K mg base x k ps g) (T : TabX P w K mg base k tab) : TabX P w K mg base k ((x, ps, g) :: tab) := ⟨List.forall_mem_cons.mpr ⟨C, T.all⟩⟩
theorem xis_nil : ∀ C ∈ ([] : List Addr), XI K C := fun _ h => nomatch h
theorem xis_cons {C0 : Addr} {Cs : List Addr} (h : XI K C0) (t : ∀ C ∈ Cs, XI K C) : ∀ C ∈ C0 :: Cs, XI K C := List.forall_mem_cons.mpr ⟨h, t⟩
theorem exs_nil {B : Addr} : ∀ C ∈ ([] : List Addr), PySem.W.exmOne K (.ref C) (.ref B) = some true := fun _ h => nomatch h
theorem exs_cons {B C0 : Addr} {Cs : List Addr} (h : PySem.W.exmOne K (.ref C0) (.ref B) = some true) (t : ∀ C ∈ Cs, PySem.W.exmOne K (.ref C) (.ref B) = some true) : ∀ C ∈ C0 :: Cs, PySem.W.exmOne K (.ref C) (.ref B) = some true := List.forall_mem_cons.mpr ⟨h, t⟩
end
def findT {α : Type} : Tb α → Str → Option (List Str × (List D → Option α))
  | [], _ => none
  | e :: t, x => if e.1 = x then some e.2 else findT t x
theorem findT_mem {α : Type} {x : Str} {p : List Str × (List D → Option α)} : ∀ {tab : Tb α}, findT tab x = some p → (x, p) ∈ tab
  | [], h => nomatch h
  | e :: t, h => by
    unfold findT at h
    split at h
    · rename_i q
      cases h
      subst q
      exact List.mem_cons_self
    · exact List.mem_cons_of_mem _ (findT_mem h)
section
variable {X : Cx} {e : Expr} {es : List Expr} {n : MA} {pos p : Pos} {x : Str} {k i : Nat}
/-- a def's name as a value -/
theorem m_fnv (h : ∃ a, X.mg x = some (.ref a) ∧ PySem.W.nsIn X.K mainGlobals x = some (some (.ref a))) (hg : Gl X x := by rfl) (hd : (x == ("__debug__" : Str)) = false := by decide) : PE X (.Name x pos) (tM X.K (mC (.fn x))) := by
  obtain ⟨a, hm, hn⟩ := h
  exact m_c (pe_glob (v := .ref a) hg hm rfl hd) fun _ => .fn hn
def mCallV (i : Nat) (tab : Tb R) (n : MA) : ME := fun E => match E[i]? with
  | some (some (.v (.fn x))) => (match findT tab x with | some q => mCall q.1.length q.2 n E | none => none)
  | _ => none
def nCallV (i : Nat) (tab : Tb Addr) (n : MA) : NX := fun E => match E[i]? with
  | some (some (.v (.fn x))) => (match findT tab x with | some q => nCall q.1.length q.2 n E | none => none)
  | _ => none
theorem mCallV_eq {tab : Tb R} {E : Ev} {y : Str} {q : List Str × (List D → Option R)} {r : Option R} (h : E[i]? = some (some (.v (.fn y)))) (hf : findT tab y = some q) (hc : mCall q.1.length q.2 n E = r) : mCallV i tab n E = r := by
  unfold mCallV; rw [h]; simp only [hf]; exact hc
theorem nCallV_eq {tab : Tb Addr} {E : Ev} {y : Str} {q : List Str × (List D → Option Addr)} {r : Option Addr} (h : E[i]? = some (some (.v (.fn y)))) (hf : findT tab y = some q) (hc : nCall q.1.length q.2 n E = r) : nCallV i tab n E = r := by
  unfold nCallV; rw [h]; simp only [hf]; exact hc
theorem fn_val {pins : List (Addr × Obj)} {s : Shared} {σ : L2.St} {H : Hp} {E : Ev} {W : WM} {y : Str} (I : Inv X pins σ H s) (hH : Held X.K H W σ E) (h : E[i]? = some (some (.v (.fn y)))) : ∃ a, σ[i]? = some (some (.ref a)) ∧ X.mg y = some (.ref a) := by
  obtain ⟨v, h1, h2⟩ := hH.val i _ h
  cases h2 with
  | fn q => exact ⟨_, h1, PySem.W.mg_of I.mod.kin I.mod.glob q⟩
theorem m_callV {tab : Tb R} (T : Tab X.prog X.w X.K X.mg X.base k tab) (hr : Room k X.A) (hv : PE X (.Name x p) (tVar i)) (ha : PA X (e :: es) (tMA X.K n))
    (he : starEach (e :: es) X.env = (false, eval e X.env) :: starEach es X.env := by rfl) (hpl : (backTo pos (starEach es X.env)).any (·.1) = false := by rfl) :
    PE X (.Call (.Name x p) (e :: es) [] pos) (tM X.K (mCallV i tab n)) := by
  intro pins s σ H Q I ⟨E, W, rc, hH, hm, kk⟩
  unfold mCallV at hm
  split at hm
  · rename_i y ey
    split at hm
    · rename_i q eq
      obtain ⟨a, e1, e2⟩ := fn_val I hH ey
      obtain ⟨f, fd, F, hmg, hk, hb⟩ := (T.all _ (findT_mem eq)).ex
      rw [e2] at hmg
      cases hmg
      have hs := tCall_of (K := X.K) (n := n) (g := q.2) (n0 := q.1.length) σ H Q ⟨E, W, rc, hH, hm, kk⟩
      refine wpAny_Call_Name_kw (thn (hv pins s σ H (fun v H' => v = .ref a ∧ H' = H) I ⟨_, e1, rfl, rfl⟩) fun u s1 ⟨v, H1, I1, r, q1, q2⟩ => ?_)
      subst q1 q2
      cases r
      refine PySem.W.callWith_K (h₀ := X.base) I1.ok.mod.kin hk (thn (ha pos pins s1 σ H1 _ I1 hs) fun us s2 ⟨vs, H2, I2, r, q⟩ => ⟨I2.kIn, ?_⟩) he hpl
      exact run_fn F hr hb .nil pass0 I2 r q
    · cases hm
  · cases hm
theorem x_callV {tab : Tb Addr} (T : TabX X.prog X.w X.K X.mg X.base k tab) (hr : Room k X.A) (hv : PE X (.Name x p) (tVar i)) (ha : PA X (e :: es) (tMA X.K n)) (hex : X.ex = [] := by rfl)
    (he : starEach (e :: es) X.env = (false, eval e X.env) :: starEach es X.env := by rfl) (hpl : (backTo pos (starEach es X.env)).any (·.1) = false := by rfl) :
    PE X (.Call (.Name x p) (e :: es) [] pos) (eX X (nCallV i tab n)) := by
  intro pins s σ H Q I ⟨E, W, C', hH, hn, xw⟩
  unfold nCallV at hn
  split at hn
  · rename_i y ey
    split at hn
    · rename_i q eq
      obtain ⟨a, e1, e2⟩ := fn_val I hH ey
      obtain ⟨f, fd, F, hmg, hk, hb⟩ := (T.all _ (findT_mem eq)).ex
      rw [e2] at hmg
      cases hmg
      obtain ⟨rs, er, hn⟩ := bindSome hn
      split at hn
      · rename_i hl
        refine wpAny_Call_Name_kw (thn (hv pins s σ H (fun v H' => v = .ref a ∧ H' = H) I ⟨_, e1, rfl, rfl⟩) fun u s1 ⟨v, H1, I1, r, q1, q2⟩ => ?_)
        subst q1 q2
        cases r
        refine PySem.W.callWith_K (h₀ := X.base) I1.ok.mod.kin hk (thn (ha pos pins s1 σ H1 (fun vs H2 => Same H1 H2 ∧ RAs X.K H2 W vs rs) I1 ⟨E, W, rs, hH, er, fun vs H' s' r' => ⟨s', r'⟩⟩) fun us s2 ⟨vs, H2, I2, r, q1, q2⟩ => ⟨I2.kIn, ?_⟩) he hpl
        exact run_X F hr hb hex I2 r (hH.grow q1) q2 hl hn (xw.later q1)
      · cases hn
    · cases hn
  · cases hn
end
end MD

/-! what is handed in and is no such thing -/
namespace MD
open PySem PySem.Spec L2
def plD : D → Bool
  | .obj _ _ _ => false
  | .fn _ => false
  | .exc _ _ => false
  | _ => true
def plT : D → Bool
  | .tuple l => l.all plD
  | d => plD d
def plL : D → Bool
  | .list l => l.all plT
  | d => plD d
def isNumD : D → Bool
  | .int _ => true
  | _ => false
def isPtD : D → Bool
  | .tuple [.int _, .int _] => true
  | _ => false
def nearD : D → Bool
  | .tuple [.int x, .int y] => near (x, y)
  | _ => false
def arNrD : D → Bool
  | .list l => decide (1 ≤ l.length) && decide (l.length ≤ 6) && l.all nearD
  | _ => false
def stkB (ss : List Pt) : Bool := ss.all std && (List.range (ss.length - 1)).all fun i => decide (0 < sp (ss.getD i (0, 0)) (ss.getD (i + 1) (0, 0)))
def BadS (d : D) : Prop := (plL d = true ∧ arNrD d = false) ∨ ∃ ss : List Pt, d = .list (ss.map eP) ∧ (1 ≤ ss.length ∧ ss.length ≤ 6) ∧ (∀ s ∈ ss, near s = true) ∧ stkB ss = false
def BadR (d : D) : Prop := (plL d = true ∧ arNrD d = false) ∨ d = .list [eP (0, 0)] ∨ d = .list [eP (1, 1), eP (0, 0)]
def BadP (d : D) : Prop := plT d = true ∧ isPtD d = false
def BadT (d : D) : Prop := plD d = true ∧ ∀ n, d = .int n → n < 0
def bdP : List D := [.none, .int 5, .tuple [], .tuple [.int 1], .tuple [.int 1, .int 2, .int 3], .list [.int 1, .int 2], .str "12", .dict [] [], .tuple [.none, .int 1], .tuple [.int 1, .none], .tuple [.bool true, .int 1], .tuple [.int 1, .bool false], .tuple [.str "1", .int 1], .tuple [.tuple [.int 1], .int 1]]
def bdT (c : Int) : List D := [.none, .int (-1), .int (-1 - c), .bool true, .bool false, .str "1", .list [.int 1], .tuple [.int 1], .dict [] []]
def gdS : List Pt := [(5, 1), (2, 2), (-3, 4)]
def lP (ss : List Pt) : D := .list (ss.map eP)
def bdS1 : List D := [.none, .int 5, .tuple [], .tuple (gdS.map eP), .str "sticks", .dict [] [], .list [], lP gdS.reverse, lP (gdS ++ [(-3, 4)]), lP (gdS ++ [(-6, 8)]), lP [(0, 0)]]
def bdS2 (c : Int) : List D := [lP [(-1, 0)], lP [(1, -1)], lP [(21, 1)], lP [(1, 21)], lP [(-21, 1)], lP [(21 + c, 1)], lP [(1, 0), (-1 - c, 0)]]
def bdS3 : List D := [lP ((List.range 7).map fun (i : Nat) => (10 - (i : Int), 1 + (i : Int))), lP [(0, 1), (1, 1)], lP [(1, 2), (2, 4)]]
def bdS4 (x : D × Nat) : D := .list ((gdS.take (x.2 % 4)).map eP ++ [x.1] ++ (gdS.drop (x.2 % 4)).map eP)
def bdS (c : Int) : List D := bdS1 ++ bdS2 c ++ bdS3 ++ bdP.zipIdx.map bdS4
def bdR1 : List D := [.none, .int 5, .tuple [], .tuple [eP (1, 2)], .str "rows", .dict [] [], .list [], lP (List.replicate 7 (1, 1)), lP [(0, 0)], lP [(1, 1), (0, 0)], lP [(21, 0)], lP [(0, -21)]]
def bdR2 (c : Int) : List D := [lP [(21 + c, 1)], lP [(1, -21 - c)]]
def bdR4 (x : D × Nat) : D := .list ((List.replicate (x.2 % 3) (eP (1, 2))) ++ [x.1])
def bdR (c : Int) : List D := bdR1 ++ bdR2 c ++ bdP.zipIdx.map bdR4
theorem bdP_ok : ∀ d ∈ bdP, BadP d := by
  intro d hd
  simp only [bdP, List.mem_cons, List.not_mem_nil, or_false] at hd
  rcases hd with rfl | rfl | rfl | rfl | rfl | rfl | rfl | rfl | rfl | rfl | rfl | rfl | rfl | rfl <;> exact ⟨rfl, rfl⟩
theorem bdT_ok {c : Int} (h : 0 ≤ c) : ∀ d ∈ bdT c, BadT d := by
  intro d hd
  simp only [bdT, List.mem_cons, List.not_mem_nil, or_false] at hd
  rcases hd with rfl | rfl | rfl | rfl | rfl | rfl | rfl | rfl | rfl <;> refine ⟨rfl, fun n e => ?_⟩ <;> cases e <;> omega
theorem far_near {x y : Int} (h : x < -20 ∨ 20 < x ∨ y < -20 ∨ 20 < y) : near (x, y) = false := by
  unfold near absI
  simp only [Bool.and_eq_false_iff, decide_eq_false_iff_not]
  by_cases h1 : x < 0 <;> by_cases h2 : y < 0 <;> simp [h1, h2] <;> omega
theorem pt_near {x y : Int} (h : -20 ≤ x ∧ x ≤ 20 ∧ -20 ≤ y ∧ y ≤ 20) : near (x, y) = true := by
  unfold near absI
  simp only [Bool.and_eq_true, decide_eq_true_eq]
  by_cases h1 : x < 0 <;> by_cases h2 : y < 0 <;> simp [h1, h2] <;> omega
theorem bdS_ok {c : Int} (h : 0 ≤ c) : ∀ d ∈ bdS c, BadS d := by
  intro d hd
  unfold bdS at hd
  rw [List.mem_append, List.mem_append, List.mem_append] at hd
  rcases hd with ((hd | hd) | hd) | hd
  · simp only [bdS1, List.mem_cons, List.not_mem_nil, or_false] at hd
    rcases hd with rfl | rfl | rfl | rfl | rfl | rfl | rfl | rfl | rfl | rfl | rfl <;> first
      | exact .inl ⟨by decide, by decide⟩
      | exact .inr ⟨_, rfl, by decide, by decide, by decide⟩
  · simp only [bdS2, List.mem_cons, List.not_mem_nil, or_false] at hd
    rcases hd with rfl | rfl | rfl | rfl | rfl | rfl | rfl
    · exact .inr ⟨_, rfl, by decide, by decide, by decide⟩
    · exact .inr ⟨_, rfl, by decide, by decide, by decide⟩
    · exact .inl ⟨by decide, by decide⟩
    · exact .inl ⟨by decide, by decide⟩
    · exact .inl ⟨by decide, by decide⟩
    · refine .inl ⟨rfl, ?_⟩
      have q : near (21 + c, 1) = false := far_near (by omega)
      simp [arNrD, lP, nearD, eP, q]
    · by_cases hc : c ≤ 19
      · refine .inr ⟨[(1, 0), (-1 - c, 0)], rfl, by simp, ?_, ?_⟩
        · intro s hs
          simp only [List.mem_cons, List.not_mem_nil, or_false] at hs
          rcases hs with rfl | rfl
          · decide
          · exact pt_near (by omega)
        · have : std (-1 - c, 0) = false := by
            unfold std
            simp only [Int.lt_irrefl, decide_false, Bool.false_or, decide_true, Bool.true_and, decide_eq_false_iff_not]
            omega
          unfold stkB
          rw [List.all_cons, List.all_cons, this]
          simp
      · refine .inl ⟨rfl, ?_⟩
        have q : near (-1 - c, 0) = false := far_near (by omega)
        simp [arNrD, lP, nearD, eP, q]
  · simp only [bdS3, List.mem_cons, List.not_mem_nil, or_false] at hd
    rcases hd with rfl | rfl | rfl
    · exact .inl ⟨by decide, by decide⟩
    · exact .inr ⟨_, rfl, by decide, by decide, by decide⟩
    · exact .inr ⟨_, rfl, by decide, by decide, by decide⟩
  · refine .inl ?_
    obtain ⟨x, hx, rfl⟩ := List.mem_map.mp hd
    simp only [bdP, List.zipIdx_cons, List.zipIdx_nil, List.mem_cons, List.not_mem_nil, or_false] at hx
    rcases hx with rfl | rfl | rfl | rfl | rfl | rfl | rfl | rfl | rfl | rfl | rfl | rfl | rfl | rfl <;> exact ⟨by decide, by decide⟩
theorem bdR_ok {c : Int} (h : 0 ≤ c) : ∀ d ∈ bdR c, BadR d := by
  intro d hd
  unfold bdR at hd
  rw [List.mem_append, List.mem_append] at hd
  rcases hd with (hd | hd) | hd
  · simp only [bdR1, List.mem_cons, List.not_mem_nil, or_false] at hd
    rcases hd with rfl | rfl | rfl | rfl | rfl | rfl | rfl | rfl | rfl | rfl | rfl | rfl <;> first
      | exact .inl ⟨by decide, by decide⟩
      | exact .inr (.inl rfl)
      | exact .inr (.inr rfl)
  · simp only [bdR2, List.mem_cons, List.not_mem_nil, or_false] at hd
    rcases hd with rfl | rfl
    · refine .inl ⟨rfl, ?_⟩
      have q : near (21 + c, 1) = false := far_near (by omega)
      simp [arNrD, lP, nearD, eP, q]
    · refine .inl ⟨rfl, ?_⟩
      have q : near (1, -21 - c) = false := far_near (by omega)
      simp [arNrD, lP, nearD, eP, q]
  · refine .inl ?_
    obtain ⟨x, hx, rfl⟩ := List.mem_map.mp hd
    simp only [bdP, List.zipIdx_cons, List.zipIdx_nil, List.mem_cons, List.not_mem_nil, or_false] at hx
    rcases hx with rfl | rfl | rfl | rfl | rfl | rfl | rfl | rfl | rfl | rfl | rfl | rfl | rfl | rfl <;> exact ⟨by decide, by decide⟩
end MD
namespace MD
theorem isPt_len {l : List D} (h : l.length ≠ 2) : isPtD (.tuple l) = false := by
  unfold isPtD
  split
  · rename_i e; cases e; exact absurd rfl h
  · rfl
theorem arNrD_list (l : List D) : arNrD (.list l) = (decide (1 ≤ l.length) && decide (l.length ≤ 6) && l.all nearD) := rfl
end MD

/-! steps of the mirrors that raise -/
namespace MD
open PySem PySem.Spec L2
section
variable {E E' : Ev} {a b : NX} {c : MT} {s : MS} {C : Addr} {o : Option Addr} {m m' : ME} {n : MA}
theorem nIf_t (h : c E = some true) (q : a E = o) : nIf c a b E = o := by unfold nIf; rw [h]; exact q
theorem nIf_f (h : c E = some false) (q : b E = o) : nIf c a b E = o := by unfold nIf; rw [h]; exact q
theorem nAlt_x (q : a E = some C) : nAlt a s b E = some C := by unfold nAlt; rw [q]
theorem nAlt_n (q : a E = none) (h : s E = some (.nx E')) (k : b E' = o) : nAlt a s b E = o := by unfold nAlt; rw [q]; show (s E).bind _ = _; rw [h]; exact k
theorem nCall1 {h : List D → Option Addr} {x : R} (e : m E = some x) (q : h [x.d] = o) : nCall 1 h (mCons m mNil) E = o := by
  unfold nCall
  rw [mCons_eq e rfl]
  exact q
theorem nCall2 {h : List D → Option Addr} {x y : R} (e : m E = some x) (e' : m' E = some y) (q : h [x.d, y.d] = o) : nCall 2 h (mCons m (mCons m' mNil)) E = o := by
  unfold nCall
  rw [mCons_eq e (mCons_eq e' rfl)]
  exact q
theorem nRaise_eq {rs : List R} (e : n E = some rs) (hl : rs.length ≤ 9) : nRaise C n E = some C := by
  unfold nRaise
  rw [e]
  show (if _ then _ else _) = _
  rw [if_pos hl]
theorem gIsiX_eq {K : PySem.W.Frag} {Cs : List Addr} {cv : Value} {r : R} {a0 C0 : Addr} {k : Bool} (hr : r.d = .exc a0 C0) (hc : C0 ∈ Cs) (hk : PySem.W.kitOne K (.ref C0) cv = some k) : gIsiX K Cs cv r = some (.c (.bool k)) := by
  unfold gIsiX
  rw [hr]
  show (if C0 ∈ Cs then _ else _) = _
  rw [if_pos hc, hk]
  rfl
theorem mCallH2 {a0 C0 : Addr} {g : List D → Option R} {x y r : R} (e : m E = some x) (e' : m' E = some y) (hx : x.d = .exc a0 C0) (q : g [x.d, y.d] = some r) : mCallH a0 2 g (mCons m (mCons m' mNil)) E = some r.taint := by
  unfold mCallH
  rw [mCons_eq e (mCons_eq e' rfl)]
  show (if _ ∧ hasExc a0 [x.d, y.d] = true then _ else _) = _
  rw [if_pos ⟨rfl, by rw [hx]; unfold hasExc; simp⟩]
  show (g [x.d, y.d]).map _ = _
  rw [q]
  rfl
end
end MD
namespace MD
open PySem PySem.Spec L2
theorem mAllG {α : Type} {is : List Nat} {pick : D → Option (List D)} {mi : MI} {me : ME} {E : Ev} {c : Bool} {l : List α} {enc : α → D} {qs : α → List D} (f : α → Bool) (hi : mi E = some (c, l.map enc)) (hl : l.length ≤ lim)
    (h : ∀ a ∈ l, (c || flat (enc a)) = true ∧ pick (enc a) = some (qs a) ∧ me (setAllE (wipeE E is) is (qs a)) = some (.c (.bool (f a)))) :
    mCl gAll (mCons (mLc is pick mi mYes me) mNil) E = some (.c (.bool (l.all f))) :=
  (mCl1 (r := .o (l.map fun a => .bool (f a))) ((mLcG (b := fun _ => true) (y := fun a => .bool (f a)) hi hl fun a ha => ⟨(h a ha).1, (h a ha).2.1, rfl, fun _ => ⟨_, (h a ha).2.2, rfl⟩⟩).trans (by rw [filter_true]))).trans (all_f l f)
theorem SOk.stk {ss : List Pt} (h : SOk ss) : stkB ss = true := by
  unfold stkB
  rw [Bool.and_eq_true]
  refine ⟨List.all_eq_true.mpr fun s hs => std_iff.mpr (h.sd s hs), List.all_eq_true.mpr fun k hk => decide_eq_true ?_⟩
  have hk1 : k + 1 < ss.length := by have := List.mem_range.mp hk; omega
  refine h.neigh k _ _ ?_ ?_
  · rw [List.getD_eq_getElem?_getD, List.getElem?_eq_getElem (show k < ss.length by omega)]; rfl
  · rw [List.getD_eq_getElem?_getD, List.getElem?_eq_getElem hk1]; rfl
theorem nr_list {ss : List Pt} (h1 : 1 ≤ ss.length) (h6 : ss.length ≤ 6) (hn : ∀ s ∈ ss, near s = true) : plL (.list (ss.map eP)) = true ∧ arNrD (.list (ss.map eP)) = true := by
  refine ⟨?_, ?_⟩
  · show (ss.map eP).all plT = true
    rw [List.all_map]
    exact List.all_eq_true.mpr fun s _ => rfl
  · rw [arNrD_list, List.length_map, decide_eq_true h1, decide_eq_true h6, List.all_map]
    show ss.all (nearD ∘ eP) = true
    exact List.all_eq_true.mpr fun s hs => hn s hs
end MD
namespace MD
theorem bad_sticks {g : List D → Option R} (H : (∀ ss : List Pt, 1 ≤ ss.length → ss.length ≤ 6 → (∀ s ∈ ss, near s = true) → g [.list (ss.map eP)] = some (.c (.bool (stkB ss)))) ∧ ∀ d : D, plL d = true → arNrD d = false → g [d] = some (.c (.bool false))) : (∀ d : D, BadS d → g [d] = some (.c (.bool false))) ∧ ∀ ss : List Pt, SOk ss → g [.list (ss.map eP)] = some (.c (.bool true)) := by
  refine ⟨fun d hd => ?_, fun ss h => ?_⟩
  · rcases hd with ⟨h1, h2⟩ | ⟨ss, rfl, ⟨h1, h2⟩, h3, h4⟩
    · exact H.2 d h1 h2
    · rw [← h4]; exact H.1 ss h1 h2 h3
  · rw [← h.stk]; exact H.1 ss h.l1 h.l6 h.nr
end MD
namespace MD
theorem mCall4 {g : List D → Option R} {m1 m2 m3 m4 : ME} {E : Ev} {w x y z r' : R} {d1 d2 d3 d4 : D} (h1 : m1 E = some w) (h2 : m2 E = some x) (h3 : m3 E = some y) (h4 : m4 E = some z) (p1 : w.pro = some d1) (p2 : x.pro = some d2) (p3 : y.pro = some d3) (p4 : z.pro = some d4) (hg : g [d1, d2, d3, d4] = some r') :
    mCall 4 g (mCons m1 (mCons m2 (mCons m3 (mCons m4 mNil)))) E = some r'.up := by
  unfold mCall
  rw [mCons_eq h1 (mCons_eq h2 (mCons_eq h3 (mCons_eq h4 (mNil_eq E))))]
  show (if 4 = 4 then (match pros [w, x, y, z] with | some ds => (g ds).map R.up | none => (g [w.d, x.d, y.d, z.d]).map R.taint) else none) = _
  rw [if_pos rfl, MD.pros_cons, p1, MD.pros_cons, p2, MD.pros_cons, p3, MD.pros_cons, p4, pros_nil]
  show (g [d1, d2, d3, d4]).map _ = _
  rw [hg]
  rfl
open L2 in
theorem ix_Dl (l : List D) {j : Nat} (h : j < l.length) : gIx (.c (.list l)) (.c (.int (j : Nat))) = some (.c l[j]) := by
  show (atI l (j : Nat)).map (R.mk' true) = _
  have : atI l ((j : Nat) : Int) = some l[j] := by
    unfold atI ixN
    rw [if_pos (by omega), if_pos (by omega)]
    simp [h]
  rw [this]
  rfl
end MD

namespace K17
open PySem PySem.Spec L2 MD
def top (i : Nat) : Stmt := PySem.Challenge.pw_stickbodies_k17_refused_bodies.main.body.getD i (.Pass ⟨0, 0, 0, 0⟩)
def inC (s : Stmt) (j : Nat) : Stmt := match s with | .ClassDef _ _ _ b _ _ _ _ _ _ _ => b.getD j (.Pass ⟨0, 0, 0, 0⟩) | _ => s
local macro_rules | `(tactic| walk_at "ev") => `(tactic| simp [mSeq, mRet, mIfS, mAsgV, mAsgO, mOp, mUn, mVar, mC, mAndV, mOrV, mNotV, mTAnd, mTOr, mTNot, mB, mIf, mCall, mCl, mNil, mCons, mTup, mLst, mNext, mNo, mChain, gI, gIc, gAdd, MD.gSub, gLt, gLe, gGt, gGe, gMul, gDiv, gMod, gPow, gNeg, gEq, gNe, gAbs, gMax2, Rd_c, Rd_u, Rd_t, Rd_o, Rcl_c, Rcl_u, Rcl_t, Rcl_o, Rtr_b, Rup_c, Rup_u, Rup_t, Rup_o, Rpro_c, Rpro_o, Rpro_t, Rpro_u, Rtaint_o, Rtaint_c, Rmk_t, Rmk_f, pros_nil, pros_cons, sh_int, sh_bool, sh_P, sh_L, eqv_int, eqv_bool, eqv_P, eqv_L, flat_int, flat_bool, flat_list, flat_P, flats_P, ix_P0, ix_P1, tup_P, Td_fl, Td_pair, rAsgO_o, rAsgO_t, mPar, mRetO, mRetP, mSl, mNoPart, mPart, cut_c, list_c, ix_T0, sh_nil, sh_ints, eqv_ints_nil, eqv_L_nil, flat_PP, startE, lim, isi_P, len_P, isi_L, isi_Lu, isi_Tu, len_L, len_Lu, len_Lo, len_Tu, any_o, all_o, sum_o, sum_c, in_L, setAllE, wipeE, mDrop, mAug, gDivB, gInt, mParO, dt, *])
structure Txt (K : PySem.W.Frag) (mg : Str → Option Value) (C_BodyError C_BadSticks C_BadPoint C_BadTimes C_BadMany C_BadCut C_BadThree C_BadPlaces C_BadStick : Addr) : Prop where
  b_ValueError : mg "ValueError" = none
  b_abs : mg "abs" = none
  b_all : mg "all" = none
  b_bool : mg "bool" = none
  b_enumerate : mg "enumerate" = none
  b_int : mg "int" = none
  b_isinstance : mg "isinstance" = none
  b_len : mg "len" = none
  b_list : mg "list" = none
  b_range : mg "range" = none
  b_sum : mg "sum" = none
  b_tuple : mg "tuple" = none
  c_FARTHEST : ∃ t, mg "FARTHEST" = some (.int 20 t)
  c_MOST_STICKS : ∃ t, mg "MOST_STICKS" = some (.int 6 t)
  mc_BodyError : mg "BodyError" = some (.ref C_BodyError)
  mc_BadSticks : mg "BadSticks" = some (.ref C_BadSticks)
  mc_BadPoint : mg "BadPoint" = some (.ref C_BadPoint)
  mc_BadTimes : mg "BadTimes" = some (.ref C_BadTimes)
  mc_BadMany : mg "BadMany" = some (.ref C_BadMany)
  mc_BadCut : mg "BadCut" = some (.ref C_BadCut)
  mc_BadThree : mg "BadThree" = some (.ref C_BadThree)
  mc_BadPlaces : mg "BadPlaces" = some (.ref C_BadPlaces)
  mc_BadStick : mg "BadStick" = some (.ref C_BadStick)
  xc_BadSticks : XC K C_BadSticks
  xi_BadSticks : XI K C_BadSticks
  xm_BadSticks : PySem.W.exmOne K (.ref C_BadSticks) (.ref C_BodyError) = some true
  kv_BadSticks : PySem.W.kitOne K (.ref C_BadSticks) (.type "ValueError") = some true
  xc_BadPoint : XC K C_BadPoint
  xi_BadPoint : XI K C_BadPoint
  xm_BadPoint : PySem.W.exmOne K (.ref C_BadPoint) (.ref C_BodyError) = some true
  kv_BadPoint : PySem.W.kitOne K (.ref C_BadPoint) (.type "ValueError") = some true
  xc_BadTimes : XC K C_BadTimes
  xi_BadTimes : XI K C_BadTimes
  xm_BadTimes : PySem.W.exmOne K (.ref C_BadTimes) (.ref C_BodyError) = some true
  kv_BadTimes : PySem.W.kitOne K (.ref C_BadTimes) (.type "ValueError") = some true
  kx_BadSticks_BadSticks : PySem.W.kitOne K (.ref C_BadSticks) (.ref C_BadSticks) = some true
  kx_BadSticks_BadPoint : PySem.W.kitOne K (.ref C_BadSticks) (.ref C_BadPoint) = some false
  kx_BadSticks_BadTimes : PySem.W.kitOne K (.ref C_BadSticks) (.ref C_BadTimes) = some false
  kx_BadSticks_BadMany : PySem.W.kitOne K (.ref C_BadSticks) (.ref C_BadMany) = some false
  kx_BadSticks_BadCut : PySem.W.kitOne K (.ref C_BadSticks) (.ref C_BadCut) = some false
  kx_BadSticks_BadThree : PySem.W.kitOne K (.ref C_BadSticks) (.ref C_BadThree) = some false
  kx_BadSticks_BadPlaces : PySem.W.kitOne K (.ref C_BadSticks) (.ref C_BadPlaces) = some false
  kx_BadSticks_BadStick : PySem.W.kitOne K (.ref C_BadSticks) (.ref C_BadStick) = some false
  kx_BadPoint_BadSticks : PySem.W.kitOne K (.ref C_BadPoint) (.ref C_BadSticks) = some false
  kx_BadPoint_BadPoint : PySem.W.kitOne K (.ref C_BadPoint) (.ref C_BadPoint) = some true
  kx_BadPoint_BadTimes : PySem.W.kitOne K (.ref C_BadPoint) (.ref C_BadTimes) = some false
  kx_BadPoint_BadMany : PySem.W.kitOne K (.ref C_BadPoint) (.ref C_BadMany) = some false
  kx_BadPoint_BadCut : PySem.W.kitOne K (.ref C_BadPoint) (.ref C_BadCut) = some false
  kx_BadPoint_BadThree : PySem.W.kitOne K (.ref C_BadPoint) (.ref C_BadThree) = some false
  kx_BadPoint_BadPlaces : PySem.W.kitOne K (.ref C_BadPoint) (.ref C_BadPlaces) = some false
  kx_BadPoint_BadStick : PySem.W.kitOne K (.ref C_BadPoint) (.ref C_BadStick) = some false
  kx_BadTimes_BadSticks : PySem.W.kitOne K (.ref C_BadTimes) (.ref C_BadSticks) = some false
  kx_BadTimes_BadPoint : PySem.W.kitOne K (.ref C_BadTimes) (.ref C_BadPoint) = some false
  kx_BadTimes_BadTimes : PySem.W.kitOne K (.ref C_BadTimes) (.ref C_BadTimes) = some true
  kx_BadTimes_BadMany : PySem.W.kitOne K (.ref C_BadTimes) (.ref C_BadMany) = some false
  kx_BadTimes_BadCut : PySem.W.kitOne K (.ref C_BadTimes) (.ref C_BadCut) = some false
  kx_BadTimes_BadThree : PySem.W.kitOne K (.ref C_BadTimes) (.ref C_BadThree) = some false
  kx_BadTimes_BadPlaces : PySem.W.kitOne K (.ref C_BadTimes) (.ref C_BadPlaces) = some false
  kx_BadTimes_BadStick : PySem.W.kitOne K (.ref C_BadTimes) (.ref C_BadStick) = some false
  fv__law_bad_pairs : ∃ a, mg "_law_bad_pairs" = some (.ref a) ∧ PySem.W.nsIn K mainGlobals "_law_bad_pairs" = some (some (.ref a))
  fv__law_no_rows : ∃ a, mg "_law_no_rows" = some (.ref a) ∧ PySem.W.nsIn K mainGlobals "_law_no_rows" = some (some (.ref a))
  fv__law_no_sticks : ∃ a, mg "_law_no_sticks" = some (.ref a) ∧ PySem.W.nsIn K mainGlobals "_law_no_sticks" = some (some (.ref a))
  fv__law_no_times : ∃ a, mg "_law_no_times" = some (.ref a) ∧ PySem.W.nsIn K mainGlobals "_law_no_times" = some (some (.ref a))
  fv__law_with_point : ∃ a, mg "_law_with_point" = some (.ref a) ∧ PySem.W.nsIn K mainGlobals "_law_with_point" = some (some (.ref a))
  fv__law_with_rows : ∃ a, mg "_law_with_rows" = some (.ref a) ∧ PySem.W.nsIn K mainGlobals "_law_with_rows" = some (some (.ref a))
  fv__law_with_sticks : ∃ a, mg "_law_with_sticks" = some (.ref a) ∧ PySem.W.nsIn K mainGlobals "_law_with_sticks" = some (some (.ref a))
  fv__law_with_times : ∃ a, mg "_law_with_times" = some (.ref a) ∧ PySem.W.nsIn K mainGlobals "_law_with_times" = some (some (.ref a))
section
variable {P : Program} {w : World} {K : PySem.W.Frag} {mg : Str → Option Value} {base : Heap} {C_BodyError C_BadSticks C_BadPoint C_BadTimes C_BadMany C_BadCut C_BadThree C_BadPlaces C_BadStick : Addr}
abbrev s_is_number : Stmt := top 13
abbrev N_is_number : List Str := ["value"]
def Sp_is_number (g : List D → Option R) : Prop := ∀ d : D, plD d = true → g [d] = some (.c (.bool (isNumD d)))
theorem sc_is_number : FnScope N_is_number ["value"] (defScope s_is_number) := ⟨rfl, rfl, rfl, by decide +kernel, rfl, by decide +kernel, by decide +kernel⟩
set_option maxHeartbeats 4000000 in
theorem ok_is_number (T : Txt K mg C_BodyError C_BadSticks C_BadPoint C_BadTimes C_BadMany C_BadCut C_BadThree C_BadPlaces C_BadStick) (F : FunG K mg "is_number" s_is_number ["value"]) : ∃ g, Cal P w K mg base "is_number" 1 ["value"] g ∧ Sp_is_number g := by
  refine cal_ex F sc_is_number (fun f cdv A outer s H E hr => (@m_sone _ _ _ _ (m_ret (m_and (m_isi .int T.b_isinstance T.b_int (m_var (pv 0))) (m_one (m_not (m_isi .bool T.b_isinstance T.b_bool (m_var (pv 0))))))))) ?_
  intro d hd
  cases d <;> first | exact runD_eq (r := .c (.bool true)) rfl | exact runD_eq (r := .c (.bool false)) rfl | cases hd
abbrev s_is_point : Stmt := top 14
abbrev N_is_point : List Str := ["value"]
def Sp_is_point (g : List D → Option R) : Prop := ∀ d : D, plT d = true → g [d] = some (.c (.bool (isPtD d)))
theorem sc_is_point : FnScope N_is_point ["value"] (defScope s_is_point) := ⟨rfl, rfl, rfl, by decide +kernel, rfl, by decide +kernel, by decide +kernel⟩
set_option maxHeartbeats 4000000 in
theorem ok_is_point (T : Txt K mg C_BodyError C_BadSticks C_BadPoint C_BadTimes C_BadMany C_BadCut C_BadThree C_BadPlaces C_BadStick) (F : FunG K mg "is_point" s_is_point ["value"]) {g_is_number : List D → Option R} (C_is_number : Cal P w K mg base "is_number" 1 ["value"] g_is_number) (H_is_number : Sp_is_number g_is_number) : ∃ g, Cal P w K mg base "is_point" 2 ["value"] g ∧ Sp_is_point g := by
  refine cal_ex F sc_is_point (fun f cdv A outer s H E hr => (@m_sone _ _ _ _ (m_ret (m_and (m_isi .tuple T.b_isinstance T.b_tuple (m_var (pv 0))) (m_and (m_cmp (op_eqD hr.units) s_eq (m_callB call_len_seq s_len T.b_len (m_acons1 (m_var (pv 0)) m_anil)) m_int (nomark _)) (m_and (m_callC C_is_number (hr.mono (by decide)) (m_acons1 (m_ix (m_var (pv 0)) m_int) m_anil)) (m_one (m_callC C_is_number (hr.mono (by decide)) (m_acons1 (m_ix (m_var (pv 0)) m_int) m_anil))))))))) ?_
  intro d hd
  refine runD_to ⟨_, mRet_eq (r := .c (.bool (isPtD d))) ?_, _, rfl, rfl⟩
  cases d with
  | tuple l =>
    rcases l with _ | ⟨x, _ | ⟨y, _ | ⟨z, t⟩⟩⟩
    · rw [isPt_len (by decide)]; exact mAndV_t rfl (mAndV_f rfl)
    · rw [isPt_len (by simp)]; exact mAndV_t rfl (mAndV_f rfl)
    · have hx : plD x = true := by unfold plT at hd; simp only [List.all_cons, Bool.and_eq_true] at hd; exact hd.1
      have hy : plD y = true := by unfold plT at hd; simp only [List.all_cons, Bool.and_eq_true] at hd; exact hd.2.1
      have h1 := H_is_number x hx
      have h2 := H_is_number y hy
      refine mAndV_t rfl (mAndV_t rfl ?_)
      have e1 : mCall 1 g_is_number (mCons (mOp gIx (mVar 0) (mC (D.int 0))) mNil) [some (Sl.v (.tuple [x, y]))] = some (.c (.bool (isNumD x))) := mCall1 (r := .c x) ((mOp_eq (x := .c (.tuple [x, y])) (y := .c (.int 0)) rfl rfl).trans rfl) rfl h1
      have e2 : mCall 1 g_is_number (mCons (mOp gIx (mVar 0) (mC (D.int 1))) mNil) [some (Sl.v (.tuple [x, y]))] = some (.c (.bool (isNumD y))) := mCall1 (r := .c y) ((mOp_eq (x := .c (.tuple [x, y])) (y := .c (.int 1)) rfl rfl).trans rfl) rfl h2
      cases x <;> first
        | (exact mAndV_f e1)
        | (refine mAndV_t e1 ?_; cases y <;> exact e2)
    · rw [isPt_len (by simp)]
      refine mAndV_t rfl (mAndV_f ?_)
      refine (mOp_eq (x := .c (.int ((x :: y :: z :: t).length : Nat))) (y := .c (.int 2)) rfl rfl).trans ((gEq_enc D.int (fun _ => rfl) eqv_int rfl rfl).trans ?_)
      rw [decide_eq_false]
      simp only [List.length_cons]
      omega
  | obj _ _ _ => cases hd
  | fn _ => cases hd
  | exc _ _ => cases hd
  | _ => exact mAndV_f rfl
abbrev s_is_near : Stmt := top 15
abbrev N_is_near : List Str := ["value"]
def Sp_is_near (g : List D → Option R) : Prop := ∀ d : D, plT d = true → g [d] = some (.c (.bool (nearD d)))
theorem sc_is_near : FnScope N_is_near ["value"] (defScope s_is_near) := ⟨rfl, rfl, rfl, by decide +kernel, rfl, by decide +kernel, by decide +kernel⟩
set_option maxHeartbeats 4000000 in
theorem ok_is_near (T : Txt K mg C_BodyError C_BadSticks C_BadPoint C_BadTimes C_BadMany C_BadCut C_BadThree C_BadPlaces C_BadStick) (F : FunG K mg "is_near" s_is_near ["value"]) {g_is_point : List D → Option R} (C_is_point : Cal P w K mg base "is_point" 2 ["value"] g_is_point) (H_is_point : Sp_is_point g_is_point) : ∃ g, Cal P w K mg base "is_near" 3 ["value"] g ∧ Sp_is_near g := by
  refine cal_ex F sc_is_near (fun f cdv A outer s H E hr => (@m_sone _ _ _ _ (m_ret (m_and (m_callC C_is_point (hr.mono (by decide)) (m_acons1 (m_var (pv 0)) m_anil)) (m_and (m_cmp op_le s_le (m_callB call_abs s_abs T.b_abs (m_acons1 (m_ix (m_var (pv 0)) m_int) m_anil)) (m_gint T.c_FARTHEST) (nomark _)) (m_one (m_cmp op_le s_le (m_callB call_abs s_abs T.b_abs (m_acons1 (m_ix (m_var (pv 0)) m_int) m_anil)) (m_gint T.c_FARTHEST) (nomark _)))))))) ?_
  intro d hd
  have h := H_is_point d hd
  cases hp : isPtD d with
  | false =>
    rw [hp] at h
    have e : nearD d = false := by
      unfold nearD
      split
      · cases hp
      · rfl
    rw [e]
    exact runD_to ⟨_, mRet_eq (r := .c (.bool false)) (mAndV_f (mCall1 (r := .c d) rfl rfl h)), _, rfl, rfl⟩
  | true =>
    rw [hp] at h
    unfold isPtD at hp
    split at hp
    · rename_i x y
      have h : g_is_point [eP (x, y)] = some (.c (.bool true)) := h
      show runD _ N_is_near [eP (x, y)] = some (.c (.bool (near (x, y))))
      generalize (x, y) = p at *
      refine runD_eq (r := .c (.bool (near p))) ?_
      walk_at "ev"
      unfold near absI
      by_cases a : (if p.1 < 0 then -p.1 else p.1) ≤ 20 <;> by_cases b : (if p.2 < 0 then -p.2 else p.2) ≤ 20 <;> simp [a, b, Rup_c]
    · cases hp
abbrev s_greatest_into : Stmt := top 16
abbrev N_greatest_into : List Str := ["one", "other"]
def Sp_greatest_into (g : List D → Option R) : Prop := ∀ (a : Int) (b : Nat), g [.int a, .int b] = some (.c (.int (Int.gcd a b : Nat)))
theorem sc_greatest_into : FnScope N_greatest_into ["one", "other"] (defScope s_greatest_into) := ⟨rfl, rfl, rfl, by decide +kernel, rfl, by decide +kernel, by decide +kernel⟩
set_option maxHeartbeats 4000000 in
theorem ok_greatest_into (T : Txt K mg C_BodyError C_BadSticks C_BadPoint C_BadTimes C_BadMany C_BadCut C_BadThree C_BadPlaces C_BadStick) (F : FunG K mg "greatest_into" s_greatest_into ["one", "other"]) : ∃ g, Cal P w K mg base "greatest_into" 1 ["one", "other"] g ∧ Sp_greatest_into g := by
  refine cal_ex F sc_greatest_into (fun f cdv A outer s H E hr => (@m_cons _ _ _ _ _ _ (m_while PassesOwn.never (m_tcmp (op_neD hr.units) s_ne (m_var (pv 1)) m_int (nomark _))
    (@m_sone _ _ _ _ (m_par (i := 0) (j := 1) rfl sc_greatest_into.nd (m_an2 (m_var (pv 1)) (m_op op_mod s_mod (m_var (pv 0)) (m_var (pv 1)))))))
    (@m_sone _ _ _ _ (m_ret (m_callB call_abs s_abs T.b_abs (m_acons1 (m_var (pv 0)) m_anil)))))) ?_
  intro a b
  refine runD_to ?_
  refine mSeq_ex (P := fun E => ∃ x : Int, E = [some (.v (.int x)), some (.v (.int 0))] ∧ x.natAbs = Int.gcd a b) ?_ ?_
  · refine mWhile_ex (fun E => ∃ (x : Int) (y : Nat), E = [some (.v (.int x)), some (.v (.int y))] ∧ Int.gcd x y = Int.gcd a b) (fun E => match E with | [_, some (.v (.int y))] => y.toNat | _ => 0) ⟨a, b, rfl, rfl⟩ ?_ ?_
    · rintro E ⟨x, y, rfl, hg⟩
      by_cases hy : y = 0
      · subst hy
        left
        walk_at "ev"
      · right
        have h0 : ¬ ((y : Int) = 0) := by omega
        have hp : 0 < y := by omega
        have hm : (((x % (y : Int)).toNat : Nat) : Int) = x % (y : Int) := Int.toNat_of_nonneg (Int.emod_nonneg x h0)
        have hgs := gcd_step (x := x) hp
        refine ⟨by walk_at "ev", [some (.v (.int y)), some (.v (.int ((x % (y : Int)).toNat : Nat)))], ?_, ⟨y, (x % (y : Int)).toNat, rfl, ?_⟩, ?_⟩
        · rw [hm]
          clear hgs hg hm
          walk_at "ev"
        · rw [hgs, hg]
        · show (((x % (y : Int)).toNat : Nat) : Int).toNat < (y : Int).toNat
          have := Int.emod_lt_of_pos x (show (0 : Int) < y by omega)
          omega
    · rintro E ⟨x, y, rfl, hg⟩ h3
      have hy : y = 0 := by
        apply Classical.byContradiction
        intro hy
        have : ¬ ((y : Int) = 0) := by omega
        revert h3
        clear hg
        walk_at "ev"
      subst hy
      exact ⟨x, rfl, by rw [← hg]; simp⟩
  · rintro E ⟨x, rfl, hx⟩
    refine ⟨.rt (.c (.int (Int.gcd a b : Nat))), ?_, _, rfl, rfl⟩
    rw [← hx]
    have e : (x.natAbs : Int) = if x < 0 then -x else x := by split <;> omega
    rw [e]
    clear e hx
    walk_at "ev"
abbrev s_span : Stmt := top 17
abbrev N_span : List Str := ["one", "other"]
def Sp_span (g : List D → Option R) : Prop := ∀ p q : Pt, Sm q → g [eP p, eP q] = some (.c (.int (sp p q)))
theorem sc_span : FnScope N_span ["one", "other"] (defScope s_span) := ⟨rfl, rfl, rfl, by decide +kernel, rfl, by decide +kernel, by decide +kernel⟩
set_option maxHeartbeats 4000000 in
theorem ok_span (T : Txt K mg C_BodyError C_BadSticks C_BadPoint C_BadTimes C_BadMany C_BadCut C_BadThree C_BadPlaces C_BadStick) (F : FunG K mg "span" s_span ["one", "other"]) : ∃ g, Cal P w K mg base "span" 1 ["one", "other"] g ∧ Sp_span g := by
  refine cal_ex F sc_span (fun f cdv A outer s H E hr => (@m_sone _ _ _ _ (m_ret (m_op op_sub s_sub (m_op op_mulB s_mul (m_ix (m_var (pv 0)) m_int) (m_ix (m_var (pv 1)) m_int)) (m_op op_mulB s_mul (m_ix (m_var (pv 0)) m_int) (m_ix (m_var (pv 1)) m_int)))))) ?_
  intro p q hq
  refine runD_eq (r := .c (.int (sp p q))) ?_
  have h1 : mulOk p.1 q.2 = true := mul_r hq.2
  have h2 : mulOk p.2 q.1 = true := mul_r hq.1
  walk_at "ev"
  rfl
abbrev s_stands : Stmt := top 18
abbrev N_stands : List Str := ["stick"]
def Sp_stands (g : List D → Option R) : Prop := ∀ p : Pt, g [eP p] = some (.c (.bool (std p)))
theorem sc_stands : FnScope N_stands ["stick"] (defScope s_stands) := ⟨rfl, rfl, rfl, by decide +kernel, rfl, by decide +kernel, by decide +kernel⟩
set_option maxHeartbeats 4000000 in
theorem ok_stands (T : Txt K mg C_BodyError C_BadSticks C_BadPoint C_BadTimes C_BadMany C_BadCut C_BadThree C_BadPlaces C_BadStick) (F : FunG K mg "stands" s_stands ["stick"]) : ∃ g, Cal P w K mg base "stands" 1 ["stick"] g ∧ Sp_stands g := by
  refine cal_ex F sc_stands (fun f cdv A outer s H E hr => (@m_sone _ _ _ _ (m_ret (m_or (m_cmp op_gt s_gt (m_ix (m_var (pv 0)) m_int) m_int (nomark _)) (m_one (m_and (m_cmp (op_eqD hr.units) s_eq (m_ix (m_var (pv 0)) m_int) m_int (nomark _)) (m_one (m_cmp op_gt s_gt (m_ix (m_var (pv 0)) m_int) m_int (nomark _))))))))) ?_
  intro p
  refine runD_eq (r := .c (.bool (std p))) ?_
  walk_at "ev"
  unfold std
  by_cases h1 : 0 < p.2 <;> by_cases h2 : p.2 = 0 <;> simp [h1, h2, Rup_c]
abbrev s_put_together : Stmt := top 19
abbrev N_put_together : List Str := ["one", "other"]
def Sp_put_together (g : List D → Option R) : Prop := ∀ p q : Pt, g [eP p, eP q] = some (.c (eP (ad p q)))
theorem sc_put_together : FnScope N_put_together ["one", "other"] (defScope s_put_together) := ⟨rfl, rfl, rfl, by decide +kernel, rfl, by decide +kernel, by decide +kernel⟩
set_option maxHeartbeats 4000000 in
theorem ok_put_together (T : Txt K mg C_BodyError C_BadSticks C_BadPoint C_BadTimes C_BadMany C_BadCut C_BadThree C_BadPlaces C_BadStick) (F : FunG K mg "put_together" s_put_together ["one", "other"]) : ∃ g, Cal P w K mg base "put_together" 1 ["one", "other"] g ∧ Sp_put_together g := by
  refine cal_ex F sc_put_together (fun f cdv A outer s H E hr => (@m_sone _ _ _ _ (m_ret (m_tup (m_an2 (m_op op_addG s_add (m_ix (m_var (pv 0)) m_int) (m_ix (m_var (pv 1)) m_int)) (m_op op_addG s_add (m_ix (m_var (pv 0)) m_int) (m_ix (m_var (pv 1)) m_int))))))) ?_
  intro p q
  refine runD_eq (r := .c (eP (ad p q))) ?_
  walk_at "ev"
  rfl
abbrev s_taken_back : Stmt := top 20
abbrev N_taken_back : List Str := ["one", "other"]
def Sp_taken_back (g : List D → Option R) : Prop := ∀ p q : Pt, g [eP p, eP q] = some (.c (eP (sb p q)))
theorem sc_taken_back : FnScope N_taken_back ["one", "other"] (defScope s_taken_back) := ⟨rfl, rfl, rfl, by decide +kernel, rfl, by decide +kernel, by decide +kernel⟩
set_option maxHeartbeats 4000000 in
theorem ok_taken_back (T : Txt K mg C_BodyError C_BadSticks C_BadPoint C_BadTimes C_BadMany C_BadCut C_BadThree C_BadPlaces C_BadStick) (F : FunG K mg "taken_back" s_taken_back ["one", "other"]) : ∃ g, Cal P w K mg base "taken_back" 1 ["one", "other"] g ∧ Sp_taken_back g := by
  refine cal_ex F sc_taken_back (fun f cdv A outer s H E hr => (@m_sone _ _ _ _ (m_ret (m_tup (m_an2 (m_op op_sub s_sub (m_ix (m_var (pv 0)) m_int) (m_ix (m_var (pv 1)) m_int)) (m_op op_sub s_sub (m_ix (m_var (pv 0)) m_int) (m_ix (m_var (pv 1)) m_int))))))) ?_
  intro p q
  refine runD_eq (r := .c (eP (sb p q))) ?_
  walk_at "ev"
  rfl
abbrev s_twos : Stmt := top 24
abbrev N_twos : List Str := ["many", "i", "j"]
def Sp_twos (g : List D → Option R) : Prop := ∀ n : Nat, n ≤ 6 → g [.int n] = some (.o ((pairs n).map enc2))
theorem sc_twos : FnScope N_twos ["many"] (defScope s_twos) := ⟨rfl, rfl, rfl, by decide +kernel, rfl, by decide +kernel, by decide +kernel⟩
set_option maxHeartbeats 4000000 in
theorem ok_twos (T : Txt K mg C_BodyError C_BadSticks C_BadPoint C_BadTimes C_BadMany C_BadCut C_BadThree C_BadPlaces C_BadStick) (F : FunG K mg "twos" s_twos ["many"]) : ∃ g, Cal P w K mg base "twos" 1 ["many"] g ∧ Sp_twos g := by
  refine cal_ex F sc_twos (fun f cdv A outer s H E hr => (@m_sone _ _ _ _ (m_ret (m_lc2 (own := [("i", 1), ("j", 2)]) rfl sc_twos.nd (tg1 1) (tg1 2) (by decide) (by decide) (m_irange1 T.b_range (m_acons1 (m_var (pv 0)) m_anil)) (blkOk_by (own := [("i", 1), ("j", 2)]) (N := N_twos) (sc := defScope s_twos) (by decide +kernel)) (fun _ _ _ _ _ => (pg_name (i := 1) sc_twos.nd rfl (by first | exact Or.inl rfl | exact Or.inr rfl))) (fun _ _ _ _ _ => m_pts0) (fun _ _ _ _ _ => (m_irange2 T.b_range (m_an2 (m_op op_addG s_add (m_var (pv 1)) m_int) (m_var (pv 0))))) (fun _ _ _ _ _ => (pg_name (i := 2) sc_twos.nd rfl (by first | exact Or.inl rfl | exact Or.inr rfl))) (fun _ _ _ _ _ => m_pts0) (fun _ _ _ _ _ => (m_lst (m_an2 (m_var (pv 1)) (m_var (pv 2))))))))) ?_
  intro n hn
  refine runD_to ?_
  refine ⟨_, mRet_eq (r := .o ((pairs n).map enc2)) ?_, _, rfl, rfl⟩
  have hr : mIR1 (mCons (mVar 0) mNil) (startE N_twos [.int n]) = some (true, (List.range n).map fun (i : Nat) => D.int (0 + (i : Int))) := by
    refine (mIR1_eq (j := n) (by walk_at "ev" <;> rfl) (by unfold big62; apply decide_eq_true; omega)).trans ?_
    rw [Int.toNat_natCast]
  have key : ∀ me mi1, (∀ i ∈ List.range n, mIn [2] pick1 mi1 mYes me (setAllE (wipeE (startE N_twos [.int n]) [1, 2]) [1] [D.int (0 + (i : Int))]) = some ((List.range (n - (i + 1))).map fun k => enc2 (i, i + 1 + k))) → mLc22 [1, 2] [1] pick1 (mIR1 (mCons (mVar 0) mNil)) mYes [2] pick1 mi1 mYes me (startE N_twos [.int n]) = some (.o ((pairs n).map enc2)) := by
    intro me mi1 h
    unfold mLc22
    rw [hr]
    show (lc2D [1] pick1 true mYes (mIn [2] pick1 mi1 mYes me) (wipeE (startE N_twos [.int n]) [1, 2]) ((List.range n).map fun (i : Nat) => D.int (0 + (i : Int)))).bind _ = _
    rw [lc2D_map (b := fun _ => true) (qs := fun (i : Nat) => [D.int (0 + (i : Int))]) (y := fun i => (List.range (n - (i + 1))).map fun k => enc2 (i, i + 1 + k)) (List.range n) fun i hi => ⟨rfl, rfl, fun _ => h i hi⟩, filter_true]
    rw [pairs_enc]
    show (if ((pairs n).map enc2).length ≤ lim then _ else none) = _
    rw [if_pos (by rw [List.length_map]; exact Nat.le_trans (pairs_len n hn) (by decide))]
  refine key _ _ fun i hi => ?_
  have hi := List.mem_range.mp hi
  unfold mIn
  have hr2 : mIR2 (mCons (mOp gAdd (mVar 1) (mC (D.int 1))) (mCons (mVar 0) mNil)) (setAllE (wipeE (startE N_twos [.int n]) [1, 2]) [1] [D.int (0 + (i : Int))]) = some (true, (List.range (n - (i + 1))).map fun (k : Nat) => D.int ((0 + (i : Int) + 1) + (k : Int))) := by
    refine (mIR2_eq (lo := 0 + (i : Int) + 1) (hi := n) (by walk_at "ev" <;> rfl) (by unfold big62; apply decide_eq_true; omega) (by unfold big62; apply decide_eq_true; omega)).trans ?_
    rw [show ((n : Int) - (0 + (i : Int) + 1)).toNat = n - (i + 1) by omega]
  rw [hr2]
  show lcD [2] pick1 true _ _ _ _ = _
  rw [lcD_map (b := fun _ => true) (y := fun k => enc2 (i, i + 1 + k)) (qs := fun (k : Nat) => [D.int ((0 + (i : Int) + 1) + (k : Int))]) (List.range (n - (i + 1))) fun k hk => ⟨rfl, rfl, rfl, fun _ => ⟨.o [.int i, .int ((i + 1 + k : Nat) : Int)], ?_, Rpro_o _⟩⟩, filter_true]
  have e : (0 + (i : Int) + 1 + (k : Int)) = ((i + 1 + k : Nat) : Int) := by omega
  rw [e]
  walk_at "ev" <;> rfl
abbrev s_are_near : Stmt := top 25
abbrev N_are_near : List Str := ["value", "pair"]
def Sp_are_near (g : List D → Option R) : Prop := ∀ d : D, plL d = true → g [d] = some (.c (.bool (arNrD d)))
theorem sc_are_near : FnScope N_are_near ["value"] (defScope s_are_near) := ⟨rfl, rfl, rfl, by decide +kernel, rfl, by decide +kernel, by decide +kernel⟩
set_option maxHeartbeats 4000000 in
theorem ok_are_near (T : Txt K mg C_BodyError C_BadSticks C_BadPoint C_BadTimes C_BadMany C_BadCut C_BadThree C_BadPlaces C_BadStick) (F : FunG K mg "are_near" s_are_near ["value"]) {g_is_near : List D → Option R} (C_is_near : Cal P w K mg base "is_near" 3 ["value"] g_is_near) (H_is_near : Sp_is_near g_is_near) : ∃ g, Cal P w K mg base "are_near" 4 ["value"] g ∧ Sp_are_near g := by
  refine cal_ex F sc_are_near (fun f cdv A outer s H E hr => (@m_cons _ _ _ _ _ _ (m_if (PW.pt (m_wor (m_tnot (m_tval (m_isi .list T.b_isinstance T.b_list (m_var (pv 0))))) (m_wor1 (m_tnot (m_tchain op_le s_le op_le s_le m_int (m_callB call_len_seq s_len T.b_len (m_acons1 (m_var (pv 0)) m_anil)) (m_gint T.c_MOST_STICKS))))))
    (@m_sone _ _ _ _ (m_ret m_bl))
    m_snil)
    (@m_sone _ _ _ _ (m_ret (m_callB (cr_all rfl) s_all T.b_all (m_acons1 (m_lc (own := [("pair", 1)]) rfl sc_are_near.nd (tg1 1) (m_ilist (m_var (pv 0))) (blkOk_by (own := [("pair", 1)]) (N := N_are_near) (sc := defScope s_are_near) (by decide +kernel)) (fun _ _ _ _ _ => (pg_name (i := 1) sc_are_near.nd rfl (by first | exact Or.inl rfl | exact Or.inr rfl))) (fun _ _ _ _ _ => m_pts0) (fun _ _ _ _ _ => (m_callC C_is_near (hr.mono (by decide)) (m_acons1 (m_var (pv 1)) m_anil)))) m_anil)))))) ?_
  intro d hd
  cases d with
  | list l =>
    by_cases hl : 1 ≤ l.length ∧ l.length ≤ 6
    · refine runD_to ?_
      have h4 : (1 : Int) ≤ l.length := by omega
      have h5 : (l.length : Int) ≤ 6 := by omega
      refine ⟨.rt (.c (.bool (arNrD (.list l)))), ?_, _, rfl, rfl⟩
      refine (mSeq_nx (E1 := [some (Sl.v (D.list l)), none]) ((mIfS_f (mTOr_f (mTNot_eq (mB_eq (k := true) rfl)) (mTNot_eq (k := true) ?_))).trans rfl)).trans ?_
      · walk_at "ev"
      · refine (mRet_eq (r := .c (.bool (arNrD (.list l)))) ((mCl1 (r := .o (l.map fun d => D.bool (nearD d))) ?_).trans ?_)).trans rfl
        · refine (mLcG (l := l) (enc := fun d => d) (qs := fun d => [d]) (b := fun _ => true) (y := fun d => .bool (nearD d)) (c := true) ?_ (Nat.le_trans hl.2 (by decide)) fun d hdm => ⟨rfl, rfl, rfl, fun _ => ⟨.c (.bool (nearD d)), ?_, rfl⟩⟩).trans (by rw [filter_true])
          · rw [List.map_id']
            exact mIL_c l rfl
          · exact mCall1 (r := .c d) rfl rfl (H_is_near d (by unfold plL at hd; exact List.all_eq_true.mp hd d hdm))
        · rw [all_f]
          rw [arNrD_list, decide_eq_true hl.1, decide_eq_true hl.2]
          rfl
    · have e : arNrD (.list l) = false := by
        rw [arNrD_list]
        by_cases h1 : 1 ≤ l.length
        · rw [decide_eq_false (p := l.length ≤ 6) (fun z => hl ⟨h1, z⟩)]; simp
        · rw [decide_eq_false h1]; simp
      rw [e]
      refine runD_to ⟨.rt (.c (.bool false)), ?_, _, rfl, rfl⟩
      refine (mSeq_rt (r := .c (.bool false)) ((mIfS_t ?_).trans (mRet_eq (r := .c (.bool false)) rfl)))
      have h4 : ¬ ((1 : Int) ≤ l.length ∧ (l.length : Int) ≤ 6) := by omega
      rw [mTOr_f (mTNot_eq (mB_eq (k := true) rfl)) (k := true)]
      by_cases h1 : (1 : Int) ≤ l.length
      · have h6 : ¬ (l.length : Int) ≤ 6 := fun z => h4 ⟨h1, z⟩
        walk_at "ev"
      · walk_at "ev"
  | obj _ _ _ => cases hd
  | fn _ => cases hd
  | exc _ _ => cases hd
  | _ => exact runD_eq (r := .c (.bool false)) rfl
abbrev s_are_rows : Stmt := top 26
abbrev N_are_rows : List Str := ["value"]
def Sp_are_rows (g : List D → Option R) : Prop := ∀ d : D, BadR d → g [d] = some (.c (.bool false))
theorem sc_are_rows : FnScope N_are_rows ["value"] (defScope s_are_rows) := ⟨rfl, rfl, rfl, by decide +kernel, rfl, by decide +kernel, by decide +kernel⟩
set_option maxHeartbeats 4000000 in
theorem ok_are_rows (T : Txt K mg C_BodyError C_BadSticks C_BadPoint C_BadTimes C_BadMany C_BadCut C_BadThree C_BadPlaces C_BadStick) (F : FunG K mg "are_rows" s_are_rows ["value"]) {g_are_near : List D → Option R} (C_are_near : Cal P w K mg base "are_near" 4 ["value"] g_are_near) (H_are_near : Sp_are_near g_are_near) : ∃ g, Cal P w K mg base "are_rows" 5 ["value"] g ∧ Sp_are_rows g := by
  refine cal_ex F sc_are_rows (fun f cdv A outer s H E hr => (@m_sone _ _ _ _ (m_ret (m_and (m_callC C_are_near (hr.mono (by decide)) (m_acons1 (m_var (pv 0)) m_anil)) (m_one (m_cmp (op_notInD hr.u1) s_in (m_tup (m_an2 m_int m_int)) (m_var (pv 0)) (by rfl))))))) ?_
  intro d hd
  refine runD_to ⟨_, mRet_eq (r := .c (.bool false)) ?_, _, rfl, rfl⟩
  rcases hd with ⟨h1, h2⟩ | rfl | rfl
  · have h := H_are_near d h1
    rw [h2] at h
    exact mAndV_f (mCall1 (r := .c d) rfl rfl h)
  · exact mAndV_t (mCall1 (r := .c (.list [eP (0, 0)])) rfl rfl (H_are_near _ rfl)) rfl
  · exact mAndV_t (mCall1 (r := .c (.list [eP (1, 1), eP (0, 0)])) rfl rfl (H_are_near _ rfl)) rfl
abbrev s_are_sticks : Stmt := top 27
abbrev N_are_sticks : List Str := ["value", "stick", "at"]
def Sp_are_sticks (g : List D → Option R) : Prop := (∀ ss : List Pt, 1 ≤ ss.length → ss.length ≤ 6 → (∀ s ∈ ss, near s = true) → g [.list (ss.map eP)] = some (.c (.bool (stkB ss)))) ∧ ∀ d : D, plL d = true → arNrD d = false → g [d] = some (.c (.bool false))
theorem sc_are_sticks : FnScope N_are_sticks ["value"] (defScope s_are_sticks) := ⟨rfl, rfl, rfl, by decide +kernel, rfl, by decide +kernel, by decide +kernel⟩
set_option maxHeartbeats 4000000 in
theorem ok_are_sticks (T : Txt K mg C_BodyError C_BadSticks C_BadPoint C_BadTimes C_BadMany C_BadCut C_BadThree C_BadPlaces C_BadStick) (F : FunG K mg "are_sticks" s_are_sticks ["value"]) {g_span : List D → Option R} (C_span : Cal P w K mg base "span" 1 ["one", "other"] g_span) (H_span : Sp_span g_span) {g_stands : List D → Option R} (C_stands : Cal P w K mg base "stands" 1 ["stick"] g_stands) (H_stands : Sp_stands g_stands) {g_are_near : List D → Option R} (C_are_near : Cal P w K mg base "are_near" 4 ["value"] g_are_near) (H_are_near : Sp_are_near g_are_near) : ∃ g, Cal P w K mg base "are_sticks" 5 ["value"] g ∧ Sp_are_sticks g := by
  refine cal_ex F sc_are_sticks (fun f cdv A outer s H E hr => (@m_cons _ _ _ _ _ _ (m_if (PW.pt (m_wor (m_tnot (m_tval (m_callC C_are_near (hr.mono (by decide)) (m_acons1 (m_var (pv 0)) m_anil)))) (m_wor1 (m_tnot (m_tval (m_callB (cr_all rfl) s_all T.b_all (m_acons1 (m_lc (own := [("stick", 1)]) rfl sc_are_sticks.nd (tg1 1) (m_ilist (m_var (pv 0))) (blkOk_by (own := [("stick", 1)]) (N := N_are_sticks) (sc := defScope s_are_sticks) (by decide +kernel)) (fun _ _ _ _ _ => (pg_name (i := 1) sc_are_sticks.nd rfl (by first | exact Or.inl rfl | exact Or.inr rfl))) (fun _ _ _ _ _ => m_pts0) (fun _ _ _ _ _ => (m_callC C_stands (hr.mono (by decide)) (m_acons1 (m_var (pv 1)) m_anil)))) m_anil)))))))
    (@m_sone _ _ _ _ (m_ret m_bl))
    m_snil)
    (@m_sone _ _ _ _ (m_ret (m_callB (cr_all rfl) s_all T.b_all (m_acons1 (m_lc (own := [("at", 2)]) rfl sc_are_sticks.nd (tg1 2) (m_irange2 T.b_range (m_an2 m_int (m_callB call_len_seq s_len T.b_len (m_acons1 (m_var (pv 0)) m_anil)))) (blkOk_by (own := [("at", 2)]) (N := N_are_sticks) (sc := defScope s_are_sticks) (by decide +kernel)) (fun _ _ _ _ _ => (pg_name (i := 2) sc_are_sticks.nd rfl (by first | exact Or.inl rfl | exact Or.inr rfl))) (fun _ _ _ _ _ => m_pts0) (fun _ _ _ _ _ => (m_cmp op_gt s_gt (m_callC C_span (hr.mono (by decide)) (m_an2 (m_ix (m_var (pv 0)) (m_op op_sub s_sub (m_var (pv 2)) m_int)) (m_ix (m_var (pv 0)) (m_var (pv 2))))) m_int (nomark _)))) m_anil)))))) ?_
  refine ⟨fun ss hl1 hl6 hn => ?_, fun d h1 h2 => ?_⟩
  · obtain ⟨p1, p2⟩ := nr_list hl1 hl6 hn
    have h1 := H_are_near (.list (ss.map eP)) p1
    rw [p2] at h1
    have hlim : ss.length ≤ lim := Nat.le_trans hl6 (by decide)
    refine runD_to ?_
    have a1 : mCl gAll (mCons (mLc [1] pick1 (mIL (mVar 0)) mYes (mCall 1 g_stands (mCons (mVar 1) mNil))) mNil) [some (Sl.v (D.list (ss.map eP))), none, none] = some (.c (.bool (ss.all std))) :=
      mAllG (l := ss) (enc := eP) (qs := fun s => [eP s]) (c := true) std rfl hlim fun s hs => ⟨rfl, rfl, mCall1 (r := .c (eP s)) rfl rfl (H_stands s)⟩
    have a0 : mB (mCall 1 g_are_near (mCons (mVar 0) mNil)) [some (Sl.v (D.list (ss.map eP))), none, none] = some true := mB_eq (mCall1 (r := .c (.list (ss.map eP))) rfl rfl h1)
    cases hs : ss.all std with
    | false =>
      rw [hs] at a1
      have e : stkB ss = false := by unfold stkB; rw [hs]; rfl
      rw [e]
      exact ⟨.rt (.c (.bool false)), mSeq_rt ((mIfS_t (mTOr_f (mTNot_eq a0) (mTNot_eq (mB_eq a1)))).trans (mRet_eq (r := .c (.bool false)) rfl)), _, rfl, rfl⟩
    | true =>
      rw [hs] at a1
      refine ⟨.rt (.c (.bool (stkB ss))), (mSeq_nx (E1 := [some (Sl.v (D.list (ss.map eP))), none, none]) ((mIfS_f (mTOr_f (mTNot_eq a0) (mTNot_eq (mB_eq a1)))).trans rfl)).trans ?_, _, rfl, rfl⟩
      have hr : mIR2 (mCons (mC (D.int 1)) (mCons (mCl gLen (mCons (mVar 0) mNil)) mNil)) [some (Sl.v (D.list (ss.map eP))), none, none] = some (true, (List.range (ss.length - 1)).map fun (i : Nat) => D.int (1 + (i : Int))) := by
        refine (mIR2_eq (lo := 1) (hi := ss.length) (by walk_at "ev") (by unfold big62; apply decide_eq_true; omega) (by unfold big62; apply decide_eq_true; omega)).trans ?_
        rw [show ((ss.length : Int) - 1).toNat = ss.length - 1 by omega]
      have e : stkB ss = (List.range (ss.length - 1)).all fun i => decide (0 < sp (ss.getD i (0, 0)) (ss.getD (i + 1) (0, 0))) := by unfold stkB; rw [hs]; rfl
      rw [e]
      refine mRet_eq (r := .c (.bool _)) (mAllG (l := List.range (ss.length - 1)) (enc := fun (i : Nat) => D.int (1 + (i : Int))) (qs := fun i => [D.int (1 + (i : Int))]) (c := true) (fun i => decide (0 < sp (ss.getD i (0, 0)) (ss.getD (i + 1) (0, 0)))) hr (by rw [List.length_range]; omega) fun k hk => ⟨rfl, rfl, ?_⟩)
      have hk1 : k + 1 < ss.length := by have := List.mem_range.mp hk; omega
      have i1 := ix_Lc ss (k := (1 + (k : Int)) - 1) (j := k) (by omega) (List.getElem?_eq_getElem (show k < ss.length by omega))
      have i2 := ix_Lc ss (k := 1 + (k : Int)) (j := k + 1) (by omega) (List.getElem?_eq_getElem hk1)
      have hsp := H_span ss[k] ss[k + 1] (near_sm (hn _ (List.getElem_mem hk1)))
      have e1 : ss.getD k (0, 0) = ss[k] := by rw [List.getD_eq_getElem?_getD, List.getElem?_eq_getElem (show k < ss.length by omega)]; rfl
      have e2 : ss.getD (k + 1) (0, 0) = ss[k + 1] := by rw [List.getD_eq_getElem?_getD, List.getElem?_eq_getElem hk1]; rfl
      rw [e1, e2]
      clear e1 e2
      generalize ss[k] = a at *
      generalize ss[k + 1] = b at *
      refine (mOp_eq (x := .c (.int (sp a b))) (y := .c (.int 0)) (mCall2 (x := .c (eP a)) (y := .c (eP b)) ((mOp_eq (x := .c (.list (ss.map eP))) (y := .c (.int (1 + (k : Int) - 1))) rfl rfl).trans i1) ((mOp_eq (x := .c (.list (ss.map eP))) (y := .c (.int (1 + (k : Int)))) rfl rfl).trans i2) rfl rfl hsp) rfl).trans rfl
  · have h := H_are_near d h1
    rw [h2] at h
    exact runD_to ⟨.rt (.c (.bool false)), mSeq_rt ((mIfS_t (mTOr_t (mTNot_eq (mB_eq (mCall1 (r := .c d) rfl rfl h))))).trans (mRet_eq (r := .c (.bool false)) rfl)), _, rfl, rfl⟩
abbrev s_check_sticks : Stmt := top 28
abbrev N_check_sticks : List Str := ["value"]
def Sp_check_sticks (g : List D → Option R) : Prop := ∀ ss : List Pt, SOk ss → g [.list (ss.map eP)] = some (.c .none)
theorem sc_check_sticks : FnScope N_check_sticks ["value"] (defScope s_check_sticks) := ⟨rfl, rfl, rfl, by decide +kernel, rfl, by decide +kernel, by decide +kernel⟩
set_option maxHeartbeats 4000000 in
theorem ok_check_sticks (T : Txt K mg C_BodyError C_BadSticks C_BadPoint C_BadTimes C_BadMany C_BadCut C_BadThree C_BadPlaces C_BadStick) (F : FunG K mg "check_sticks" s_check_sticks ["value"]) {g_are_sticks : List D → Option R} (C_are_sticks : Cal P w K mg base "are_sticks" 5 ["value"] g_are_sticks) (H_are_sticks : Sp_are_sticks g_are_sticks) : ∃ g, Cal P w K mg base "check_sticks" 6 ["value"] g ∧ Sp_check_sticks g := by
  refine cal_exN F sc_check_sticks (fun f cdv A outer s H E hr => (@m_sone _ _ _ _ (m_if (m_tnot (m_tval (m_callC C_are_sticks (hr.mono (by decide)) (m_acons1 (m_var (pv 0)) m_anil))))
    (@m_sone _ _ _ _ m_never)
    m_snil))) ?_
  intro ss h
  have h1 := (bad_sticks H_are_sticks).2 ss h
  exact runN_nx (by walk_at "ev" <;> rfl)
def Sp_X_check_sticks (C_BodyError C_BadSticks C_BadPoint C_BadTimes C_BadMany C_BadCut C_BadThree C_BadPlaces C_BadStick : Addr) (g : List D → Option Addr) : Prop := (∀ d : D, BadS d → g [d] = some C_BadSticks) ∧ ∀ ss : List Pt, SOk ss → g [.list (ss.map eP)] = none
set_option maxHeartbeats 4000000 in
theorem ok_X_check_sticks (T : Txt K mg C_BodyError C_BadSticks C_BadPoint C_BadTimes C_BadMany C_BadCut C_BadThree C_BadPlaces C_BadStick) (F : FunG K mg "check_sticks" s_check_sticks ["value"]) {g_are_sticks : List D → Option R} (C_are_sticks : Cal P w K mg base "are_sticks" 5 ["value"] g_are_sticks) (H_are_sticks : Sp_are_sticks g_are_sticks) : ∃ g, CalX P w K mg base "check_sticks" 6 ["value"] g ∧ Sp_X_check_sticks C_BodyError C_BadSticks C_BadPoint C_BadTimes C_BadMany C_BadCut C_BadThree C_BadPlaces C_BadStick g := by
  refine cal_exX F sc_check_sticks (fun f cdv A outer s H E hr => (x_one (x_if (m_tnot (m_tval (m_callC C_are_sticks (hr.mono (by decide)) (m_acons1 (m_var (pv 0)) m_anil))))
    (x_one (x_raise T.xc_BadSticks T.mc_BadSticks (m_acons1 m_str m_anil)))
    x_nil))) ?_
  refine ⟨fun d hd => ?_, fun ss h => ?_⟩
  · exact nIf_t (mTNot_eq (mB_eq (mCall1 (r := .c d) rfl rfl ((bad_sticks H_are_sticks).1 d hd)))) (nRaise_eq (rs := [.c (.str _)]) rfl (show 1 ≤ 9 by decide))
  · exact nIf_f (mTNot_eq (mB_eq (mCall1 (r := .c (.list (ss.map eP))) rfl rfl ((bad_sticks H_are_sticks).2 ss h)))) rfl
abbrev s_check_point : Stmt := top 29
abbrev N_check_point : List Str := ["value"]
def Sp_X_check_point (C_BodyError C_BadSticks C_BadPoint C_BadTimes C_BadMany C_BadCut C_BadThree C_BadPlaces C_BadStick : Addr) (g : List D → Option Addr) : Prop := ∀ d : D, BadP d → g [d] = some C_BadPoint
theorem sc_check_point : FnScope N_check_point ["value"] (defScope s_check_point) := ⟨rfl, rfl, rfl, by decide +kernel, rfl, by decide +kernel, by decide +kernel⟩
set_option maxHeartbeats 4000000 in
theorem ok_X_check_point (T : Txt K mg C_BodyError C_BadSticks C_BadPoint C_BadTimes C_BadMany C_BadCut C_BadThree C_BadPlaces C_BadStick) (F : FunG K mg "check_point" s_check_point ["value"]) {g_is_point : List D → Option R} (C_is_point : Cal P w K mg base "is_point" 2 ["value"] g_is_point) (H_is_point : Sp_is_point g_is_point) : ∃ g, CalX P w K mg base "check_point" 3 ["value"] g ∧ Sp_X_check_point C_BodyError C_BadSticks C_BadPoint C_BadTimes C_BadMany C_BadCut C_BadThree C_BadPlaces C_BadStick g := by
  refine cal_exX F sc_check_point (fun f cdv A outer s H E hr => (x_one (x_if (m_tnot (m_tval (m_callC C_is_point (hr.mono (by decide)) (m_acons1 (m_var (pv 0)) m_anil))))
    (x_one (x_raise T.xc_BadPoint T.mc_BadPoint (m_acons1 m_str m_anil)))
    x_nil))) ?_
  intro d ⟨h1, h2⟩
  have h := H_is_point d h1
  rw [h2] at h
  exact nIf_t (mTNot_eq (mB_eq (mCall1 (r := .c d) rfl rfl h))) (nRaise_eq (rs := [.c (.str _)]) rfl (show 1 ≤ 9 by decide))
abbrev s_gathered : Stmt := top 32
abbrev N_gathered : List Str := ["rows", "sticks", "moved", "row"]
def Sp_X_gathered (C_BodyError C_BadSticks C_BadPoint C_BadTimes C_BadMany C_BadCut C_BadThree C_BadPlaces C_BadStick : Addr) (g : List D → Option Addr) : Prop := ∀ d : D, BadR d → g [d] = some C_BadSticks
theorem sc_gathered : FnScope N_gathered ["rows"] (defScope s_gathered) := ⟨rfl, rfl, rfl, by decide +kernel, rfl, by decide +kernel, by decide +kernel⟩
set_option maxHeartbeats 4000000 in
theorem ok_X_gathered (T : Txt K mg C_BodyError C_BadSticks C_BadPoint C_BadTimes C_BadMany C_BadCut C_BadThree C_BadPlaces C_BadStick) (F : FunG K mg "gathered" s_gathered ["rows"]) {g_are_rows : List D → Option R} (C_are_rows : Cal P w K mg base "are_rows" 5 ["value"] g_are_rows) (H_are_rows : Sp_are_rows g_are_rows) : ∃ g, CalX P w K mg base "gathered" 6 ["rows"] g ∧ Sp_X_gathered C_BodyError C_BadSticks C_BadPoint C_BadTimes C_BadMany C_BadCut C_BadThree C_BadPlaces C_BadStick g := by
  refine cal_exX F sc_gathered (fun f cdv A outer s H E hr => (x_cons (x_if (m_tnot (m_tval (m_callC C_are_rows (hr.mono (by decide)) (m_acons1 (m_var (pv 0)) m_anil))))
    (x_one (x_raise T.xc_BadSticks T.mc_BadSticks (m_acons1 m_str m_anil)))
    x_nil) m_never
    x_nil)) ?_
  intro d hd
  exact nAlt_x (nIf_t (mTNot_eq (mB_eq (mCall1 (r := .c d) rfl rfl (H_are_rows d hd)))) (nRaise_eq (rs := [.c (.str _)]) rfl (show 1 ≤ 9 by decide)))
abbrev s_covered : Stmt := top 35
abbrev N_covered : List Str := ["sticks", "i", "j"]
def Sp_covered (g : List D → Option R) : Prop := ∀ ss : List Pt, SOk ss → g [.list (ss.map eP)] = some (.c (.int (cov ss)))
theorem sc_covered : FnScope N_covered ["sticks"] (defScope s_covered) := ⟨rfl, rfl, rfl, by decide +kernel, rfl, by decide +kernel, by decide +kernel⟩
set_option maxHeartbeats 4000000 in
theorem ok_covered (T : Txt K mg C_BodyError C_BadSticks C_BadPoint C_BadTimes C_BadMany C_BadCut C_BadThree C_BadPlaces C_BadStick) (F : FunG K mg "covered" s_covered ["sticks"]) {g_twos : List D → Option R} (C_twos : Cal P w K mg base "twos" 1 ["many"] g_twos) (H_twos : Sp_twos g_twos) {g_span : List D → Option R} (C_span : Cal P w K mg base "span" 1 ["one", "other"] g_span) (H_span : Sp_span g_span) : ∃ g, Cal P w K mg base "covered" 2 ["sticks"] g ∧ Sp_covered g := by
  refine cal_ex F sc_covered (fun f cdv A outer s H E hr => (@m_sone _ _ _ _ (m_ret (m_callB (cr_sum rfl) s_sum T.b_sum (m_acons1 (m_lc (own := [("i", 1), ("j", 2)]) rfl sc_covered.nd (tgL [1, 2]) (m_ilist (m_callC C_twos (hr.mono (by decide)) (m_acons1 (m_callB call_len_seq s_len T.b_len (m_acons1 (m_var (pv 0)) m_anil)) m_anil))) (blkOk_by (own := [("i", 1), ("j", 2)]) (N := N_covered) (sc := defScope s_covered) (by decide +kernel)) (fun _ _ _ _ _ => (pg_lst rfl (pgs_cons (pg_name (i := 1) sc_covered.nd rfl (by first | exact Or.inl rfl | exact Or.inr rfl)) (pgs_cons (pg_name (i := 2) sc_covered.nd rfl (by first | exact Or.inl rfl | exact Or.inr rfl)) pgs_nil)))) (fun _ _ _ _ _ => m_pts0) (fun _ _ _ _ _ => (m_callC C_span (hr.mono (by decide)) (m_an2 (m_ix (m_var (pv 0)) (m_var (pv 1))) (m_ix (m_var (pv 0)) (m_var (pv 2))))))) m_anil))))) ?_
  intro ss h
  refine runD_to ?_
  have h2 := H_twos ss.length h.l6
  refine ⟨_, mRet_eq (r := .c (.int (cov ss))) ?_, _, rfl, rfl⟩
  rw [← cov_pairs]
  refine mSum_f (l := pairs ss.length) (enc := enc2) (qs := fun a => [.int (a.1 : Nat), .int (a.2 : Nat)]) (c := true) (fun a => sp (ss.getD a.1 (0, 0)) (ss.getD a.2 (0, 0))) (mIL_o _ (by walk_at "ev")) (Nat.le_trans (pairs_len _ h.l6) (by decide)) fun a ha => ⟨rfl, rfl, ?_⟩
  obtain ⟨a1, a2⟩ := pairs_mem ha
  have g1 : ss[a.1]? = some ss[a.1] := List.getElem?_eq_getElem (by omega)
  have g2 : ss[a.2]? = some ss[a.2] := List.getElem?_eq_getElem a2
  have i1 := ix_Lc ss (k := (a.1 : Int)) (j := a.1) rfl g1
  have i2 := ix_Lc ss (k := (a.2 : Int)) (j := a.2) rfl g2
  have hs := H_span ss[a.1] ss[a.2] (near_sm (h.nrs g2))
  have e1 : ss.getD a.1 (0, 0) = ss[a.1] := by rw [List.getD_eq_getElem?_getD, g1]; rfl
  have e2 : ss.getD a.2 (0, 0) = ss[a.2] := by rw [List.getD_eq_getElem?_getD, g2]; rfl
  rw [e1, e2]
  clear e1 e2 g1 g2
  generalize ss[a.1] = x at *
  generalize ss[a.2] = y at *
  walk_at "ev"
abbrev s_steps : Stmt := top 36
abbrev N_steps : List Str := ["sticks", "stick"]
def Sp_steps (g : List D → Option R) : Prop := ∀ ss : List Pt, SOk ss → g [.list (ss.map eP)] = some (.c (.int (gs ss)))
theorem sc_steps : FnScope N_steps ["sticks"] (defScope s_steps) := ⟨rfl, rfl, rfl, by decide +kernel, rfl, by decide +kernel, by decide +kernel⟩
set_option maxHeartbeats 4000000 in
theorem ok_steps (T : Txt K mg C_BodyError C_BadSticks C_BadPoint C_BadTimes C_BadMany C_BadCut C_BadThree C_BadPlaces C_BadStick) (F : FunG K mg "steps" s_steps ["sticks"]) {g_greatest_into : List D → Option R} (C_greatest_into : Cal P w K mg base "greatest_into" 1 ["one", "other"] g_greatest_into) (H_greatest_into : Sp_greatest_into g_greatest_into) : ∃ g, Cal P w K mg base "steps" 2 ["sticks"] g ∧ Sp_steps g := by
  refine cal_ex F sc_steps (fun f cdv A outer s H E hr => (@m_sone _ _ _ _ (m_ret (m_callB (cr_sum rfl) s_sum T.b_sum (m_acons1 (m_lc (own := [("stick", 1)]) rfl sc_steps.nd (tg1 1) (m_ilist (m_var (pv 0))) (blkOk_by (own := [("stick", 1)]) (N := N_steps) (sc := defScope s_steps) (by decide +kernel)) (fun _ _ _ _ _ => (pg_name (i := 1) sc_steps.nd rfl (by first | exact Or.inl rfl | exact Or.inr rfl))) (fun _ _ _ _ _ => m_pts0) (fun _ _ _ _ _ => (m_callC C_greatest_into (hr.mono (by decide)) (m_an2 (m_ix (m_var (pv 1)) m_int) (m_ix (m_var (pv 1)) m_int))))) m_anil))))) ?_
  intro ss h
  refine runD_to ?_
  refine ⟨_, mRet_eq (r := .c (.int (gs ss))) ?_, _, rfl, rfl⟩
  refine mSum_f (l := ss) (enc := eP) (qs := fun p => [eP p]) (c := true) (fun s => (Int.gcd s.1 s.2 : Int)) (mIL_c _ rfl) h.lim fun s hs => ⟨rfl, rfl, ?_⟩
  have h2 : 0 ≤ s.2 := by rcases h.sd s hs with q | ⟨q, _⟩ <;> omega
  have hg := H_greatest_into s.1 s.2.toNat
  rw [show ((s.2.toNat : Nat) : Int) = s.2 by omega] at hg
  exact mCall2 (x := .c (.int s.1)) (y := .c (.int s.2)) rfl rfl rfl rfl hg
abbrev s_check_times : Stmt := top 37
abbrev N_check_times : List Str := ["value"]
def Sp_check_times (g : List D → Option R) : Prop := ∀ t : Int, 0 ≤ t → g [.int t] = some (.c .none)
theorem sc_check_times : FnScope N_check_times ["value"] (defScope s_check_times) := ⟨rfl, rfl, rfl, by decide +kernel, rfl, by decide +kernel, by decide +kernel⟩
set_option maxHeartbeats 4000000 in
theorem ok_check_times (T : Txt K mg C_BodyError C_BadSticks C_BadPoint C_BadTimes C_BadMany C_BadCut C_BadThree C_BadPlaces C_BadStick) (F : FunG K mg "check_times" s_check_times ["value"]) {g_is_number : List D → Option R} (C_is_number : Cal P w K mg base "is_number" 1 ["value"] g_is_number) (H_is_number : Sp_is_number g_is_number) : ∃ g, Cal P w K mg base "check_times" 2 ["value"] g ∧ Sp_check_times g := by
  refine cal_exN F sc_check_times (fun f cdv A outer s H E hr => (@m_sone _ _ _ _ (m_if (PW.pt (m_wor (m_tnot (m_tval (m_callC C_is_number (hr.mono (by decide)) (m_acons1 (m_var (pv 0)) m_anil)))) (m_wor1 (m_tcmp op_lt s_lt (m_var (pv 0)) m_int (nomark _)))))
    (@m_sone _ _ _ _ m_never)
    m_snil))) ?_
  intro t ht
  have h : g_is_number [.int t] = some (.c (.bool true)) := H_is_number (.int t) rfl
  have h0 : ¬ t < 0 := by omega
  exact runN_nx (by walk_at "ev" <;> rfl)
def Sp_X_check_times (C_BodyError C_BadSticks C_BadPoint C_BadTimes C_BadMany C_BadCut C_BadThree C_BadPlaces C_BadStick : Addr) (g : List D → Option Addr) : Prop := ∀ d : D, BadT d → g [d] = some C_BadTimes
set_option maxHeartbeats 4000000 in
theorem ok_X_check_times (T : Txt K mg C_BodyError C_BadSticks C_BadPoint C_BadTimes C_BadMany C_BadCut C_BadThree C_BadPlaces C_BadStick) (F : FunG K mg "check_times" s_check_times ["value"]) {g_is_number : List D → Option R} (C_is_number : Cal P w K mg base "is_number" 1 ["value"] g_is_number) (H_is_number : Sp_is_number g_is_number) : ∃ g, CalX P w K mg base "check_times" 2 ["value"] g ∧ Sp_X_check_times C_BodyError C_BadSticks C_BadPoint C_BadTimes C_BadMany C_BadCut C_BadThree C_BadPlaces C_BadStick g := by
  refine cal_exX F sc_check_times (fun f cdv A outer s H E hr => (x_one (x_if (PW.pt (m_wor (m_tnot (m_tval (m_callC C_is_number (hr.mono (by decide)) (m_acons1 (m_var (pv 0)) m_anil)))) (m_wor1 (m_tcmp op_lt s_lt (m_var (pv 0)) m_int (nomark _)))))
    (x_one (x_raise T.xc_BadTimes T.mc_BadTimes (m_acons1 m_str m_anil)))
    x_nil))) ?_
  intro d ⟨h1, h2⟩
  have h := H_is_number d h1
  refine nIf_t ?_ (nRaise_eq (rs := [.c (.str _)]) rfl (show 1 ≤ 9 by decide))
  cases d with
  | int n =>
    have hn := h2 n rfl
    refine (mTOr_f (k := true) (mTNot_eq (mB_eq (mCall1 (r := .c (.int n)) rfl rfl h))) (mB_eq ((mOp_eq (x := .c (.int n)) (y := .c (.int 0)) rfl rfl).trans ?_)))
    show some (R.c (.bool (decide (n < 0)))) = _
    rw [decide_eq_true hn]
  | obj _ _ _ => cases h1
  | fn _ => cases h1
  | exc _ _ => cases h1
  | none => exact mTOr_t (mTNot_eq (mB_eq (mCall1 (r := .c .none) rfl rfl h)))
  | bool b => exact mTOr_t (mTNot_eq (mB_eq (mCall1 (r := .c (.bool b)) rfl rfl h)))
  | str x => exact mTOr_t (mTNot_eq (mB_eq (mCall1 (r := .c (.str x)) rfl rfl h)))
  | list l => exact mTOr_t (mTNot_eq (mB_eq (mCall1 (r := .c (.list l)) rfl rfl h)))
  | tuple l => exact mTOr_t (mTNot_eq (mB_eq (mCall1 (r := .c (.tuple l)) rfl rfl h)))
  | dict ks l => exact mTOr_t (mTNot_eq (mB_eq (mCall1 (r := .c (.dict ks l)) rfl rfl h)))
abbrev s_corners : Stmt := top 38
abbrev N_corners : List Str := ["sticks", "corner", "told", "stick"]
def Sp_corners (g : List D → Option R) : Prop := ∀ ss : List Pt, SOk ss → g [.list (ss.map eP)] = some (.o ((cor ss).map eP))
theorem sc_corners : FnScope N_corners ["sticks"] (defScope s_corners) := ⟨rfl, rfl, rfl, by decide +kernel, rfl, by decide +kernel, by decide +kernel⟩
set_option maxHeartbeats 4000000 in
theorem ok_corners (T : Txt K mg C_BodyError C_BadSticks C_BadPoint C_BadTimes C_BadMany C_BadCut C_BadThree C_BadPlaces C_BadStick) (F : FunG K mg "corners" s_corners ["sticks"]) {g_taken_back : List D → Option R} (C_taken_back : Cal P w K mg base "taken_back" 1 ["one", "other"] g_taken_back) (H_taken_back : Sp_taken_back g_taken_back) {g_put_together : List D → Option R} (C_put_together : Cal P w K mg base "put_together" 1 ["one", "other"] g_put_together) (H_put_together : Sp_put_together g_put_together) {g_check_sticks : List D → Option R} (C_check_sticks : Cal P w K mg base "check_sticks" 6 ["value"] g_check_sticks) (H_check_sticks : Sp_check_sticks g_check_sticks) : ∃ g, Cal P w K mg base "corners" 7 ["sticks"] g ∧ Sp_corners g := by
  refine cal_ex F sc_corners (fun f cdv A outer s H E hr => (@m_cons _ _ _ _ _ _ (m_expr (m_callC C_check_sticks (hr.mono (by decide)) (m_acons1 (m_var (pv 0)) m_anil)))
    (@m_cons _ _ _ _ _ _ (m_set (i := 1) sc_corners.nd (m_tup (m_an2 m_int m_int)))
    (@m_cons _ _ _ _ _ _ (m_seto (i := 2) sc_corners.nd (m_lst (m_acons1 (m_var (pv 1)) m_anil)))
    (@m_cons _ _ _ _ _ _ (m_for (tg1 3) PassesOwn.never rfl (m_ilist (m_var (pv 0))) (pg_name (i := 3) sc_corners.nd rfl (by first | exact Or.inl rfl | exact Or.inr rfl))
    (@m_cons _ _ _ _ _ _ (m_set (i := 1) sc_corners.nd (m_callC C_put_together (hr.mono (by decide)) (m_an2 (m_var (pv 1)) (m_var (pv 3)))))
    (@m_sone _ _ _ _ (m_append (pv 2) (m_acons1 (m_var (pv 1)) m_anil)))) fsi_N)
    (@m_cons _ _ _ _ _ _ (m_for (tg1 3) PassesOwn.never rfl (m_ilist (m_slice (m_var (pv 0)) m_ponone (m_posome (m_un un_neg s_neg m_int)))) (pg_name (i := 3) sc_corners.nd rfl (by first | exact Or.inl rfl | exact Or.inr rfl))
    (@m_cons _ _ _ _ _ _ (m_set (i := 1) sc_corners.nd (m_callC C_taken_back (hr.mono (by decide)) (m_an2 (m_var (pv 1)) (m_var (pv 3)))))
    (@m_sone _ _ _ _ (m_append (pv 2) (m_acons1 (m_var (pv 1)) m_anil)))))
    (@m_sone _ _ _ _ (m_reto (pv 2))))))))) ?_
  intro ss h
  refine runD_to ?_
  have h1 := H_check_sticks ss h
  refine mSeq_ex (P := fun E => E = [some (.v (.list (ss.map eP))), none, none, none]) ⟨_, by walk_at "ev" <;> rfl, rfl⟩ ?_
  rintro E rfl
  refine mSeq_ex (P := fun E => E = [some (.v (.list (ss.map eP))), some (.v (eP (0, 0))), none, none]) ⟨_, by walk_at "ev" <;> rfl, rfl⟩ ?_
  rintro E rfl
  refine mSeq_ex (P := fun E => E = [some (.v (.list (ss.map eP))), some (.v (eP (0, 0))), some (.t (Tr.fl ([(0, 0)].map eP))), none]) ⟨_, by walk_at "ev" <;> rfl, rfl⟩ ?_
  rintro E rfl
  refine mSeq_ex (mFor_ind (l := ss) (enc := eP) (fun pre E => ∃ j, E = [some (Sl.v (D.list (ss.map eP))), some (Sl.v (eP (sm2 pre))), some (.t (Tr.fl ((wkF (0, 0) pre ++ [sm2 pre]).map eP))), j]) rfl ⟨none, rfl⟩ ?_) ?_
  · rintro pre a E ha hl _ ⟨j, rfl⟩
    have e := H_put_together (sm2 pre) a
    have hp6 := h.l6
    refine mSeq_nxE (P := fun E => E = [some (Sl.v (D.list (ss.map eP))), some (Sl.v (eP (ad (sm2 pre) a))), some (.t (Tr.fl ((wkF (0, 0) pre ++ [sm2 pre]).map eP))), some (.v (eP a))]) ⟨_, by walk_at "ev" <;> rfl, rfl⟩ ?_
    rintro E rfl
    refine ⟨_, mApp_fl (l := (wkF (0, 0) pre ++ [sm2 pre]).map eP) (d := eP (ad (sm2 pre) a)) (rs := [.c (eP (ad (sm2 pre) a))]) rfl (by walk_at "ev") rfl (by rw [List.length_map, List.length_append, wkF_len]; exact Nat.lt_of_le_of_lt (show pre.length + 1 ≤ 6 by omega) (by decide)), ⟨some (.v (eP a)), ?_⟩⟩
    rw [sm2_snoc, wkF_snoc, zero_ad, List.map_append (l₂ := [ad (sm2 pre) a])]
    rfl
  rintro E ⟨j, rfl⟩
  have hne : ss ≠ [] := by intro hz; have := h.l1; rw [hz] at this; simp at this
  have hdl : cutD (ss.map eP) none (some (-1)) = ss.dropLast.map eP := by rw [cut_last, List.map_dropLast]
  refine mSeq_ex (mFor_ind (l := ss.dropLast) (enc := eP) (fun pre E => ∃ j, E = [some (Sl.v (D.list (ss.map eP))), some (Sl.v (eP (sb (sm2 ss) (sm2 pre)))), some (.t (Tr.fl ((wkF (0, 0) ss ++ (wkB (sm2 ss) pre ++ [sb (sm2 ss) (sm2 pre)])).map eP))), j]) ?_ ⟨j, by rw [sm2_nil, sb_zero]; rfl⟩ ?_) ?_
  · refine mIL_o _ ?_
    walk_at "ev"
  · rintro pre a E ha hl _ ⟨j, rfl⟩
    have e := H_taken_back (sb (sm2 ss) (sm2 pre)) a
    have hp6 := h.l6
    have hp7 : pre.length < 6 := by rw [List.length_dropLast] at hl; omega
    refine mSeq_nxE (P := fun E => E = [some (Sl.v (D.list (ss.map eP))), some (Sl.v (eP (sb (sb (sm2 ss) (sm2 pre)) a))), some (.t (Tr.fl ((wkF (0, 0) ss ++ (wkB (sm2 ss) pre ++ [sb (sm2 ss) (sm2 pre)])).map eP))), some (.v (eP a))]) ⟨_, by walk_at "ev" <;> rfl, rfl⟩ ?_
    rintro E rfl
    refine ⟨_, mApp_fl (l := (wkF (0, 0) ss ++ (wkB (sm2 ss) pre ++ [sb (sm2 ss) (sm2 pre)])).map eP) (d := eP (sb (sb (sm2 ss) (sm2 pre)) a)) (rs := [.c (eP (sb (sb (sm2 ss) (sm2 pre)) a))]) rfl (by walk_at "ev") rfl (by rw [List.length_map, List.length_append, wkF_len, List.length_append, wkB_len]; exact Nat.lt_of_le_of_lt (show ss.length + (pre.length + 1) ≤ 12 by omega) (by decide)), ⟨some (.v (eP a)), ?_⟩⟩
    rw [sm2_snoc, ← sb_sb, wkB_snoc]
    simp
  rintro E ⟨j, rfl⟩
  refine ⟨_, by walk_at "ev" <;> rfl, _, rfl, ?_⟩
  have e : wkB (sm2 ss) ss.dropLast ++ [sb (sm2 ss) (sm2 ss.dropLast)] = wkB (sm2 ss) ss := by
    conv => rhs; arg 2; rw [← List.dropLast_concat_getLast hne]
    rw [wkB_snoc]
  have e2 : wkF (0, 0) ss ++ (wkB (sm2 ss) ss.dropLast ++ [sb (sm2 ss) (sm2 ss.dropLast)]) = cor ss := by rw [e]; rfl
  rw [← e2]
  simp [Rup_t]
  rfl
def Sp_X_corners (C_BodyError C_BadSticks C_BadPoint C_BadTimes C_BadMany C_BadCut C_BadThree C_BadPlaces C_BadStick : Addr) (g : List D → Option Addr) : Prop := ∀ d : D, BadS d → g [d] = some C_BadSticks
set_option maxHeartbeats 4000000 in
theorem ok_X_corners (T : Txt K mg C_BodyError C_BadSticks C_BadPoint C_BadTimes C_BadMany C_BadCut C_BadThree C_BadPlaces C_BadStick) (F : FunG K mg "corners" s_corners ["sticks"]) {g_X_check_sticks : List D → Option Addr} (C_X_check_sticks : CalX P w K mg base "check_sticks" 6 ["value"] g_X_check_sticks) (H_X_check_sticks : Sp_X_check_sticks C_BodyError C_BadSticks C_BadPoint C_BadTimes C_BadMany C_BadCut C_BadThree C_BadPlaces C_BadStick g_X_check_sticks) : ∃ g, CalX P w K mg base "corners" 7 ["sticks"] g ∧ Sp_X_corners C_BodyError C_BadSticks C_BadPoint C_BadTimes C_BadMany C_BadCut C_BadThree C_BadPlaces C_BadStick g := by
  refine cal_exX F sc_corners (fun f cdv A outer s H E hr => (x_cons (x_expr (x_call C_X_check_sticks (hr.mono (by decide)) (m_acons1 (m_var (pv 0)) m_anil))) m_never
    x_nil)) ?_
  intro d hd
  exact nAlt_x (nCall1 (x := .c d) rfl (H_X_check_sticks.1 d hd))
abbrev s_area : Stmt := top 39
abbrev N_area : List Str := ["sticks"]
def Sp_area (g : List D → Option R) : Prop := ∀ ss : List Pt, SOk ss → g [.list (ss.map eP)] = some (.c (.int (cov ss)))
theorem sc_area : FnScope N_area ["sticks"] (defScope s_area) := ⟨rfl, rfl, rfl, by decide +kernel, rfl, by decide +kernel, by decide +kernel⟩
set_option maxHeartbeats 4000000 in
theorem ok_area (T : Txt K mg C_BodyError C_BadSticks C_BadPoint C_BadTimes C_BadMany C_BadCut C_BadThree C_BadPlaces C_BadStick) (F : FunG K mg "area" s_area ["sticks"]) {g_covered : List D → Option R} (C_covered : Cal P w K mg base "covered" 2 ["sticks"] g_covered) (H_covered : Sp_covered g_covered) {g_check_sticks : List D → Option R} (C_check_sticks : Cal P w K mg base "check_sticks" 6 ["value"] g_check_sticks) (H_check_sticks : Sp_check_sticks g_check_sticks) : ∃ g, Cal P w K mg base "area" 7 ["sticks"] g ∧ Sp_area g := by
  refine cal_ex F sc_area (fun f cdv A outer s H E hr => (@m_cons _ _ _ _ _ _ (m_expr (m_callC C_check_sticks (hr.mono (by decide)) (m_acons1 (m_var (pv 0)) m_anil)))
    (@m_sone _ _ _ _ (m_ret (m_callC C_covered (hr.mono (by decide)) (m_acons1 (m_var (pv 0)) m_anil)))))) ?_
  intro ss h
  refine runD_eq (r := .c (.int (cov ss))) ?_
  have h1 := H_check_sticks ss h
  have h2 := H_covered ss h
  walk_at "ev"
def Sp_X_area (C_BodyError C_BadSticks C_BadPoint C_BadTimes C_BadMany C_BadCut C_BadThree C_BadPlaces C_BadStick : Addr) (g : List D → Option Addr) : Prop := ∀ d : D, BadS d → g [d] = some C_BadSticks
set_option maxHeartbeats 4000000 in
theorem ok_X_area (T : Txt K mg C_BodyError C_BadSticks C_BadPoint C_BadTimes C_BadMany C_BadCut C_BadThree C_BadPlaces C_BadStick) (F : FunG K mg "area" s_area ["sticks"]) {g_X_check_sticks : List D → Option Addr} (C_X_check_sticks : CalX P w K mg base "check_sticks" 6 ["value"] g_X_check_sticks) (H_X_check_sticks : Sp_X_check_sticks C_BodyError C_BadSticks C_BadPoint C_BadTimes C_BadMany C_BadCut C_BadThree C_BadPlaces C_BadStick g_X_check_sticks) : ∃ g, CalX P w K mg base "area" 7 ["sticks"] g ∧ Sp_X_area C_BodyError C_BadSticks C_BadPoint C_BadTimes C_BadMany C_BadCut C_BadThree C_BadPlaces C_BadStick g := by
  refine cal_exX F sc_area (fun f cdv A outer s H E hr => (x_cons (x_expr (x_call C_X_check_sticks (hr.mono (by decide)) (m_acons1 (m_var (pv 0)) m_anil))) m_never
    x_nil)) ?_
  intro d hd
  exact nAlt_x (nCall1 (x := .c d) rfl (H_X_check_sticks.1 d hd))
abbrev s_opposite : Stmt := top 40
abbrev N_opposite : List Str := ["sticks", "point"]
def Sp_X_opposite (C_BodyError C_BadSticks C_BadPoint C_BadTimes C_BadMany C_BadCut C_BadThree C_BadPlaces C_BadStick : Addr) (g : List D → Option Addr) : Prop := (∀ d e : D, BadS d → g [d, e] = some C_BadSticks) ∧ ∀ (ss : List Pt) (e : D), SOk ss → BadP e → g [.list (ss.map eP), e] = some C_BadPoint
theorem sc_opposite : FnScope N_opposite ["sticks", "point"] (defScope s_opposite) := ⟨rfl, rfl, rfl, by decide +kernel, rfl, by decide +kernel, by decide +kernel⟩
set_option maxHeartbeats 4000000 in
theorem ok_X_opposite (T : Txt K mg C_BodyError C_BadSticks C_BadPoint C_BadTimes C_BadMany C_BadCut C_BadThree C_BadPlaces C_BadStick) (F : FunG K mg "opposite" s_opposite ["sticks", "point"]) {g_X_check_sticks : List D → Option Addr} (C_X_check_sticks : CalX P w K mg base "check_sticks" 6 ["value"] g_X_check_sticks) (H_X_check_sticks : Sp_X_check_sticks C_BodyError C_BadSticks C_BadPoint C_BadTimes C_BadMany C_BadCut C_BadThree C_BadPlaces C_BadStick g_X_check_sticks) {g_check_sticks : List D → Option R} (C_check_sticks : Cal P w K mg base "check_sticks" 6 ["value"] g_check_sticks) (H_check_sticks : Sp_check_sticks g_check_sticks) {g_X_check_point : List D → Option Addr} (C_X_check_point : CalX P w K mg base "check_point" 3 ["value"] g_X_check_point) (H_X_check_point : Sp_X_check_point C_BodyError C_BadSticks C_BadPoint C_BadTimes C_BadMany C_BadCut C_BadThree C_BadPlaces C_BadStick g_X_check_point) : ∃ g, CalX P w K mg base "opposite" 7 ["sticks", "point"] g ∧ Sp_X_opposite C_BodyError C_BadSticks C_BadPoint C_BadTimes C_BadMany C_BadCut C_BadThree C_BadPlaces C_BadStick g := by
  refine cal_exX F sc_opposite (fun f cdv A outer s H E hr => (x_cons (x_expr (x_call C_X_check_sticks (hr.mono (by decide)) (m_acons1 (m_var (pv 0)) m_anil))) (m_expr (m_callC C_check_sticks (hr.mono (by decide)) (m_acons1 (m_var (pv 0)) m_anil)))
    (x_cons (x_expr (x_call C_X_check_point (hr.mono (by decide)) (m_acons1 (m_var (pv 1)) m_anil))) m_never
    x_nil))) ?_
  refine ⟨fun d e hd => ?_, fun ss e h he => ?_⟩
  · exact nAlt_x (nCall1 (x := .c d) rfl (H_X_check_sticks.1 d hd))
  · exact nAlt_n (nCall1 (x := .c (.list (ss.map eP))) rfl (H_X_check_sticks.2 ss h)) (mDrop_eq (mCall1 (r := .c (.list (ss.map eP))) rfl rfl (H_check_sticks ss h))) (nAlt_x (nCall1 (x := .c e) rfl (H_X_check_point e he)))
abbrev s_whole_points : Stmt := top 41
abbrev N_whole_points : List Str := ["sticks", "times"]
def Sp_whole_points (g : List D → Option R) : Prop := ∀ (ss : List Pt) (t : Int), SOk ss → 0 ≤ t → Builtin.Int.intBits t ≤ 2000000 → g [.list (ss.map eP), .int t] = some (.c (.int (1 + t * gs ss + t * t * cov ss)))
theorem sc_whole_points : FnScope N_whole_points ["sticks", "times"] (defScope s_whole_points) := ⟨rfl, rfl, rfl, by decide +kernel, rfl, by decide +kernel, by decide +kernel⟩
set_option maxHeartbeats 4000000 in
theorem ok_whole_points (T : Txt K mg C_BodyError C_BadSticks C_BadPoint C_BadTimes C_BadMany C_BadCut C_BadThree C_BadPlaces C_BadStick) (F : FunG K mg "whole_points" s_whole_points ["sticks", "times"]) {g_steps : List D → Option R} (C_steps : Cal P w K mg base "steps" 2 ["sticks"] g_steps) (H_steps : Sp_steps g_steps) {g_covered : List D → Option R} (C_covered : Cal P w K mg base "covered" 2 ["sticks"] g_covered) (H_covered : Sp_covered g_covered) {g_check_times : List D → Option R} (C_check_times : Cal P w K mg base "check_times" 2 ["value"] g_check_times) (H_check_times : Sp_check_times g_check_times) {g_check_sticks : List D → Option R} (C_check_sticks : Cal P w K mg base "check_sticks" 6 ["value"] g_check_sticks) (H_check_sticks : Sp_check_sticks g_check_sticks) : ∃ g, Cal P w K mg base "whole_points" 7 ["sticks", "times"] g ∧ Sp_whole_points g := by
  refine cal_ex F sc_whole_points (fun f cdv A outer s H E hr => (@m_cons _ _ _ _ _ _ (m_expr (m_callC C_check_sticks (hr.mono (by decide)) (m_acons1 (m_var (pv 0)) m_anil)))
    (@m_cons _ _ _ _ _ _ (m_expr (m_callC C_check_times (hr.mono (by decide)) (m_acons1 (m_var (pv 1)) m_anil)))
    (@m_sone _ _ _ _ (m_ret (m_op op_addG s_add (m_op op_addG s_add m_int (m_op op_mulB s_mul (m_var (pv 1)) (m_callC C_steps (hr.mono (by decide)) (m_acons1 (m_var (pv 0)) m_anil)))) (m_op op_mulB s_mul (m_op op_mulB s_mul (m_var (pv 1)) (m_var (pv 1))) (m_callC C_covered (hr.mono (by decide)) (m_acons1 (m_var (pv 0)) m_anil))))))))) ?_
  intro ss t h ht hb
  have h1 := H_check_sticks ss h
  have h2 := H_check_times t ht
  have h3 := H_steps ss h
  have h4 := H_covered ss h
  have m1 : mulOk t (gs ss) = true := mul_r (gs_sm h)
  have m2 : mulOk t t = true := mulOk_bits hb hb (by decide)
  have m3 : mulOk (t * t) (cov ss) = true := mul_r (cov_sm h)
  clear hb
  refine runD_eq (r := .c (.int (1 + t * gs ss + t * t * cov ss))) ?_
  generalize gs ss = a at *
  generalize cov ss = b at *
  walk_at "ev"
def Sp_X_whole_points (C_BodyError C_BadSticks C_BadPoint C_BadTimes C_BadMany C_BadCut C_BadThree C_BadPlaces C_BadStick : Addr) (g : List D → Option Addr) : Prop := (∀ d e : D, BadS d → g [d, e] = some C_BadSticks) ∧ ∀ (ss : List Pt) (e : D), SOk ss → BadT e → g [.list (ss.map eP), e] = some C_BadTimes
set_option maxHeartbeats 4000000 in
theorem ok_X_whole_points (T : Txt K mg C_BodyError C_BadSticks C_BadPoint C_BadTimes C_BadMany C_BadCut C_BadThree C_BadPlaces C_BadStick) (F : FunG K mg "whole_points" s_whole_points ["sticks", "times"]) {g_X_check_sticks : List D → Option Addr} (C_X_check_sticks : CalX P w K mg base "check_sticks" 6 ["value"] g_X_check_sticks) (H_X_check_sticks : Sp_X_check_sticks C_BodyError C_BadSticks C_BadPoint C_BadTimes C_BadMany C_BadCut C_BadThree C_BadPlaces C_BadStick g_X_check_sticks) {g_check_sticks : List D → Option R} (C_check_sticks : Cal P w K mg base "check_sticks" 6 ["value"] g_check_sticks) (H_check_sticks : Sp_check_sticks g_check_sticks) {g_X_check_times : List D → Option Addr} (C_X_check_times : CalX P w K mg base "check_times" 2 ["value"] g_X_check_times) (H_X_check_times : Sp_X_check_times C_BodyError C_BadSticks C_BadPoint C_BadTimes C_BadMany C_BadCut C_BadThree C_BadPlaces C_BadStick g_X_check_times) : ∃ g, CalX P w K mg base "whole_points" 7 ["sticks", "times"] g ∧ Sp_X_whole_points C_BodyError C_BadSticks C_BadPoint C_BadTimes C_BadMany C_BadCut C_BadThree C_BadPlaces C_BadStick g := by
  refine cal_exX F sc_whole_points (fun f cdv A outer s H E hr => (x_cons (x_expr (x_call C_X_check_sticks (hr.mono (by decide)) (m_acons1 (m_var (pv 0)) m_anil))) (m_expr (m_callC C_check_sticks (hr.mono (by decide)) (m_acons1 (m_var (pv 0)) m_anil)))
    (x_cons (x_expr (x_call C_X_check_times (hr.mono (by decide)) (m_acons1 (m_var (pv 1)) m_anil))) m_never
    x_nil))) ?_
  refine ⟨fun d e hd => ?_, fun ss e h he => ?_⟩
  · exact nAlt_x (nCall1 (x := .c d) rfl (H_X_check_sticks.1 d hd))
  · exact nAlt_n (nCall1 (x := .c (.list (ss.map eP))) rfl (H_X_check_sticks.2 ss h)) (mDrop_eq (mCall1 (r := .c (.list (ss.map eP))) rfl rfl (H_check_sticks ss h))) (nAlt_x (nCall1 (x := .c e) rfl (H_X_check_times e he)))
abbrev s_rim_points : Stmt := top 42
abbrev N_rim_points : List Str := ["sticks", "times"]
def Sp_X_rim_points (C_BodyError C_BadSticks C_BadPoint C_BadTimes C_BadMany C_BadCut C_BadThree C_BadPlaces C_BadStick : Addr) (g : List D → Option Addr) : Prop := (∀ d e : D, BadS d → g [d, e] = some C_BadSticks) ∧ ∀ (ss : List Pt) (e : D), SOk ss → BadT e → g [.list (ss.map eP), e] = some C_BadTimes
theorem sc_rim_points : FnScope N_rim_points ["sticks", "times"] (defScope s_rim_points) := ⟨rfl, rfl, rfl, by decide +kernel, rfl, by decide +kernel, by decide +kernel⟩
set_option maxHeartbeats 4000000 in
theorem ok_X_rim_points (T : Txt K mg C_BodyError C_BadSticks C_BadPoint C_BadTimes C_BadMany C_BadCut C_BadThree C_BadPlaces C_BadStick) (F : FunG K mg "rim_points" s_rim_points ["sticks", "times"]) {g_X_check_sticks : List D → Option Addr} (C_X_check_sticks : CalX P w K mg base "check_sticks" 6 ["value"] g_X_check_sticks) (H_X_check_sticks : Sp_X_check_sticks C_BodyError C_BadSticks C_BadPoint C_BadTimes C_BadMany C_BadCut C_BadThree C_BadPlaces C_BadStick g_X_check_sticks) {g_check_sticks : List D → Option R} (C_check_sticks : Cal P w K mg base "check_sticks" 6 ["value"] g_check_sticks) (H_check_sticks : Sp_check_sticks g_check_sticks) {g_X_check_times : List D → Option Addr} (C_X_check_times : CalX P w K mg base "check_times" 2 ["value"] g_X_check_times) (H_X_check_times : Sp_X_check_times C_BodyError C_BadSticks C_BadPoint C_BadTimes C_BadMany C_BadCut C_BadThree C_BadPlaces C_BadStick g_X_check_times) : ∃ g, CalX P w K mg base "rim_points" 7 ["sticks", "times"] g ∧ Sp_X_rim_points C_BodyError C_BadSticks C_BadPoint C_BadTimes C_BadMany C_BadCut C_BadThree C_BadPlaces C_BadStick g := by
  refine cal_exX F sc_rim_points (fun f cdv A outer s H E hr => (x_cons (x_expr (x_call C_X_check_sticks (hr.mono (by decide)) (m_acons1 (m_var (pv 0)) m_anil))) (m_expr (m_callC C_check_sticks (hr.mono (by decide)) (m_acons1 (m_var (pv 0)) m_anil)))
    (x_cons (x_expr (x_call C_X_check_times (hr.mono (by decide)) (m_acons1 (m_var (pv 1)) m_anil))) m_never
    x_nil))) ?_
  refine ⟨fun d e hd => ?_, fun ss e h he => ?_⟩
  · exact nAlt_x (nCall1 (x := .c d) rfl (H_X_check_sticks.1 d hd))
  · exact nAlt_n (nCall1 (x := .c (.list (ss.map eP))) rfl (H_X_check_sticks.2 ss h)) (mDrop_eq (mCall1 (r := .c (.list (ss.map eP))) rfl rfl (H_check_sticks ss h))) (nAlt_x (nCall1 (x := .c e) rfl (H_X_check_times e he)))
abbrev s_within : Stmt := top 72
abbrev N_within : List Str := ["sticks", "point", "shares"]
def Sp_X_within (C_BodyError C_BadSticks C_BadPoint C_BadTimes C_BadMany C_BadCut C_BadThree C_BadPlaces C_BadStick : Addr) (g : List D → Option Addr) : Prop := (∀ d e : D, BadS d → g [d, e] = some C_BadSticks) ∧ ∀ (ss : List Pt) (e : D), SOk ss → BadP e → g [.list (ss.map eP), e] = some C_BadPoint
theorem sc_within : FnScope N_within ["sticks", "point"] (defScope s_within) := ⟨rfl, rfl, rfl, by decide +kernel, rfl, by decide +kernel, by decide +kernel⟩
set_option maxHeartbeats 4000000 in
theorem ok_X_within (T : Txt K mg C_BodyError C_BadSticks C_BadPoint C_BadTimes C_BadMany C_BadCut C_BadThree C_BadPlaces C_BadStick) (F : FunG K mg "within" s_within ["sticks", "point"]) {g_X_check_sticks : List D → Option Addr} (C_X_check_sticks : CalX P w K mg base "check_sticks" 6 ["value"] g_X_check_sticks) (H_X_check_sticks : Sp_X_check_sticks C_BodyError C_BadSticks C_BadPoint C_BadTimes C_BadMany C_BadCut C_BadThree C_BadPlaces C_BadStick g_X_check_sticks) {g_check_sticks : List D → Option R} (C_check_sticks : Cal P w K mg base "check_sticks" 6 ["value"] g_check_sticks) (H_check_sticks : Sp_check_sticks g_check_sticks) {g_X_check_point : List D → Option Addr} (C_X_check_point : CalX P w K mg base "check_point" 3 ["value"] g_X_check_point) (H_X_check_point : Sp_X_check_point C_BodyError C_BadSticks C_BadPoint C_BadTimes C_BadMany C_BadCut C_BadThree C_BadPlaces C_BadStick g_X_check_point) : ∃ g, CalX P w K mg base "within" 7 ["sticks", "point"] g ∧ Sp_X_within C_BodyError C_BadSticks C_BadPoint C_BadTimes C_BadMany C_BadCut C_BadThree C_BadPlaces C_BadStick g := by
  refine cal_exX F sc_within (fun f cdv A outer s H E hr => (x_cons (x_expr (x_call C_X_check_sticks (hr.mono (by decide)) (m_acons1 (m_var (pv 0)) m_anil))) (m_expr (m_callC C_check_sticks (hr.mono (by decide)) (m_acons1 (m_var (pv 0)) m_anil)))
    (x_cons (x_expr (x_call C_X_check_point (hr.mono (by decide)) (m_acons1 (m_var (pv 1)) m_anil))) m_never
    x_nil))) ?_
  refine ⟨fun d e hd => ?_, fun ss e h he => ?_⟩
  · exact nAlt_x (nCall1 (x := .c d) rfl (H_X_check_sticks.1 d hd))
  · exact nAlt_n (nCall1 (x := .c (.list (ss.map eP))) rfl (H_X_check_sticks.2 ss h)) (mDrop_eq (mCall1 (r := .c (.list (ss.map eP))) rfl rfl (H_check_sticks ss h))) (nAlt_x (nCall1 (x := .c e) rfl (H_X_check_point e he)))
abbrev s_slabs : Stmt := top 76
abbrev N_slabs : List Str := ["sticks", "cut", "feet", "at", "i", "j"]
def Sp_X_slabs (C_BodyError C_BadSticks C_BadPoint C_BadTimes C_BadMany C_BadCut C_BadThree C_BadPlaces C_BadStick : Addr) (g : List D → Option Addr) : Prop := ∀ d e : D, BadS d → g [d, e] = some C_BadSticks
theorem sc_slabs : FnScope N_slabs ["sticks", "cut"] (defScope s_slabs) := ⟨rfl, rfl, rfl, by decide +kernel, rfl, by decide +kernel, by decide +kernel⟩
set_option maxHeartbeats 4000000 in
theorem ok_X_slabs (T : Txt K mg C_BodyError C_BadSticks C_BadPoint C_BadTimes C_BadMany C_BadCut C_BadThree C_BadPlaces C_BadStick) (F : FunG K mg "slabs" s_slabs ["sticks", "cut"]) {g_X_check_sticks : List D → Option Addr} (C_X_check_sticks : CalX P w K mg base "check_sticks" 6 ["value"] g_X_check_sticks) (H_X_check_sticks : Sp_X_check_sticks C_BodyError C_BadSticks C_BadPoint C_BadTimes C_BadMany C_BadCut C_BadThree C_BadPlaces C_BadStick g_X_check_sticks) : ∃ g, CalX P w K mg base "slabs" 7 ["sticks", "cut"] g ∧ Sp_X_slabs C_BodyError C_BadSticks C_BadPoint C_BadTimes C_BadMany C_BadCut C_BadThree C_BadPlaces C_BadStick g := by
  refine cal_exX F sc_slabs (fun f cdv A outer s H E hr => (x_cons (x_expr (x_call C_X_check_sticks (hr.mono (by decide)) (m_acons1 (m_var (pv 0)) m_anil))) m_never
    x_nil)) ?_
  intro d e hd
  exact nAlt_x (nCall1 (x := .c d) rfl (H_X_check_sticks.1 d hd))
abbrev s__law_alone : Stmt := top 78
abbrev N__law_alone : List Str := ["_law_error", "_law_due", "_law_found", "_law_k"]
def Sp_N__law_alone (C_BodyError C_BadSticks C_BadPoint C_BadTimes C_BadMany C_BadCut C_BadThree C_BadPlaces C_BadStick : Addr) (g : List D → Option R) : Prop := ∀ a : Addr, g [.exc a C_BadSticks, .int 0] = some (.c (.bool true)) ∧ g [.exc a C_BadPoint, .int 1] = some (.c (.bool true)) ∧ g [.exc a C_BadTimes, .int 2] = some (.c (.bool true))
theorem sc__law_alone : FnScope N__law_alone ["_law_error", "_law_due"] (defScope s__law_alone) := ⟨rfl, rfl, rfl, by decide +kernel, rfl, by decide +kernel, by decide +kernel⟩
set_option maxHeartbeats 4000000 in
theorem ok_N__law_alone (T : Txt K mg C_BodyError C_BadSticks C_BadPoint C_BadTimes C_BadMany C_BadCut C_BadThree C_BadPlaces C_BadStick) (F : FunG K mg "_law_alone" s__law_alone ["_law_error", "_law_due"]) : ∃ g, CalN P w K mg base "_law_alone" 1 ["_law_error", "_law_due"] g ∧ Sp_N__law_alone C_BodyError C_BadSticks C_BadPoint C_BadTimes C_BadMany C_BadCut C_BadThree C_BadPlaces C_BadStick g := by
  refine cal_exN' F sc__law_alone (fun f cdv A outer s H E hr hq => (@m_cons _ _ _ _ _ _ (m_set (i := 2) sc__law_alone.nd (m_lst (m_an3 (m_isiX (xis_cons T.xi_BadSticks (xis_cons T.xi_BadPoint (xis_cons T.xi_BadTimes xis_nil))) T.b_isinstance T.mc_BadSticks (m_var (pv 0))) (m_isiX (xis_cons T.xi_BadSticks (xis_cons T.xi_BadPoint (xis_cons T.xi_BadTimes xis_nil))) T.b_isinstance T.mc_BadPoint (m_var (pv 0))) (m_isiX (xis_cons T.xi_BadSticks (xis_cons T.xi_BadPoint (xis_cons T.xi_BadTimes xis_nil))) T.b_isinstance T.mc_BadTimes (m_var (pv 0))))))
    (@m_cons _ _ _ _ _ _ (m_set (i := 2) sc__law_alone.nd (m_op op_addG s_add (m_var (pv 2)) (m_lst (m_an3 (m_isiX (xis_cons T.xi_BadSticks (xis_cons T.xi_BadPoint (xis_cons T.xi_BadTimes xis_nil))) T.b_isinstance T.mc_BadMany (m_var (pv 0))) (m_isiX (xis_cons T.xi_BadSticks (xis_cons T.xi_BadPoint (xis_cons T.xi_BadTimes xis_nil))) T.b_isinstance T.mc_BadCut (m_var (pv 0))) (m_isiX (xis_cons T.xi_BadSticks (xis_cons T.xi_BadPoint (xis_cons T.xi_BadTimes xis_nil))) T.b_isinstance T.mc_BadThree (m_var (pv 0)))))))
    (@m_cons _ _ _ _ _ _ (m_set (i := 2) sc__law_alone.nd (m_op op_addG s_add (m_var (pv 2)) (m_lst (m_an2 (m_isiX (xis_cons T.xi_BadSticks (xis_cons T.xi_BadPoint (xis_cons T.xi_BadTimes xis_nil))) T.b_isinstance T.mc_BadPlaces (m_var (pv 0))) (m_isiX (xis_cons T.xi_BadSticks (xis_cons T.xi_BadPoint (xis_cons T.xi_BadTimes xis_nil))) T.b_isinstance T.mc_BadStick (m_var (pv 0)))))))
    (@m_sone _ _ _ _ (m_ret (m_and (m_cmp (op_eqD hr.units) s_eq (m_var (pv 2)) (m_lcN (own := [("_law_k", 3)]) hq sc__law_alone.nd (tg1 3) (m_irange1N T.b_range (m_acons1 m_int m_anil)) (blkOk_by (own := [("_law_k", 3)]) (N := N__law_alone) (sc := defScope s__law_alone) (by decide +kernel)) (fun _ _ _ _ _ => (pg_name (i := 3) sc__law_alone.nd rfl (by first | exact Or.inl rfl | exact Or.inr rfl))) (fun _ _ _ _ _ => m_pts0) (fun _ _ _ _ _ => (m_cmp (op_eqD hr.units) s_eq (m_var (pv 3)) (m_var (pv 1)) (nomark _)))) (nomark _)) (m_one (m_isiXT (T := "ValueError") (xis_cons T.xi_BadSticks (xis_cons T.xi_BadPoint (xis_cons T.xi_BadTimes xis_nil))) T.b_isinstance T.b_ValueError (m_var (pv 0))))))))))) ?_
  intro a
  have is : ∀ {C0 : Addr} {cv : Value} {b : Bool} (E : Ev), E[0]? = some (some (.v (.exc a C0))) → C0 ∈ [C_BadSticks, C_BadPoint, C_BadTimes] → PySem.W.kitOne K (.ref C0) cv = some b → mUn (gIsiX K [C_BadSticks, C_BadPoint, C_BadTimes] cv) (mVar 0) E = some (.c (.bool b)) := fun {C0 cv b} E hE hC hk => mUn_eq (r := .c (.exc a C0)) (by unfold mVar; rw [hE]) (gIsiX_eq rfl hC hk)
  refine ⟨?_, ?_, ?_⟩
  · refine runD_to ?_
    refine mSeq_ex (P := fun E => E = [some (.v (.exc a C_BadSticks)), some (.v (.int 0)), some (.v (.list [.bool true, .bool false, .bool false])), none]) ⟨_, mAsgV_eq (r := .o [.bool true, .bool false, .bool false]) (mLst_o (rs := [.c (.bool true), .c (.bool false), .c (.bool false)]) (mCons_eq (is _ rfl (by simp) T.kx_BadSticks_BadSticks) (mCons_eq (is _ rfl (by simp) T.kx_BadSticks_BadPoint) (mCons_eq (is _ rfl (by simp) T.kx_BadSticks_BadTimes) (mNil_eq _)))) (show 3 ≤ lim by decide) rfl) (Rpro_o _), rfl⟩ ?_
    rintro E rfl
    refine mSeq_ex (P := fun E => E = [some (.v (.exc a C_BadSticks)), some (.v (.int 0)), some (.v (.list [.bool true, .bool false, .bool false, .bool false, .bool false, .bool false])), none]) ⟨_, mAsgV_eq (r := .o [.bool true, .bool false, .bool false, .bool false, .bool false, .bool false]) ((mOp_eq (x := .c (.list [.bool true, .bool false, .bool false])) (y := .o [.bool false, .bool false, .bool false]) rfl (mLst_o (rs := [.c (.bool false), .c (.bool false), .c (.bool false)]) (mCons_eq (is _ rfl (by simp) T.kx_BadSticks_BadMany) (mCons_eq (is _ rfl (by simp) T.kx_BadSticks_BadCut) (mCons_eq (is _ rfl (by simp) T.kx_BadSticks_BadThree) (mNil_eq _)))) (show 3 ≤ lim by decide) rfl)).trans rfl) (Rpro_o _), rfl⟩ ?_
    rintro E rfl
    refine mSeq_ex (P := fun E => E = [some (.v (.exc a C_BadSticks)), some (.v (.int 0)), some (.v (.list [.bool true, .bool false, .bool false, .bool false, .bool false, .bool false, .bool false, .bool false])), none]) ⟨_, mAsgV_eq (r := .o [.bool true, .bool false, .bool false, .bool false, .bool false, .bool false, .bool false, .bool false]) ((mOp_eq (x := .c (.list [.bool true, .bool false, .bool false, .bool false, .bool false, .bool false])) (y := .o [.bool false, .bool false]) rfl (mLst_o (rs := [.c (.bool false), .c (.bool false)]) (mCons_eq (is _ rfl (by simp) T.kx_BadSticks_BadPlaces) (mCons_eq (is _ rfl (by simp) T.kx_BadSticks_BadStick) (mNil_eq _))) (show 2 ≤ lim by decide) rfl)).trans rfl) (Rpro_o _), rfl⟩ ?_
    rintro E rfl
    exact ⟨_, mRet_eq (r := .c (.bool true)) (mAndV_t (by rfl) (is _ rfl (by simp) T.kv_BadSticks)), _, rfl, rfl⟩
  · refine runD_to ?_
    refine mSeq_ex (P := fun E => E = [some (.v (.exc a C_BadPoint)), some (.v (.int 1)), some (.v (.list [.bool false, .bool true, .bool false])), none]) ⟨_, mAsgV_eq (r := .o [.bool false, .bool true, .bool false]) (mLst_o (rs := [.c (.bool false), .c (.bool true), .c (.bool false)]) (mCons_eq (is _ rfl (by simp) T.kx_BadPoint_BadSticks) (mCons_eq (is _ rfl (by simp) T.kx_BadPoint_BadPoint) (mCons_eq (is _ rfl (by simp) T.kx_BadPoint_BadTimes) (mNil_eq _)))) (show 3 ≤ lim by decide) rfl) (Rpro_o _), rfl⟩ ?_
    rintro E rfl
    refine mSeq_ex (P := fun E => E = [some (.v (.exc a C_BadPoint)), some (.v (.int 1)), some (.v (.list [.bool false, .bool true, .bool false, .bool false, .bool false, .bool false])), none]) ⟨_, mAsgV_eq (r := .o [.bool false, .bool true, .bool false, .bool false, .bool false, .bool false]) ((mOp_eq (x := .c (.list [.bool false, .bool true, .bool false])) (y := .o [.bool false, .bool false, .bool false]) rfl (mLst_o (rs := [.c (.bool false), .c (.bool false), .c (.bool false)]) (mCons_eq (is _ rfl (by simp) T.kx_BadPoint_BadMany) (mCons_eq (is _ rfl (by simp) T.kx_BadPoint_BadCut) (mCons_eq (is _ rfl (by simp) T.kx_BadPoint_BadThree) (mNil_eq _)))) (show 3 ≤ lim by decide) rfl)).trans rfl) (Rpro_o _), rfl⟩ ?_
    rintro E rfl
    refine mSeq_ex (P := fun E => E = [some (.v (.exc a C_BadPoint)), some (.v (.int 1)), some (.v (.list [.bool false, .bool true, .bool false, .bool false, .bool false, .bool false, .bool false, .bool false])), none]) ⟨_, mAsgV_eq (r := .o [.bool false, .bool true, .bool false, .bool false, .bool false, .bool false, .bool false, .bool false]) ((mOp_eq (x := .c (.list [.bool false, .bool true, .bool false, .bool false, .bool false, .bool false])) (y := .o [.bool false, .bool false]) rfl (mLst_o (rs := [.c (.bool false), .c (.bool false)]) (mCons_eq (is _ rfl (by simp) T.kx_BadPoint_BadPlaces) (mCons_eq (is _ rfl (by simp) T.kx_BadPoint_BadStick) (mNil_eq _))) (show 2 ≤ lim by decide) rfl)).trans rfl) (Rpro_o _), rfl⟩ ?_
    rintro E rfl
    exact ⟨_, mRet_eq (r := .c (.bool true)) (mAndV_t (by rfl) (is _ rfl (by simp) T.kv_BadPoint)), _, rfl, rfl⟩
  · refine runD_to ?_
    refine mSeq_ex (P := fun E => E = [some (.v (.exc a C_BadTimes)), some (.v (.int 2)), some (.v (.list [.bool false, .bool false, .bool true])), none]) ⟨_, mAsgV_eq (r := .o [.bool false, .bool false, .bool true]) (mLst_o (rs := [.c (.bool false), .c (.bool false), .c (.bool true)]) (mCons_eq (is _ rfl (by simp) T.kx_BadTimes_BadSticks) (mCons_eq (is _ rfl (by simp) T.kx_BadTimes_BadPoint) (mCons_eq (is _ rfl (by simp) T.kx_BadTimes_BadTimes) (mNil_eq _)))) (show 3 ≤ lim by decide) rfl) (Rpro_o _), rfl⟩ ?_
    rintro E rfl
    refine mSeq_ex (P := fun E => E = [some (.v (.exc a C_BadTimes)), some (.v (.int 2)), some (.v (.list [.bool false, .bool false, .bool true, .bool false, .bool false, .bool false])), none]) ⟨_, mAsgV_eq (r := .o [.bool false, .bool false, .bool true, .bool false, .bool false, .bool false]) ((mOp_eq (x := .c (.list [.bool false, .bool false, .bool true])) (y := .o [.bool false, .bool false, .bool false]) rfl (mLst_o (rs := [.c (.bool false), .c (.bool false), .c (.bool false)]) (mCons_eq (is _ rfl (by simp) T.kx_BadTimes_BadMany) (mCons_eq (is _ rfl (by simp) T.kx_BadTimes_BadCut) (mCons_eq (is _ rfl (by simp) T.kx_BadTimes_BadThree) (mNil_eq _)))) (show 3 ≤ lim by decide) rfl)).trans rfl) (Rpro_o _), rfl⟩ ?_
    rintro E rfl
    refine mSeq_ex (P := fun E => E = [some (.v (.exc a C_BadTimes)), some (.v (.int 2)), some (.v (.list [.bool false, .bool false, .bool true, .bool false, .bool false, .bool false, .bool false, .bool false])), none]) ⟨_, mAsgV_eq (r := .o [.bool false, .bool false, .bool true, .bool false, .bool false, .bool false, .bool false, .bool false]) ((mOp_eq (x := .c (.list [.bool false, .bool false, .bool true, .bool false, .bool false, .bool false])) (y := .o [.bool false, .bool false]) rfl (mLst_o (rs := [.c (.bool false), .c (.bool false)]) (mCons_eq (is _ rfl (by simp) T.kx_BadTimes_BadPlaces) (mCons_eq (is _ rfl (by simp) T.kx_BadTimes_BadStick) (mNil_eq _))) (show 2 ≤ lim by decide) rfl)).trans rfl) (Rpro_o _), rfl⟩ ?_
    rintro E rfl
    exact ⟨_, mRet_eq (r := .c (.bool true)) (mAndV_t (by rfl) (is _ rfl (by simp) T.kv_BadTimes)), _, rfl, rfl⟩
abbrev s__law_bad_pairs : Stmt := top 81
abbrev N__law_bad_pairs : List Str := ["_law_cell", "_law_found"]
def Sp__law_bad_pairs (g : List D → Option R) : Prop := ∀ c : Int, g [.int c] = some (.o bdP)
theorem sc__law_bad_pairs : FnScope N__law_bad_pairs ["_law_cell"] (defScope s__law_bad_pairs) := ⟨rfl, rfl, rfl, by decide +kernel, rfl, by decide +kernel, by decide +kernel⟩
set_option maxHeartbeats 4000000 in
theorem ok__law_bad_pairs (T : Txt K mg C_BodyError C_BadSticks C_BadPoint C_BadTimes C_BadMany C_BadCut C_BadThree C_BadPlaces C_BadStick) (F : FunG K mg "_law_bad_pairs" s__law_bad_pairs ["_law_cell"]) : ∃ g, Cal P w K mg base "_law_bad_pairs" 1 ["_law_cell"] g ∧ Sp__law_bad_pairs g := by
  refine cal_ex F sc__law_bad_pairs (fun f cdv A outer s H E hr => (@m_cons _ _ _ _ _ _ (@m_set _ _ _ _ _ 1 _ _ sc__law_bad_pairs.nd (@m_lst _ _ _ _ (@m_acons1 _ _ _ _ _ (@m_non _ _ _) (@m_acons1 _ _ _ _ _ (@m_int _ _ _ _) (@m_acons1 _ _ _ _ _ (@m_tup _ _ _ _ _ (@m_anil _)) (@m_acons1 _ _ _ _ _ (@m_tup _ _ _ _ _ (@m_acons1 _ _ _ _ _ (@m_int _ _ _ _) (@m_anil _) rfl)) (@m_acons1 _ _ _ _ _ (@m_tup _ _ _ _ _ (@m_acons1 _ _ _ _ _ (@m_int _ _ _ _) (@m_acons1 _ _ _ _ _ (@m_int _ _ _ _) (@m_acons1 _ _ _ _ _ (@m_int _ _ _ _) (@m_anil _) rfl) rfl) rfl)) (@m_acons1 _ _ _ _ _ (@m_lst _ _ _ _ (@m_acons1 _ _ _ _ _ (@m_int _ _ _ _) (@m_acons1 _ _ _ _ _ (@m_int _ _ _ _) (@m_anil _) rfl) rfl)) (@m_acons1 _ _ _ _ _ (@m_str _ _ _ _) (@m_acons1 _ _ _ _ _ (@m_dnew _ _) (@m_acons1 _ _ _ _ _ (@m_tup _ _ _ _ _ (@m_acons1 _ _ _ _ _ (@m_non _ _ _) (@m_acons1 _ _ _ _ _ (@m_int _ _ _ _) (@m_anil _) rfl) rfl)) (@m_acons1 _ _ _ _ _ (@m_tup _ _ _ _ _ (@m_acons1 _ _ _ _ _ (@m_int _ _ _ _) (@m_acons1 _ _ _ _ _ (@m_non _ _ _) (@m_anil _) rfl) rfl)) (@m_acons1 _ _ _ _ _ (@m_tup _ _ _ _ _ (@m_acons1 _ _ _ _ _ (@m_bl _ _ _ _) (@m_acons1 _ _ _ _ _ (@m_int _ _ _ _) (@m_anil _) rfl) rfl)) (@m_acons1 _ _ _ _ _ (@m_tup _ _ _ _ _ (@m_acons1 _ _ _ _ _ (@m_int _ _ _ _) (@m_acons1 _ _ _ _ _ (@m_bl _ _ _ _) (@m_anil _) rfl) rfl)) (@m_anil _) rfl) rfl) rfl) rfl) rfl) rfl) rfl) rfl) rfl) rfl) rfl) rfl)) (by rfl) (by first | exact Or.inl rfl | exact Or.inr rfl) (by rfl) (by first | exact Or.inl rfl | exact Or.inr rfl))
    (@m_sone _ _ _ _ (m_ret (m_op op_addG s_add (m_var (pv 1)) (m_lst (m_an2 (m_tup (m_an2 m_str m_int)) (m_tup (m_an2 (m_tup (m_acons1 m_int m_anil)) m_int))))))))) ?_
  intro c
  exact runD_eq (r := .o bdP) (by rfl)
abbrev s__law_with_sticks : Stmt := top 82
abbrev N__law_with_sticks : List Str := ["_law_door", "_law_thing"]
def Sp_X__law_with_sticks (C_BodyError C_BadSticks C_BadPoint C_BadTimes C_BadMany C_BadCut C_BadThree C_BadPlaces C_BadStick : Addr) (g : List D → Option Addr) : Prop := ∀ (k : Nat) (d : D), k < 7 → BadS d → g [.int (k : Nat), d] = some C_BadSticks
theorem sc__law_with_sticks : FnScope N__law_with_sticks ["_law_door", "_law_thing"] (defScope s__law_with_sticks) := ⟨rfl, rfl, rfl, by decide +kernel, rfl, by decide +kernel, by decide +kernel⟩
set_option maxHeartbeats 4000000 in
theorem ok_X__law_with_sticks (T : Txt K mg C_BodyError C_BadSticks C_BadPoint C_BadTimes C_BadMany C_BadCut C_BadThree C_BadPlaces C_BadStick) (F : FunG K mg "_law_with_sticks" s__law_with_sticks ["_law_door", "_law_thing"]) {g_X_corners : List D → Option Addr} (C_X_corners : CalX P w K mg base "corners" 7 ["sticks"] g_X_corners) (H_X_corners : Sp_X_corners C_BodyError C_BadSticks C_BadPoint C_BadTimes C_BadMany C_BadCut C_BadThree C_BadPlaces C_BadStick g_X_corners) {g_X_area : List D → Option Addr} (C_X_area : CalX P w K mg base "area" 7 ["sticks"] g_X_area) (H_X_area : Sp_X_area C_BodyError C_BadSticks C_BadPoint C_BadTimes C_BadMany C_BadCut C_BadThree C_BadPlaces C_BadStick g_X_area) {g_X_opposite : List D → Option Addr} (C_X_opposite : CalX P w K mg base "opposite" 7 ["sticks", "point"] g_X_opposite) (H_X_opposite : Sp_X_opposite C_BodyError C_BadSticks C_BadPoint C_BadTimes C_BadMany C_BadCut C_BadThree C_BadPlaces C_BadStick g_X_opposite) {g_X_within : List D → Option Addr} (C_X_within : CalX P w K mg base "within" 7 ["sticks", "point"] g_X_within) (H_X_within : Sp_X_within C_BodyError C_BadSticks C_BadPoint C_BadTimes C_BadMany C_BadCut C_BadThree C_BadPlaces C_BadStick g_X_within) {g_X_whole_points : List D → Option Addr} (C_X_whole_points : CalX P w K mg base "whole_points" 7 ["sticks", "times"] g_X_whole_points) (H_X_whole_points : Sp_X_whole_points C_BodyError C_BadSticks C_BadPoint C_BadTimes C_BadMany C_BadCut C_BadThree C_BadPlaces C_BadStick g_X_whole_points) {g_X_rim_points : List D → Option Addr} (C_X_rim_points : CalX P w K mg base "rim_points" 7 ["sticks", "times"] g_X_rim_points) (H_X_rim_points : Sp_X_rim_points C_BodyError C_BadSticks C_BadPoint C_BadTimes C_BadMany C_BadCut C_BadThree C_BadPlaces C_BadStick g_X_rim_points) {g_X_slabs : List D → Option Addr} (C_X_slabs : CalX P w K mg base "slabs" 7 ["sticks", "cut"] g_X_slabs) (H_X_slabs : Sp_X_slabs C_BodyError C_BadSticks C_BadPoint C_BadTimes C_BadMany C_BadCut C_BadThree C_BadPlaces C_BadStick g_X_slabs) : ∃ g, CalX P w K mg base "_law_with_sticks" 8 ["_law_door", "_law_thing"] g ∧ Sp_X__law_with_sticks C_BodyError C_BadSticks C_BadPoint C_BadTimes C_BadMany C_BadCut C_BadThree C_BadPlaces C_BadStick g := by
  refine cal_exX F sc__law_with_sticks (fun f cdv A outer s H E hr => (x_cons (x_if (m_tcmp op_lt s_lt (m_var (pv 0)) m_int (nomark _))
    (x_one (x_ret (x_ifExp (m_tcmp (op_eqD hr.units) s_eq (m_var (pv 0)) m_int (nomark _)) (x_call C_X_corners (hr.mono (by decide)) (m_acons1 (m_var (pv 1)) m_anil)) (x_call C_X_area (hr.mono (by decide)) (m_acons1 (m_var (pv 1)) m_anil)))))
    x_nil) (m_if (m_tcmp op_lt s_lt (m_var (pv 0)) m_int (nomark _))
    m_nevers
    m_snil)
    (x_cons (x_if (m_tcmp op_lt s_lt (m_var (pv 0)) m_int (nomark _))
    (x_one (x_ret (x_ifExp (m_tcmp (op_eqD hr.units) s_eq (m_var (pv 0)) m_int (nomark _)) (x_call C_X_opposite (hr.mono (by decide)) (m_an2 (m_var (pv 1)) m_non)) (x_call C_X_within (hr.mono (by decide)) (m_an2 (m_var (pv 1)) m_non)))))
    x_nil) (m_if (m_tcmp op_lt s_lt (m_var (pv 0)) m_int (nomark _))
    m_nevers
    m_snil)
    (x_cons (x_if (m_tcmp op_lt s_lt (m_var (pv 0)) m_int (nomark _))
    (x_one (x_ret (x_ifExp (m_tcmp (op_eqD hr.units) s_eq (m_var (pv 0)) m_int (nomark _)) (x_call C_X_whole_points (hr.mono (by decide)) (m_an2 (m_var (pv 1)) m_non)) (x_call C_X_rim_points (hr.mono (by decide)) (m_an2 (m_var (pv 1)) (m_un un_neg s_neg m_int))))))
    x_nil) (m_if (m_tcmp op_lt s_lt (m_var (pv 0)) m_int (nomark _))
    m_nevers
    m_snil)
    (x_one (x_ret (x_call C_X_slabs (hr.mono (by decide)) (m_an2 (m_var (pv 1)) m_non)))))))) ?_
  intro k d hk hd
  have hc : k = 0 ∨ k = 1 ∨ k = 2 ∨ k = 3 ∨ k = 4 ∨ k = 5 ∨ k = 6 := by omega
  have q1 := H_X_corners d hd
  have q2 := H_X_area d hd
  have q3 := H_X_opposite.1 d .none hd
  have q4 := H_X_within.1 d .none hd
  have q5 := H_X_whole_points.1 d .none hd
  have q6 := H_X_rim_points.1 d (.int (-1)) hd
  have q7 := H_X_slabs d .none hd
  rcases hc with rfl | rfl | rfl | rfl | rfl | rfl | rfl
  · exact nAlt_x (nIf_t rfl (nIf_t rfl (nCall1 (x := .c d) rfl q1)))
  · exact nAlt_x (nIf_t rfl (nIf_f rfl (nCall1 (x := .c d) rfl q2)))
  · exact nAlt_n (nIf_f rfl rfl) rfl (nAlt_x (nIf_t rfl (nIf_t rfl (nCall2 (x := .c d) (y := .c .none) rfl rfl q3))))
  · exact nAlt_n (nIf_f rfl rfl) rfl (nAlt_x (nIf_t rfl (nIf_f rfl (nCall2 (x := .c d) (y := .c .none) rfl rfl q4))))
  · exact nAlt_n (nIf_f rfl rfl) rfl (nAlt_n (nIf_f rfl rfl) rfl (nAlt_x (nIf_t rfl (nIf_t rfl (nCall2 (x := .c d) (y := .c .none) rfl rfl q5)))))
  · exact nAlt_n (nIf_f rfl rfl) rfl (nAlt_n (nIf_f rfl rfl) rfl (nAlt_x (nIf_t rfl (nIf_f rfl (nCall2 (x := .c d) (y := .c (.int (-1))) rfl rfl q6)))))
  · exact nAlt_n (nIf_f rfl rfl) rfl (nAlt_n (nIf_f rfl rfl) rfl (nAlt_n (nIf_f rfl rfl) rfl (nCall2 (x := .c d) (y := .c .none) rfl rfl q7)))
abbrev s__law_no_sticks : Stmt := top 83
abbrev N__law_no_sticks : List Str := ["_law_cell", "_law_good", "_law_found", "_law_at", "_law_bad"]
def Sp__law_no_sticks (g : List D → Option R) : Prop := ∀ c : Int, g [.int c] = some (.o (bdS c))
theorem sc__law_no_sticks : FnScope N__law_no_sticks ["_law_cell"] (defScope s__law_no_sticks) := ⟨rfl, rfl, rfl, by decide +kernel, rfl, by decide +kernel, by decide +kernel⟩
set_option maxHeartbeats 4000000 in
theorem ok__law_no_sticks (T : Txt K mg C_BodyError C_BadSticks C_BadPoint C_BadTimes C_BadMany C_BadCut C_BadThree C_BadPlaces C_BadStick) (F : FunG K mg "_law_no_sticks" s__law_no_sticks ["_law_cell"]) {g__law_bad_pairs : List D → Option R} (C__law_bad_pairs : Cal P w K mg base "_law_bad_pairs" 1 ["_law_cell"] g__law_bad_pairs) (H__law_bad_pairs : Sp__law_bad_pairs g__law_bad_pairs) : ∃ g, Cal P w K mg base "_law_no_sticks" 2 ["_law_cell"] g ∧ Sp__law_no_sticks g := by
  refine cal_ex F sc__law_no_sticks (fun f cdv A outer s H E hr => (@m_cons _ _ _ _ _ _ (m_set (i := 1) sc__law_no_sticks.nd (m_lst (m_an3 (m_tup (m_an2 m_int m_int)) (m_tup (m_an2 m_int m_int)) (m_tup (m_an2 (m_un un_neg s_neg m_int) m_int)))))
    (@m_cons _ _ _ _ _ _ (@m_seto _ _ _ _ 2 _ _ sc__law_no_sticks.nd (@m_lst _ _ _ _ (@m_acons1 _ _ _ _ _ (@m_non _ _ _) (@m_acons1 _ _ _ _ _ (@m_int _ _ _ _) (@m_acons1 _ _ _ _ _ (@m_tup _ _ _ _ _ (@m_anil _)) (@m_acons1 _ _ _ _ _ (m_callT call_tuple_of s_tuple T.b_tuple (m_acons1 (m_var (pv 1)) m_anil)) (@m_acons1 _ _ _ _ _ (@m_str _ _ _ _) (@m_acons1 _ _ _ _ _ (@m_dnew _ _) (@m_acons1 _ _ _ _ _ (@m_lst _ _ _ _ (@m_anil _)) (@m_acons1 _ _ _ _ _ (m_rev (m_var (pv 1)) (neg1 _ _ _)) (@m_acons1 _ _ _ _ _ (m_op op_addG s_add (m_var (pv 1)) (m_lst (m_acons1 (m_tup (m_an2 (m_un un_neg s_neg m_int) m_int)) m_anil))) (@m_acons1 _ _ _ _ _ (m_op op_addG s_add (m_var (pv 1)) (m_lst (m_acons1 (m_tup (m_an2 (m_un un_neg s_neg m_int) m_int)) m_anil))) (@m_acons1 _ _ _ _ _ (@m_lst _ _ _ _ (@m_acons1 _ _ _ _ _ (@m_tup _ _ _ _ _ (@m_acons1 _ _ _ _ _ (@m_int _ _ _ _) (@m_acons1 _ _ _ _ _ (@m_int _ _ _ _) (@m_anil _) rfl) rfl)) (@m_anil _) rfl)) (@m_anil _) rfl) rfl) rfl) rfl) rfl) rfl) rfl) rfl) rfl) rfl) rfl)) (by rfl) (by first | exact Or.inl rfl | exact Or.inr rfl) (by rfl) (by first | exact Or.inl rfl | exact Or.inr rfl))
    (@m_cons _ _ _ _ _ _ (@m_seto _ _ _ _ 2 _ _ sc__law_no_sticks.nd (m_catO (pv 2) (m_lst (m_an7 (m_lst (m_acons1 (m_tup (m_an2 (m_un un_neg s_neg m_int) m_int)) m_anil)) (m_lst (m_acons1 (m_tup (m_an2 m_int (m_un un_neg s_neg m_int))) m_anil)) (m_lst (m_acons1 (m_tup (m_an2 m_int m_int)) m_anil)) (m_lst (m_acons1 (m_tup (m_an2 m_int m_int)) m_anil)) (m_lst (m_acons1 (m_tup (m_an2 (m_un un_neg s_neg m_int) m_int)) m_anil)) (m_lst (m_acons1 (m_tup (m_an2 (m_op op_addG s_add m_int (m_var (pv 0))) m_int)) m_anil)) (m_lst (m_an2 (m_tup (m_an2 m_int m_int)) (m_tup (m_an2 (m_op op_sub s_sub (m_un un_neg s_neg m_int) (m_var (pv 0))) m_int))))))) (by rfl) (by first | exact Or.inl rfl | exact Or.inr rfl) (by rfl) (by first | exact Or.inl rfl | exact Or.inr rfl))
    (@m_cons _ _ _ _ _ _ (@m_seto _ _ _ _ 2 _ _ sc__law_no_sticks.nd (m_catO (pv 2) (m_lst (m_an3 (m_lc (own := [("_law_at", 3)]) rfl sc__law_no_sticks.nd (tg1 3) (m_irange1 T.b_range (m_acons1 m_int m_anil)) (blkOk_by (own := [("_law_at", 3)]) (N := N__law_no_sticks) (sc := defScope s__law_no_sticks) (by decide +kernel)) (fun _ _ _ _ _ => (pg_name (i := 3) sc__law_no_sticks.nd rfl (by first | exact Or.inl rfl | exact Or.inr rfl))) (fun _ _ _ _ _ => m_pts0) (fun _ _ _ _ _ => (m_tup (m_an2 (m_op op_sub s_sub m_int (m_var (pv 3))) (m_op op_addG s_add m_int (m_var (pv 3))))))) (m_lst (m_an2 (m_tup (m_an2 m_int m_int)) (m_tup (m_an2 m_int m_int)))) (m_lst (m_an2 (m_tup (m_an2 m_int m_int)) (m_tup (m_an2 m_int m_int))))))) (by rfl) (by first | exact Or.inl rfl | exact Or.inr rfl) (by rfl) (by first | exact Or.inl rfl | exact Or.inr rfl))
    (@m_cons _ _ _ _ _ _ (m_for (tg2 3 4) PassesOwn.never rfl (m_ienum T.b_enumerate (m_acons1 (m_callC C__law_bad_pairs (hr.mono (by decide)) (m_acons1 (m_var (pv 0)) m_anil)) m_anil)) (pg_tup rfl (pgs_cons (pg_name (i := 3) sc__law_no_sticks.nd rfl (by first | exact Or.inl rfl | exact Or.inr rfl)) (pgs_cons (pg_name (i := 4) sc__law_no_sticks.nd rfl (by first | exact Or.inl rfl | exact Or.inr rfl)) pgs_nil)))
    (@m_sone _ _ _ _ (m_append (pv 2) (m_acons1 (m_op op_addG s_add (m_op op_addG s_add (m_slice (m_var (pv 1)) m_ponone (m_posome (m_op op_mod s_mod (m_var (pv 3)) m_int))) (m_lst (m_acons1 (m_var (pv 4)) m_anil))) (m_slice (m_var (pv 1)) (m_posome (m_op op_mod s_mod (m_var (pv 3)) m_int)) m_ponone)) m_anil))) fsi_K)
    (@m_sone _ _ _ _ (m_reto (pv 2))))))))) ?_
  intro c
  refine runD_to ?_
  have h0 := H__law_bad_pairs c
  refine mSeq_ex (P := fun E => E = [some (.v (.int c)), some (.v (lP gdS)), none, none, none]) ⟨_, mAsgV_eq (r := .o (gdS.map eP)) (by rfl) (Rpro_o _), rfl⟩ ?_
  rintro E rfl
  refine mSeq_ex (P := fun E => E = [some (.v (.int c)), some (.v (lP gdS)), some (.t (Tr.fl bdS1)), none, none]) ⟨_, mAsgO_o (l := bdS1) (by rfl), rfl⟩ ?_
  rintro E rfl
  refine mSeq_ex (P := fun E => E = [some (.v (.int c)), some (.v (lP gdS)), some (.t (Tr.fl (bdS1 ++ bdS2 c))), none, none]) ⟨_, mAsgO_o (l := bdS1 ++ bdS2 c) (mCatO_eq (l := bdS1) (l' := bdS2 c) (y := .o (bdS2 c)) rfl (by rfl) (Rd_o _) rfl (show 11 + 7 ≤ lim by decide)), rfl⟩ ?_
  rintro E rfl
  refine mSeq_ex (P := fun E => E = [some (.v (.int c)), some (.v (lP gdS)), some (.t (Tr.fl (bdS1 ++ bdS2 c ++ bdS3))), none, none]) ⟨_, mAsgO_o (l := bdS1 ++ bdS2 c ++ bdS3) (mCatO_eq (l := bdS1 ++ bdS2 c) (l' := bdS3) (y := .o bdS3) rfl (by rfl) (Rd_o _) rfl (show 18 + 3 ≤ lim by decide)), rfl⟩ ?_
  rintro E rfl
  refine mSeq_ex (mForN (l := bdP.zipIdx) (enc := fun a => D.tuple [.int (a.2 : Nat), a.1]) (qs := fun a => [.int (a.2 : Nat), a.1]) (fun pre E => ∃ j3 j4, E = [some (.v (.int c)), some (.v (lP gdS)), some (.t (Tr.fl (bdS1 ++ bdS2 c ++ bdS3 ++ pre.map bdS4))), j3, j4]) ?_ ⟨none, none, by rw [List.map_nil, List.append_nil]⟩ ?_) ?_
  · exact (mIE_eq (x := .o bdP) (mCons_eq (mCall1 (r := .c (.int c)) rfl rfl h0) (mNil_eq _)) (Rd_o _)).trans rfl
  · rintro pre ⟨d, k⟩ E hm hlt _ ⟨j3, j4, rfl⟩
    refine ⟨rfl, ?_⟩
    have hl : pre.length < 14 := hlt
    have e : mOp gAdd (mOp gAdd (mSl (mVar 1) mNoPart (mPart (mOp gMod (mVar 3) (mC (.int 4))))) (mLst (mCons (mVar 4) mNil))) (mSl (mVar 1) (mPart (mOp gMod (mVar 3) (mC (.int 4)))) mNoPart) [some (.v (.int c)), some (.v (lP gdS)), some (.t (Tr.fl (bdS1 ++ bdS2 c ++ bdS3 ++ pre.map bdS4))), some (.v (.int (k : Nat))), some (.v d)] = some (.o ((gdS.take (k % 4)).map eP ++ [d] ++ (gdS.drop (k % 4)).map eP)) := by
      have c1 : gCut (.c (lP gdS)) none (some ((k : Int) % 4)) = some (.o ((gdS.take (k % 4)).map eP)) := by
        refine (cut_c _ _ _).trans ?_
        rw [show (k : Int) % 4 = ((k % 4 : Nat) : Int) by omega, cut_take, List.map_take]
      have c2 : gCut (.c (lP gdS)) (some ((k : Int) % 4)) none = some (.o ((gdS.drop (k % 4)).map eP)) := by
        refine (cut_c _ _ _).trans ?_
        rw [show (k : Int) % 4 = ((k % 4 : Nat) : Int) by omega, cut_drop, List.map_drop]
      refine (mOp_eq (x := .o ((gdS.take (k % 4)).map eP ++ [d])) (y := .o ((gdS.drop (k % 4)).map eP)) ((mOp_eq (x := .o ((gdS.take (k % 4)).map eP)) (y := .o [d]) ((sl_eq (x := .c (lP gdS)) (lo := none) (hi := some ((k : Int) % 4)) rfl rfl rfl).trans c1) (mLst_o (rs := [.c d]) (mCons_eq rfl (mNil_eq _)) (show 1 ≤ lim by decide) rfl)).trans (add_oo ?_)) ((sl_eq (x := .c (lP gdS)) (lo := some ((k : Int) % 4)) (hi := none) rfl rfl rfl).trans c2)).trans (add_oo ?_)
      · rw [List.length_map, List.length_take]; show min (k % 4) 3 + 1 ≤ 100000; omega
      · rw [List.length_append, List.length_map, List.length_map, List.length_take, List.length_drop]; show min (k % 4) 3 + 1 + (3 - k % 4) ≤ 100000; omega
    refine ⟨_, mApp_eq (l := bdS1 ++ bdS2 c ++ bdS3 ++ pre.map bdS4) (d := bdS4 (d, k)) rfl (mCons_eq e (mNil_eq _)) (by rw [MD.pros_cons, Rpro_o]; rfl) ?_, ⟨some (.v (.int (k : Nat))), some (.v d), ?_⟩⟩
    · rw [List.length_append, List.length_map]
      exact Nat.lt_of_lt_of_le (show 21 + pre.length < 35 by omega) (by decide)
    · rw [List.map_append, ← List.append_assoc]
      rfl
  rintro E ⟨j3, j4, rfl⟩
  exact ⟨_, rfl, _, rfl, rfl⟩
abbrev s__law_with_rows : Stmt := top 84
abbrev N__law_with_rows : List Str := ["_law_door", "_law_thing"]
def Sp_X__law_with_rows (C_BodyError C_BadSticks C_BadPoint C_BadTimes C_BadMany C_BadCut C_BadThree C_BadPlaces C_BadStick : Addr) (g : List D → Option Addr) : Prop := ∀ (k : Int) (d : D), BadR d → g [.int k, d] = some C_BadSticks
theorem sc__law_with_rows : FnScope N__law_with_rows ["_law_door", "_law_thing"] (defScope s__law_with_rows) := ⟨rfl, rfl, rfl, by decide +kernel, rfl, by decide +kernel, by decide +kernel⟩
set_option maxHeartbeats 4000000 in
theorem ok_X__law_with_rows (T : Txt K mg C_BodyError C_BadSticks C_BadPoint C_BadTimes C_BadMany C_BadCut C_BadThree C_BadPlaces C_BadStick) (F : FunG K mg "_law_with_rows" s__law_with_rows ["_law_door", "_law_thing"]) {g_X_gathered : List D → Option Addr} (C_X_gathered : CalX P w K mg base "gathered" 6 ["rows"] g_X_gathered) (H_X_gathered : Sp_X_gathered C_BodyError C_BadSticks C_BadPoint C_BadTimes C_BadMany C_BadCut C_BadThree C_BadPlaces C_BadStick g_X_gathered) : ∃ g, CalX P w K mg base "_law_with_rows" 7 ["_law_door", "_law_thing"] g ∧ Sp_X__law_with_rows C_BodyError C_BadSticks C_BadPoint C_BadTimes C_BadMany C_BadCut C_BadThree C_BadPlaces C_BadStick g := by
  refine cal_exX F sc__law_with_rows (fun f cdv A outer s H E hr => (x_one (x_ret (x_call C_X_gathered (hr.mono (by decide)) (m_acons1 (m_var (pv 1)) m_anil))))) ?_
  intro k d hd
  exact nCall1 (x := .c d) rfl (H_X_gathered d hd)
abbrev s__law_no_rows : Stmt := top 85
abbrev N__law_no_rows : List Str := ["_law_cell", "_law_found", "_law_at", "_law_bad"]
def Sp__law_no_rows (g : List D → Option R) : Prop := ∀ c : Int, g [.int c] = some (.o (bdR c))
theorem sc__law_no_rows : FnScope N__law_no_rows ["_law_cell"] (defScope s__law_no_rows) := ⟨rfl, rfl, rfl, by decide +kernel, rfl, by decide +kernel, by decide +kernel⟩
set_option maxHeartbeats 4000000 in
theorem ok__law_no_rows (T : Txt K mg C_BodyError C_BadSticks C_BadPoint C_BadTimes C_BadMany C_BadCut C_BadThree C_BadPlaces C_BadStick) (F : FunG K mg "_law_no_rows" s__law_no_rows ["_law_cell"]) {g__law_bad_pairs : List D → Option R} (C__law_bad_pairs : Cal P w K mg base "_law_bad_pairs" 1 ["_law_cell"] g__law_bad_pairs) (H__law_bad_pairs : Sp__law_bad_pairs g__law_bad_pairs) : ∃ g, Cal P w K mg base "_law_no_rows" 2 ["_law_cell"] g ∧ Sp__law_no_rows g := by
  refine cal_ex F sc__law_no_rows (fun f cdv A outer s H E hr => (@m_cons _ _ _ _ _ _ (@m_seto _ _ _ _ 1 _ _ sc__law_no_rows.nd (@m_lst _ _ _ _ (@m_acons1 _ _ _ _ _ (@m_non _ _ _) (@m_acons1 _ _ _ _ _ (@m_int _ _ _ _) (@m_acons1 _ _ _ _ _ (@m_tup _ _ _ _ _ (@m_anil _)) (@m_acons1 _ _ _ _ _ (@m_tup _ _ _ _ _ (@m_acons1 _ _ _ _ _ (@m_tup _ _ _ _ _ (@m_acons1 _ _ _ _ _ (@m_int _ _ _ _) (@m_acons1 _ _ _ _ _ (@m_int _ _ _ _) (@m_anil _) rfl) rfl)) (@m_anil _) rfl)) (@m_acons1 _ _ _ _ _ (@m_str _ _ _ _) (@m_acons1 _ _ _ _ _ (@m_dnew _ _) (@m_acons1 _ _ _ _ _ (@m_lst _ _ _ _ (@m_anil _)) (@m_acons1 _ _ _ _ _ (m_op op_rep s_rep (m_lst (m_acons1 (m_tup (m_an2 m_int m_int)) m_anil)) m_int) (@m_acons1 _ _ _ _ _ (@m_lst _ _ _ _ (@m_acons1 _ _ _ _ _ (@m_tup _ _ _ _ _ (@m_acons1 _ _ _ _ _ (@m_int _ _ _ _) (@m_acons1 _ _ _ _ _ (@m_int _ _ _ _) (@m_anil _) rfl) rfl)) (@m_anil _) rfl)) (@m_acons1 _ _ _ _ _ (@m_lst _ _ _ _ (@m_acons1 _ _ _ _ _ (@m_tup _ _ _ _ _ (@m_acons1 _ _ _ _ _ (@m_int _ _ _ _) (@m_acons1 _ _ _ _ _ (@m_int _ _ _ _) (@m_anil _) rfl) rfl)) (@m_acons1 _ _ _ _ _ (@m_tup _ _ _ _ _ (@m_acons1 _ _ _ _ _ (@m_int _ _ _ _) (@m_acons1 _ _ _ _ _ (@m_int _ _ _ _) (@m_anil _) rfl) rfl)) (@m_anil _) rfl) rfl)) (@m_acons1 _ _ _ _ _ (@m_lst _ _ _ _ (@m_acons1 _ _ _ _ _ (@m_tup _ _ _ _ _ (@m_acons1 _ _ _ _ _ (@m_int _ _ _ _) (@m_acons1 _ _ _ _ _ (@m_int _ _ _ _) (@m_anil _) rfl) rfl)) (@m_anil _) rfl)) (@m_acons1 _ _ _ _ _ (@m_lst _ _ _ _ (@m_acons1 _ _ _ _ _ (@m_tup _ _ _ _ _ (@m_acons1 _ _ _ _ _ (@m_int _ _ _ _) (@m_acons1 _ _ _ _ _ (m_un un_neg s_neg m_int) (@m_anil _) rfl) rfl)) (@m_anil _) rfl)) (@m_anil _) rfl) rfl) rfl) rfl) rfl) rfl) rfl) rfl) rfl) rfl) rfl) rfl)) (by rfl) (by first | exact Or.inl rfl | exact Or.inr rfl) (by rfl) (by first | exact Or.inl rfl | exact Or.inr rfl))
    (@m_cons _ _ _ _ _ _ (m_seto (i := 1) sc__law_no_rows.nd (m_catO (pv 1) (m_lst (m_an2 (m_lst (m_acons1 (m_tup (m_an2 (m_op op_addG s_add m_int (m_var (pv 0))) m_int)) m_anil)) (m_lst (m_acons1 (m_tup (m_an2 m_int (m_op op_sub s_sub (m_un un_neg s_neg m_int) (m_var (pv 0))))) m_anil))))))
    (@m_cons _ _ _ _ _ _ (m_for (tg2 2 3) PassesOwn.never rfl (m_ienum T.b_enumerate (m_acons1 (m_callC C__law_bad_pairs (hr.mono (by decide)) (m_acons1 (m_var (pv 0)) m_anil)) m_anil)) (pg_tup rfl (pgs_cons (pg_name (i := 2) sc__law_no_rows.nd rfl (by first | exact Or.inl rfl | exact Or.inr rfl)) (pgs_cons (pg_name (i := 3) sc__law_no_rows.nd rfl (by first | exact Or.inl rfl | exact Or.inr rfl)) pgs_nil)))
    (@m_sone _ _ _ _ (m_append (pv 1) (m_acons1 (m_op op_addG s_add (m_op op_rep s_rep (m_lst (m_acons1 (m_tup (m_an2 m_int m_int)) m_anil)) (m_op op_mod s_mod (m_var (pv 2)) m_int)) (m_lst (m_acons1 (m_var (pv 3)) m_anil))) m_anil))) fsi_K)
    (@m_sone _ _ _ _ (m_reto (pv 1))))))) ?_
  intro c
  refine runD_to ?_
  have h0 := H__law_bad_pairs c
  refine mSeq_ex (P := fun E => E = [some (.v (.int c)), some (.t (Tr.fl bdR1)), none, none]) ⟨_, mAsgO_o (l := bdR1) (by rfl), rfl⟩ ?_
  rintro E rfl
  refine mSeq_ex (P := fun E => E = [some (.v (.int c)), some (.t (Tr.fl (bdR1 ++ bdR2 c))), none, none]) ⟨_, mAsgO_o (l := bdR1 ++ bdR2 c) (mCatO_eq (l := bdR1) (l' := bdR2 c) (y := .o (bdR2 c)) rfl (by rfl) (Rd_o _) rfl (show 12 + 2 ≤ lim by decide)), rfl⟩ ?_
  rintro E rfl
  refine mSeq_ex (mForN (l := bdP.zipIdx) (enc := fun a => D.tuple [.int (a.2 : Nat), a.1]) (qs := fun a => [.int (a.2 : Nat), a.1]) (fun pre E => ∃ j3 j4, E = [some (.v (.int c)), some (.t (Tr.fl (bdR1 ++ bdR2 c ++ pre.map bdR4))), j3, j4]) ?_ ⟨none, none, by rw [List.map_nil, List.append_nil]⟩ ?_) ?_
  · exact (mIE_eq (x := .o bdP) (mCons_eq (mCall1 (r := .c (.int c)) rfl rfl h0) (mNil_eq _)) (Rd_o _)).trans rfl
  · rintro pre ⟨d, k⟩ E hm hlt _ ⟨j3, j4, rfl⟩
    refine ⟨rfl, ?_⟩
    have hl : pre.length < 14 := hlt
    have e : mOp gAdd (mOp gRep (mLst (mCons (mTup (mCons (mC (.int 1)) (mCons (mC (.int 2)) mNil))) mNil)) (mOp gMod (mVar 2) (mC (.int 3)))) (mLst (mCons (mVar 3) mNil)) [some (.v (.int c)), some (.t (Tr.fl (bdR1 ++ bdR2 c ++ pre.map bdR4))), some (.v (.int (k : Nat))), some (.v d)] = some (.o (List.replicate (k % 3) (eP (1, 2)) ++ [d])) := by
      refine (mOp_eq (x := .o (List.replicate (k % 3) (eP (1, 2)))) (y := .o [d]) ((mOp_eq (x := .o [eP (1, 2)]) (y := .c (.int ((k % 3 : Nat) : Int))) rfl ((mOp_eq (x := .c (.int (k : Nat))) (y := .c (.int 3)) rfl rfl).trans ?_)).trans (rep_o (eP (1, 2)) (k % 3) (by omega))) (mLst_o (rs := [.c d]) (mCons_eq rfl (mNil_eq _)) (show 1 ≤ lim by decide) rfl)).trans (add_oo ?_)
      · rw [show ((k % 3 : Nat) : Int) = (k : Int) % 3 by omega]; rfl
      · rw [List.length_replicate]; show k % 3 + 1 ≤ 100000; omega
    refine ⟨_, mApp_eq (l := bdR1 ++ bdR2 c ++ pre.map bdR4) (d := bdR4 (d, k)) rfl (mCons_eq e (mNil_eq _)) (by rw [MD.pros_cons, Rpro_o]; rfl) ?_, ⟨some (.v (.int (k : Nat))), some (.v d), ?_⟩⟩
    · rw [List.length_append, List.length_map]
      exact Nat.lt_of_lt_of_le (show 14 + pre.length < 35 by omega) (by decide)
    · rw [List.map_append, ← List.append_assoc]
      rfl
  rintro E ⟨j3, j4, rfl⟩
  exact ⟨_, rfl, _, rfl, rfl⟩
abbrev s__law_with_point : Stmt := top 86
abbrev N__law_with_point : List Str := ["_law_door", "_law_thing"]
def Sp_X__law_with_point (C_BodyError C_BadSticks C_BadPoint C_BadTimes C_BadMany C_BadCut C_BadThree C_BadPlaces C_BadStick : Addr) (g : List D → Option Addr) : Prop := ∀ (k : Nat) (d : D), k < 2 → BadP d → g [.int (k : Nat), d] = some C_BadPoint
theorem sc__law_with_point : FnScope N__law_with_point ["_law_door", "_law_thing"] (defScope s__law_with_point) := ⟨rfl, rfl, rfl, by decide +kernel, rfl, by decide +kernel, by decide +kernel⟩
set_option maxHeartbeats 4000000 in
theorem ok_X__law_with_point (T : Txt K mg C_BodyError C_BadSticks C_BadPoint C_BadTimes C_BadMany C_BadCut C_BadThree C_BadPlaces C_BadStick) (F : FunG K mg "_law_with_point" s__law_with_point ["_law_door", "_law_thing"]) {g_X_opposite : List D → Option Addr} (C_X_opposite : CalX P w K mg base "opposite" 7 ["sticks", "point"] g_X_opposite) (H_X_opposite : Sp_X_opposite C_BodyError C_BadSticks C_BadPoint C_BadTimes C_BadMany C_BadCut C_BadThree C_BadPlaces C_BadStick g_X_opposite) {g_X_within : List D → Option Addr} (C_X_within : CalX P w K mg base "within" 7 ["sticks", "point"] g_X_within) (H_X_within : Sp_X_within C_BodyError C_BadSticks C_BadPoint C_BadTimes C_BadMany C_BadCut C_BadThree C_BadPlaces C_BadStick g_X_within) : ∃ g, CalX P w K mg base "_law_with_point" 8 ["_law_door", "_law_thing"] g ∧ Sp_X__law_with_point C_BodyError C_BadSticks C_BadPoint C_BadTimes C_BadMany C_BadCut C_BadThree C_BadPlaces C_BadStick g := by
  refine cal_exX F sc__law_with_point (fun f cdv A outer s H E hr => (x_one (x_ret (x_ifExp (m_tcmp (op_eqD hr.units) s_eq (m_var (pv 0)) m_int (nomark _)) (x_call C_X_opposite (hr.mono (by decide)) (m_an2 (m_lst (m_acons1 (m_tup (m_an2 m_int m_int)) m_anil)) (m_var (pv 1)))) (x_call C_X_within (hr.mono (by decide)) (m_an2 (m_lst (m_an2 (m_tup (m_an2 m_int m_int)) (m_tup (m_an2 m_int m_int)))) (m_var (pv 1)))))))) ?_
  intro k d hk hd
  have hc : k = 0 ∨ k = 1 := by omega
  have q1 := H_X_opposite.2 [((2 : Int), (1 : Int))] d ⟨by decide, by decide, by decide, by decide, by decide⟩ hd
  have q2 := H_X_within.2 [((2 : Int), (1 : Int)), (0, 3)] d ⟨by decide, by decide, by decide, by decide, by decide⟩ hd
  rcases hc with rfl | rfl
  · exact nIf_t rfl (nCall2 (x := .o ([((2 : Int), (1 : Int))].map eP)) (y := .c d) rfl rfl (by rw [Rd_o]; exact q1))
  · exact nIf_f rfl (nCall2 (x := .o ([((2 : Int), (1 : Int)), (0, 3)].map eP)) (y := .c d) rfl rfl (by rw [Rd_o]; exact q2))
abbrev s__law_with_times : Stmt := top 87
abbrev N__law_with_times : List Str := ["_law_door", "_law_thing"]
def Sp_X__law_with_times (C_BodyError C_BadSticks C_BadPoint C_BadTimes C_BadMany C_BadCut C_BadThree C_BadPlaces C_BadStick : Addr) (g : List D → Option Addr) : Prop := ∀ (k : Nat) (d : D), k < 2 → BadT d → g [.int (k : Nat), d] = some C_BadTimes
theorem sc__law_with_times : FnScope N__law_with_times ["_law_door", "_law_thing"] (defScope s__law_with_times) := ⟨rfl, rfl, rfl, by decide +kernel, rfl, by decide +kernel, by decide +kernel⟩
set_option maxHeartbeats 4000000 in
theorem ok_X__law_with_times (T : Txt K mg C_BodyError C_BadSticks C_BadPoint C_BadTimes C_BadMany C_BadCut C_BadThree C_BadPlaces C_BadStick) (F : FunG K mg "_law_with_times" s__law_with_times ["_law_door", "_law_thing"]) {g_X_whole_points : List D → Option Addr} (C_X_whole_points : CalX P w K mg base "whole_points" 7 ["sticks", "times"] g_X_whole_points) (H_X_whole_points : Sp_X_whole_points C_BodyError C_BadSticks C_BadPoint C_BadTimes C_BadMany C_BadCut C_BadThree C_BadPlaces C_BadStick g_X_whole_points) {g_X_rim_points : List D → Option Addr} (C_X_rim_points : CalX P w K mg base "rim_points" 7 ["sticks", "times"] g_X_rim_points) (H_X_rim_points : Sp_X_rim_points C_BodyError C_BadSticks C_BadPoint C_BadTimes C_BadMany C_BadCut C_BadThree C_BadPlaces C_BadStick g_X_rim_points) : ∃ g, CalX P w K mg base "_law_with_times" 8 ["_law_door", "_law_thing"] g ∧ Sp_X__law_with_times C_BodyError C_BadSticks C_BadPoint C_BadTimes C_BadMany C_BadCut C_BadThree C_BadPlaces C_BadStick g := by
  refine cal_exX F sc__law_with_times (fun f cdv A outer s H E hr => (x_one (x_ret (x_ifExp (m_tcmp (op_eqD hr.units) s_eq (m_var (pv 0)) m_int (nomark _)) (x_call C_X_whole_points (hr.mono (by decide)) (m_an2 (m_lst (m_acons1 (m_tup (m_an2 m_int m_int)) m_anil)) (m_var (pv 1)))) (x_call C_X_rim_points (hr.mono (by decide)) (m_an2 (m_lst (m_acons1 (m_tup (m_an2 m_int m_int)) m_anil)) (m_var (pv 1)))))))) ?_
  intro k d hk hd
  have hc : k = 0 ∨ k = 1 := by omega
  have q1 := H_X_whole_points.2 [((2 : Int), (1 : Int))] d ⟨by decide, by decide, by decide, by decide, by decide⟩ hd
  have q2 := H_X_rim_points.2 [((2 : Int), (1 : Int))] d ⟨by decide, by decide, by decide, by decide, by decide⟩ hd
  rcases hc with rfl | rfl
  · exact nIf_t rfl (nCall2 (x := .o ([((2 : Int), (1 : Int))].map eP)) (y := .c d) rfl rfl (by rw [Rd_o]; exact q1))
  · exact nIf_f rfl (nCall2 (x := .o ([((2 : Int), (1 : Int))].map eP)) (y := .c d) rfl rfl (by rw [Rd_o]; exact q2))
abbrev s__law_no_times : Stmt := top 88
abbrev N__law_no_times : List Str := ["_law_cell"]
def Sp__law_no_times (g : List D → Option R) : Prop := ∀ c : Int, g [.int c] = some (.o (bdT c))
theorem sc__law_no_times : FnScope N__law_no_times ["_law_cell"] (defScope s__law_no_times) := ⟨rfl, rfl, rfl, by decide +kernel, rfl, by decide +kernel, by decide +kernel⟩
set_option maxHeartbeats 4000000 in
theorem ok__law_no_times (T : Txt K mg C_BodyError C_BadSticks C_BadPoint C_BadTimes C_BadMany C_BadCut C_BadThree C_BadPlaces C_BadStick) (F : FunG K mg "_law_no_times" s__law_no_times ["_law_cell"]) : ∃ g, Cal P w K mg base "_law_no_times" 1 ["_law_cell"] g ∧ Sp__law_no_times g := by
  refine cal_ex F sc__law_no_times (fun f cdv A outer s H E hr => (@m_sone _ _ _ _ (m_ret (@m_lst _ _ _ _ (@m_acons1 _ _ _ _ _ (@m_non _ _ _) (@m_acons1 _ _ _ _ _ (m_un un_neg s_neg m_int) (@m_acons1 _ _ _ _ _ (m_op op_sub s_sub (m_un un_neg s_neg m_int) (m_var (pv 0))) (@m_acons1 _ _ _ _ _ (@m_bl _ _ _ _) (@m_acons1 _ _ _ _ _ (@m_bl _ _ _ _) (@m_acons1 _ _ _ _ _ (@m_str _ _ _ _) (@m_acons1 _ _ _ _ _ (@m_lst _ _ _ _ (@m_acons1 _ _ _ _ _ (@m_int _ _ _ _) (@m_anil _) rfl)) (@m_acons1 _ _ _ _ _ (@m_tup _ _ _ _ _ (@m_acons1 _ _ _ _ _ (@m_int _ _ _ _) (@m_anil _) rfl)) (@m_acons1 _ _ _ _ _ (@m_dnew _ _) (@m_anil _) rfl) rfl) rfl) rfl) rfl) rfl) rfl) rfl) rfl))))) ?_
  intro c
  exact runD_eq (r := .o (bdT c)) (by rfl)
abbrev s__law_refused : Stmt := top 79
abbrev N__law_refused : List Str := ["_law_ask", "_law_door", "_law_thing", "_law_due", "_law_error"]
def Sp__law_refused (g : List D → Option R) : Prop := (∀ (k : Nat) (d : D), k < 7 → BadS d → g [.fn "_law_with_sticks", .int (k : Nat), d, .int 0] = some (.c (.bool true))) ∧ (∀ (k : Int) (d : D), BadR d → g [.fn "_law_with_rows", .int k, d, .int 0] = some (.c (.bool true))) ∧ (∀ (k : Nat) (d : D), k < 2 → BadP d → g [.fn "_law_with_point", .int (k : Nat), d, .int 1] = some (.c (.bool true))) ∧ (∀ (k : Nat) (d : D), k < 2 → BadT d → g [.fn "_law_with_times", .int (k : Nat), d, .int 2] = some (.c (.bool true)))
theorem sc__law_refused : FnScope N__law_refused ["_law_ask", "_law_door", "_law_thing", "_law_due"] (defScope s__law_refused) := ⟨rfl, rfl, rfl, by decide +kernel, rfl, by decide +kernel, by decide +kernel⟩
set_option maxHeartbeats 4000000 in
theorem ok__law_refused (T : Txt K mg C_BodyError C_BadSticks C_BadPoint C_BadTimes C_BadMany C_BadCut C_BadThree C_BadPlaces C_BadStick) (F : FunG K mg "_law_refused" s__law_refused ["_law_ask", "_law_door", "_law_thing", "_law_due"]) {g_N__law_alone : List D → Option R} (C_N__law_alone : CalN P w K mg base "_law_alone" 1 ["_law_error", "_law_due"] g_N__law_alone) (H_N__law_alone : Sp_N__law_alone C_BodyError C_BadSticks C_BadPoint C_BadTimes C_BadMany C_BadCut C_BadThree C_BadPlaces C_BadStick g_N__law_alone) {g_X__law_with_times : List D → Option Addr} (C_X__law_with_times : CalX P w K mg base "_law_with_times" 8 ["_law_door", "_law_thing"] g_X__law_with_times) (H_X__law_with_times : Sp_X__law_with_times C_BodyError C_BadSticks C_BadPoint C_BadTimes C_BadMany C_BadCut C_BadThree C_BadPlaces C_BadStick g_X__law_with_times) {g_X__law_with_point : List D → Option Addr} (C_X__law_with_point : CalX P w K mg base "_law_with_point" 8 ["_law_door", "_law_thing"] g_X__law_with_point) (H_X__law_with_point : Sp_X__law_with_point C_BodyError C_BadSticks C_BadPoint C_BadTimes C_BadMany C_BadCut C_BadThree C_BadPlaces C_BadStick g_X__law_with_point) {g_X__law_with_rows : List D → Option Addr} (C_X__law_with_rows : CalX P w K mg base "_law_with_rows" 7 ["_law_door", "_law_thing"] g_X__law_with_rows) (H_X__law_with_rows : Sp_X__law_with_rows C_BodyError C_BadSticks C_BadPoint C_BadTimes C_BadMany C_BadCut C_BadThree C_BadPlaces C_BadStick g_X__law_with_rows) {g_X__law_with_sticks : List D → Option Addr} (C_X__law_with_sticks : CalX P w K mg base "_law_with_sticks" 8 ["_law_door", "_law_thing"] g_X__law_with_sticks) (H_X__law_with_sticks : Sp_X__law_with_sticks C_BodyError C_BadSticks C_BadPoint C_BadTimes C_BadMany C_BadCut C_BadThree C_BadPlaces C_BadStick g_X__law_with_sticks) : ∃ g, Cal P w K mg base "_law_refused" 9 ["_law_ask", "_law_door", "_law_thing", "_law_due"] g ∧ Sp__law_refused g := by
  refine cal_ex F sc__law_refused (fun f cdv A outer s H E hr => (@m_cons _ _ _ _ _ _ (m_try (i := 4) (fun pn xe => (x_callV (k := 8) (tabx_cons (C_X__law_with_sticks.lift (by decide)) (tabx_cons (C_X__law_with_rows.lift (by decide)) (tabx_cons (C_X__law_with_point.lift (by decide)) (tabx_cons (C_X__law_with_times.lift (by decide)) tabx_nil)))) (hr.mono (by decide)) (pv 0) (m_an2 (m_var (pv 1)) (m_var (pv 2))))) (fun a => (@m_sone _ _ _ _ (m_ret (m_callH (a := a) C_N__law_alone ((hr.mono (by decide)).n.mark _) rfl (m_an2 (m_var (pv 4)) (m_var (pv 3))))))) T.mc_BodyError (exs_cons T.xm_BadSticks (exs_cons T.xm_BadPoint (exs_cons T.xm_BadTimes exs_nil))) sc__law_refused.nd rfl rfl)
    (@m_sone _ _ _ _ (m_ret m_bl)))) ?_
  refine ⟨?_, ?_, ?_, ?_⟩
  · intro k d hk hd
    have hx : _ := H_X__law_with_sticks k d hk hd
    have ha := fun a => (H_N__law_alone a).1
    refine runD_to ⟨.rt (.c (.bool true)), mSeq_rt (mTry_rt (C := C_BadSticks) (nCallV_eq rfl rfl (nCall2 (x := .c (.int (k : Nat))) (y := .c d) rfl rfl hx)) (by simp) fun a => mRet_eq (r := .c (.bool true)) (mCallH2 (x := .c (.exc a C_BadSticks)) (y := .c (.int 0)) rfl rfl rfl (ha a))), _, rfl, rfl⟩
  · intro k d hd
    have hx : _ := H_X__law_with_rows k d hd
    have ha := fun a => (H_N__law_alone a).1
    refine runD_to ⟨.rt (.c (.bool true)), mSeq_rt (mTry_rt (C := C_BadSticks) (nCallV_eq rfl rfl (nCall2 (x := .c (.int k)) (y := .c d) rfl rfl hx)) (by simp) fun a => mRet_eq (r := .c (.bool true)) (mCallH2 (x := .c (.exc a C_BadSticks)) (y := .c (.int 0)) rfl rfl rfl (ha a))), _, rfl, rfl⟩
  · intro k d hk hd
    have hx : _ := H_X__law_with_point k d hk hd
    have ha := fun a => (H_N__law_alone a).2.1
    refine runD_to ⟨.rt (.c (.bool true)), mSeq_rt (mTry_rt (C := C_BadPoint) (nCallV_eq rfl rfl (nCall2 (x := .c (.int (k : Nat))) (y := .c d) rfl rfl hx)) (by simp) fun a => mRet_eq (r := .c (.bool true)) (mCallH2 (x := .c (.exc a C_BadPoint)) (y := .c (.int 1)) rfl rfl rfl (ha a))), _, rfl, rfl⟩
  · intro k d hk hd
    have hx : _ := H_X__law_with_times k d hk hd
    have ha := fun a => (H_N__law_alone a).2.2
    refine runD_to ⟨.rt (.c (.bool true)), mSeq_rt (mTry_rt (C := C_BadTimes) (nCallV_eq rfl rfl (nCall2 (x := .c (.int (k : Nat))) (y := .c d) rfl rfl hx)) (by simp) fun a => mRet_eq (r := .c (.bool true)) (mCallH2 (x := .c (.exc a C_BadTimes)) (y := .c (.int 2)) rfl rfl rfl (ha a))), _, rfl, rfl⟩
abbrev s__law_all_refused : Stmt := top 80
abbrev N__law_all_refused : List Str := ["_law_script", "_law_kinds", "_law_ask", "_law_doors", "_law_things", "_law_due", "_law_door", "_law_thing", "_law_cell", "_law_some"]
def Sp__law_all_refused (g : List D → Option R) : Prop := ∀ ns : List Int, ns.length ≤ 63 → g [.list (ns.map .int), .list [.tuple [.fn "_law_with_sticks", .int 7, .fn "_law_no_sticks", .int 0], .tuple [.fn "_law_with_rows", .int 1, .fn "_law_no_rows", .int 0], .tuple [.fn "_law_with_point", .int 2, .fn "_law_bad_pairs", .int 1], .tuple [.fn "_law_with_times", .int 2, .fn "_law_no_times", .int 2]]] = some (.c (.bool true))
theorem sc__law_all_refused : FnScope N__law_all_refused ["_law_script", "_law_kinds"] (defScope s__law_all_refused) := ⟨rfl, rfl, rfl, by decide +kernel, rfl, by decide +kernel, by decide +kernel⟩
set_option maxHeartbeats 4000000 in
theorem ok__law_all_refused (T : Txt K mg C_BodyError C_BadSticks C_BadPoint C_BadTimes C_BadMany C_BadCut C_BadThree C_BadPlaces C_BadStick) (F : FunG K mg "_law_all_refused" s__law_all_refused ["_law_script", "_law_kinds"]) {g__law_refused : List D → Option R} (C__law_refused : Cal P w K mg base "_law_refused" 9 ["_law_ask", "_law_door", "_law_thing", "_law_due"] g__law_refused) (H__law_refused : Sp__law_refused g__law_refused) {g__law_no_times : List D → Option R} (C__law_no_times : Cal P w K mg base "_law_no_times" 1 ["_law_cell"] g__law_no_times) (H__law_no_times : Sp__law_no_times g__law_no_times) {g__law_bad_pairs : List D → Option R} (C__law_bad_pairs : Cal P w K mg base "_law_bad_pairs" 1 ["_law_cell"] g__law_bad_pairs) (H__law_bad_pairs : Sp__law_bad_pairs g__law_bad_pairs) {g__law_no_rows : List D → Option R} (C__law_no_rows : Cal P w K mg base "_law_no_rows" 2 ["_law_cell"] g__law_no_rows) (H__law_no_rows : Sp__law_no_rows g__law_no_rows) {g__law_no_sticks : List D → Option R} (C__law_no_sticks : Cal P w K mg base "_law_no_sticks" 2 ["_law_cell"] g__law_no_sticks) (H__law_no_sticks : Sp__law_no_sticks g__law_no_sticks) : ∃ g, Cal P w K mg base "_law_all_refused" 10 ["_law_script", "_law_kinds"] g ∧ Sp__law_all_refused g := by
  refine cal_ex F sc__law_all_refused (fun f cdv A outer s H E hr => (@m_cons _ _ _ _ _ _ (m_for (tgT [2, 3, 4, 5]) PassesOwn.never rfl (m_ilist (m_var (pv 1))) (pg_tup rfl (pgs_cons (pg_name (i := 2) sc__law_all_refused.nd rfl (by first | exact Or.inl rfl | exact Or.inr rfl)) (pgs_cons (pg_name (i := 3) sc__law_all_refused.nd rfl (by first | exact Or.inl rfl | exact Or.inr rfl)) (pgs_cons (pg_name (i := 4) sc__law_all_refused.nd rfl (by first | exact Or.inl rfl | exact Or.inr rfl)) (pgs_cons (pg_name (i := 5) sc__law_all_refused.nd rfl (by first | exact Or.inl rfl | exact Or.inr rfl)) pgs_nil)))))
    (@m_cons _ _ _ _ _ _ (m_for (tg1 6) PassesOwn.never rfl (m_irange1 T.b_range (m_acons1 (m_var (pv 3)) m_anil)) (pg_name (i := 6) sc__law_all_refused.nd rfl (by first | exact Or.inl rfl | exact Or.inr rfl))
    (@m_sone _ _ _ _ (m_if (m_tnot (m_tval (m_callB (cr_all rfl) s_all T.b_all (m_acons1 (m_lc (own := [("_law_thing", 7)]) rfl sc__law_all_refused.nd (tg1 7) (m_ilist (m_callV (k := 2) (tab_cons (C__law_no_sticks.lift (by decide)) (tab_cons (C__law_no_rows.lift (by decide)) (tab_cons (C__law_bad_pairs.lift (by decide)) (tab_cons (C__law_no_times.lift (by decide)) tab_nil)))) (hr.mono (by decide)) (pv 4) (m_acons1 (m_callB call_len_seq s_len T.b_len (m_acons1 (m_var (pv 0)) m_anil)) m_anil))) (blkOk_by (own := [("_law_thing", 7)]) (N := N__law_all_refused) (sc := defScope s__law_all_refused) (by decide +kernel)) (fun _ _ _ _ _ => (pg_name (i := 7) sc__law_all_refused.nd rfl (by first | exact Or.inl rfl | exact Or.inr rfl))) (fun _ _ _ _ _ => m_pts0) (fun _ _ _ _ _ => (m_callC C__law_refused (hr.mono (by decide)) (m_an4 (m_var (pv 2)) (m_var (pv 6)) (m_var (pv 7)) (m_var (pv 5)))))) m_anil))))
    (@m_sone _ _ _ _ (m_ret m_bl))
    m_snil)) fsi_K)
    (@m_sone _ _ _ _ (m_for (tg1 8) PassesOwn.never rfl (m_ilist (m_var (pv 0))) (pg_name (i := 8) sc__law_all_refused.nd rfl (by first | exact Or.inl rfl | exact Or.inr rfl))
    (@m_cons _ _ _ _ _ _ (m_set (i := 9) sc__law_all_refused.nd (m_callV (k := 2) (tab_cons (C__law_no_sticks.lift (by decide)) (tab_cons (C__law_no_rows.lift (by decide)) (tab_cons (C__law_bad_pairs.lift (by decide)) (tab_cons (C__law_no_times.lift (by decide)) tab_nil)))) (hr.mono (by decide)) (pv 4) (m_acons1 (m_op op_mod s_mod (m_var (pv 8)) (m_op op_pow s_pow m_int m_int)) m_anil)))
    (@m_sone _ _ _ _ (m_if (m_tnot (m_tval (m_callC C__law_refused (hr.mono (by decide)) (m_an4 (m_var (pv 2)) (m_op op_mod s_mod (m_var (pv 8)) (m_var (pv 3))) (m_ix (m_var (pv 9)) (m_op op_mod s_mod (m_op op_fdiv s_div (m_var (pv 8)) m_int) (m_callB call_len_seq s_len T.b_len (m_acons1 (m_var (pv 9)) m_anil)))) (m_var (pv 5))))))
    (@m_sone _ _ _ _ (m_ret m_bl))
    m_snil))) fsi_N))) fsi_N)
    (@m_sone _ _ _ _ (m_ret m_bl)))) ?_
  intro ns hlen
  refine runD_to ?_
  have len : mCl gLen (mCons (mVar 0) mNil) = mCl gLen (mCons (mVar 0) mNil) := rfl
  have body : ∀ (fa ft : Str) (doors : Nat) (due : Int) (th : Int → List D) (q : List Str × (List D → Option R)), 1 ≤ doors → doors ≤ 7 → findT [("_law_no_sticks", ["_law_cell"], g__law_no_sticks), ("_law_no_rows", ["_law_cell"], g__law_no_rows), ("_law_bad_pairs", ["_law_cell"], g__law_bad_pairs), ("_law_no_times", ["_law_cell"], g__law_no_times)] ft = some q → q.1 = (["_law_cell"] : List Str) → (∀ c, q.2 [.int c] = some (.o (th c))) → (∀ c, 1 ≤ (th c).length ∧ (th c).length ≤ 60) →
      (∀ c, 0 ≤ c → ∀ (k : Nat) (d : D), k < doors → d ∈ th c → g__law_refused [.fn fa, .int (k : Nat), d, .int due] = some (.c (.bool true))) →
      ∀ (j6 j7 j8 j9 : Option Sl), ∃ E', (mSeq (mFor [6] pick1 (mIR1 (mCons (mVar 3) mNil)) (mIfS (mTNot (mB (mCl gAll (mCons (mLc [7] pick1 (mIL (mCallV 4 [("_law_no_sticks", ["_law_cell"], g__law_no_sticks), ("_law_no_rows", ["_law_cell"], g__law_no_rows), ("_law_bad_pairs", ["_law_cell"], g__law_bad_pairs), ("_law_no_times", ["_law_cell"], g__law_no_times)] (mCons (mCl gLen (mCons (mVar 0) mNil)) mNil))) mYes (mCall 4 g__law_refused (mCons (mVar 2) (mCons (mVar 6) (mCons (mVar 7) (mCons (mVar 5) mNil)))))) mNil)))) (mRet (mC (.bool false))) mNext)) (mFor [8] pick1 (mIL (mVar 0)) (mSeq (mAsgV 9 (mCallV 4 [("_law_no_sticks", ["_law_cell"], g__law_no_sticks), ("_law_no_rows", ["_law_cell"], g__law_no_rows), ("_law_bad_pairs", ["_law_cell"], g__law_bad_pairs), ("_law_no_times", ["_law_cell"], g__law_no_times)] (mCons (mOp gMod (mVar 8) (mOp gPow (mC (.int 10)) (mC (.int 60)))) mNil))) (mIfS (mTNot (mB (mCall 4 g__law_refused (mCons (mVar 2) (mCons (mOp gMod (mVar 8) (mVar 3)) (mCons (mOp gIx (mVar 9) (mOp gMod (mOp gDiv (mVar 8) (mC (.int 7))) (mCl gLen (mCons (mVar 9) mNil)))) (mCons (mVar 5) mNil))))))) (mRet (mC (.bool false))) mNext)))) [some (.v (.list (ns.map .int))), some (.v (.list [.tuple [.fn "_law_with_sticks", .int 7, .fn "_law_no_sticks", .int 0], .tuple [.fn "_law_with_rows", .int 1, .fn "_law_no_rows", .int 0], .tuple [.fn "_law_with_point", .int 2, .fn "_law_bad_pairs", .int 1], .tuple [.fn "_law_with_times", .int 2, .fn "_law_no_times", .int 2]])), some (.v (.fn fa)), some (.v (.int (doors : Nat))), some (.v (.fn ft)), some (.v (.int due)), j6, j7, j8, j9] = some (.nx E') ∧ ∃ (k2 k3 k4 k5 k6 k7 k8 k9 : Option Sl), E' = [some (.v (.list (ns.map .int))), some (.v (.list [.tuple [.fn "_law_with_sticks", .int 7, .fn "_law_no_sticks", .int 0], .tuple [.fn "_law_with_rows", .int 1, .fn "_law_no_rows", .int 0], .tuple [.fn "_law_with_point", .int 2, .fn "_law_bad_pairs", .int 1], .tuple [.fn "_law_with_times", .int 2, .fn "_law_no_times", .int 2]])), k2, k3, k4, k5, k6, k7, k8, k9] := by
    intro fa ft doors due th q hd1 hd7 hq hqp hth hln href j6 j7 j8 j9
    have cv : ∀ (c : Int) (n : MA) (h6 h7 h8 h9 : Option Sl), n [some (.v (.list (ns.map .int))), some (.v (.list [.tuple [.fn "_law_with_sticks", .int 7, .fn "_law_no_sticks", .int 0], .tuple [.fn "_law_with_rows", .int 1, .fn "_law_no_rows", .int 0], .tuple [.fn "_law_with_point", .int 2, .fn "_law_bad_pairs", .int 1], .tuple [.fn "_law_with_times", .int 2, .fn "_law_no_times", .int 2]])), some (.v (.fn fa)), some (.v (.int (doors : Nat))), some (.v (.fn ft)), some (.v (.int due)), h6, h7, h8, h9] = some [.c (.int c)] → mCallV 4 [("_law_no_sticks", ["_law_cell"], g__law_no_sticks), ("_law_no_rows", ["_law_cell"], g__law_no_rows), ("_law_bad_pairs", ["_law_cell"], g__law_bad_pairs), ("_law_no_times", ["_law_cell"], g__law_no_times)] n [some (.v (.list (ns.map .int))), some (.v (.list [.tuple [.fn "_law_with_sticks", .int 7, .fn "_law_no_sticks", .int 0], .tuple [.fn "_law_with_rows", .int 1, .fn "_law_no_rows", .int 0], .tuple [.fn "_law_with_point", .int 2, .fn "_law_bad_pairs", .int 1], .tuple [.fn "_law_with_times", .int 2, .fn "_law_no_times", .int 2]])), some (.v (.fn fa)), some (.v (.int (doors : Nat))), some (.v (.fn ft)), some (.v (.int due)), h6, h7, h8, h9] = some (.o (th c)) := fun c n h6 h7 h8 h9 hn => mCallV_eq rfl hq (by
      rw [hqp]
      unfold mCall
      rw [hn]
      show (match pros [R.c (.int c)] with | some ds => (q.2 ds).map R.up | none => (q.2 [.int c]).map R.taint) = _
      rw [show pros [R.c (.int c)] = some [.int c] from rfl]
      show (q.2 [.int c]).map R.up = _
      rw [hth]
      rfl)
    refine mSeq_nxE (P := fun E => ∃ (n6 n7 n8 n9 : Option Sl), E = [some (.v (.list (ns.map .int))), some (.v (.list [.tuple [.fn "_law_with_sticks", .int 7, .fn "_law_no_sticks", .int 0], .tuple [.fn "_law_with_rows", .int 1, .fn "_law_no_rows", .int 0], .tuple [.fn "_law_with_point", .int 2, .fn "_law_bad_pairs", .int 1], .tuple [.fn "_law_with_times", .int 2, .fn "_law_no_times", .int 2]])), some (.v (.fn fa)), some (.v (.int (doors : Nat))), some (.v (.fn ft)), some (.v (.int due)), n6, n7, n8, n9]) ?_ ?_
    · refine mFor_ind (l := List.range ((doors : Nat) : Int).toNat) (enc := fun i => D.int (0 + (i : Int))) (fun pre E => ∃ (n6 n7 n8 n9 : Option Sl), E = [some (.v (.list (ns.map .int))), some (.v (.list [.tuple [.fn "_law_with_sticks", .int 7, .fn "_law_no_sticks", .int 0], .tuple [.fn "_law_with_rows", .int 1, .fn "_law_no_rows", .int 0], .tuple [.fn "_law_with_point", .int 2, .fn "_law_bad_pairs", .int 1], .tuple [.fn "_law_with_times", .int 2, .fn "_law_no_times", .int 2]])), some (.v (.fn fa)), some (.v (.int (doors : Nat))), some (.v (.fn ft)), some (.v (.int due)), n6, n7, n8, n9]) (mIR1_eq (j := (doors : Nat)) rfl (by unfold big62; apply decide_eq_true; omega)) ⟨j6, j7, j8, j9, rfl⟩ ?_
      rintro pre i E hi hlt _ ⟨n6, n7, n8, n9, rfl⟩
      have hid : i < doors := by have := List.mem_range.mp hi; omega
      have h1 : mCallV 4 [("_law_no_sticks", ["_law_cell"], g__law_no_sticks), ("_law_no_rows", ["_law_cell"], g__law_no_rows), ("_law_bad_pairs", ["_law_cell"], g__law_bad_pairs), ("_law_no_times", ["_law_cell"], g__law_no_times)] (mCons (mCl gLen (mCons (mVar 0) mNil)) mNil) [some (.v (.list (ns.map .int))), some (.v (.list [.tuple [.fn "_law_with_sticks", .int 7, .fn "_law_no_sticks", .int 0], .tuple [.fn "_law_with_rows", .int 1, .fn "_law_no_rows", .int 0], .tuple [.fn "_law_with_point", .int 2, .fn "_law_bad_pairs", .int 1], .tuple [.fn "_law_with_times", .int 2, .fn "_law_no_times", .int 2]])), some (.v (.fn fa)), some (.v (.int (doors : Nat))), some (.v (.fn ft)), some (.v (.int due)), some (.v (.int (0 + (i : Int)))), none, n8, n9] = some (.o (th ns.length)) := cv _ _ _ _ _ _ (mCons_eq ((mCl1 (r := .c (.list (ns.map .int))) rfl).trans (by show some (R.c (.int ((ns.map D.int).length : Nat))) = _; rw [List.length_map])) (mNil_eq _))
      have h1' : mCallV 4 [("_law_no_sticks", ["_law_cell"], g__law_no_sticks), ("_law_no_rows", ["_law_cell"], g__law_no_rows), ("_law_bad_pairs", ["_law_cell"], g__law_bad_pairs), ("_law_no_times", ["_law_cell"], g__law_no_times)] (mCons (mCl gLen (mCons (mVar 0) mNil)) mNil) [some (.v (.list (ns.map .int))), some (.v (.list [.tuple [.fn "_law_with_sticks", .int 7, .fn "_law_no_sticks", .int 0], .tuple [.fn "_law_with_rows", .int 1, .fn "_law_no_rows", .int 0], .tuple [.fn "_law_with_point", .int 2, .fn "_law_bad_pairs", .int 1], .tuple [.fn "_law_with_times", .int 2, .fn "_law_no_times", .int 2]])), some (.v (.fn fa)), some (.v (.int (doors : Nat))), some (.v (.fn ft)), some (.v (.int due)), some (.v (.int (0 + (i : Int)))), n7, n8, n9] = some (.o (th ns.length)) := cv _ _ _ _ _ _ (mCons_eq ((mCl1 (r := .c (.list (ns.map .int))) rfl).trans (by show some (R.c (.int ((ns.map D.int).length : Nat))) = _; rw [List.length_map])) (mNil_eq _))
      have h2 := mAllG (is := [7]) (pick := pick1) (mi := mIL (mCallV 4 [("_law_no_sticks", ["_law_cell"], g__law_no_sticks), ("_law_no_rows", ["_law_cell"], g__law_no_rows), ("_law_bad_pairs", ["_law_cell"], g__law_bad_pairs), ("_law_no_times", ["_law_cell"], g__law_no_times)] (mCons (mCl gLen (mCons (mVar 0) mNil)) mNil))) (me := mCall 4 g__law_refused (mCons (mVar 2) (mCons (mVar 6) (mCons (mVar 7) (mCons (mVar 5) mNil))))) (E := [some (.v (.list (ns.map .int))), some (.v (.list [.tuple [.fn "_law_with_sticks", .int 7, .fn "_law_no_sticks", .int 0], .tuple [.fn "_law_with_rows", .int 1, .fn "_law_no_rows", .int 0], .tuple [.fn "_law_with_point", .int 2, .fn "_law_bad_pairs", .int 1], .tuple [.fn "_law_with_times", .int 2, .fn "_law_no_times", .int 2]])), some (.v (.fn fa)), some (.v (.int (doors : Nat))), some (.v (.fn ft)), some (.v (.int due)), some (.v (.int (0 + (i : Int)))), n7, n8, n9]) (l := th ns.length) (enc := fun d => d) (qs := fun d => [d]) (c := true) (fun _ => true) ((mIL_o _ h1').trans (by rw [List.map_id'])) (Nat.le_trans (hln _).2 (by decide)) fun d hd => ⟨rfl, rfl, by
        have e := href ns.length (by omega) i d hid hd
        have e2 : mCall 4 g__law_refused (mCons (mVar 2) (mCons (mVar 6) (mCons (mVar 7) (mCons (mVar 5) mNil)))) [some (.v (.list (ns.map .int))), some (.v (.list [.tuple [.fn "_law_with_sticks", .int 7, .fn "_law_no_sticks", .int 0], .tuple [.fn "_law_with_rows", .int 1, .fn "_law_no_rows", .int 0], .tuple [.fn "_law_with_point", .int 2, .fn "_law_bad_pairs", .int 1], .tuple [.fn "_law_with_times", .int 2, .fn "_law_no_times", .int 2]])), some (.v (.fn fa)), some (.v (.int (doors : Nat))), some (.v (.fn ft)), some (.v (.int due)), some (.v (.int (0 + (i : Int)))), some (.v d), n8, n9] = some (R.c (.bool true)) := mCall4 (w := .c (.fn fa)) (x := .c (.int (0 + (i : Int)))) (y := .c d) (z := .c (.int due)) rfl rfl rfl rfl rfl rfl rfl rfl (by rw [Int.zero_add]; exact e)
        exact e2⟩
      have h3 : (th ns.length).all (fun _ => true) = true := List.all_eq_true.mpr fun _ _ => rfl
      rw [h3] at h2
      exact ⟨_, (mIfS_f (mTNot_eq (mB_eq h2))).trans rfl, _, _, _, _, rfl⟩
    rintro E ⟨n6, n7, n8, n9, rfl⟩
    refine ex_nx (mFor_ind (l := ns) (enc := fun n => D.int n) (fun pre E => ∃ (j8 j9 : Option Sl), E = [some (.v (.list (ns.map .int))), some (.v (.list [.tuple [.fn "_law_with_sticks", .int 7, .fn "_law_no_sticks", .int 0], .tuple [.fn "_law_with_rows", .int 1, .fn "_law_no_rows", .int 0], .tuple [.fn "_law_with_point", .int 2, .fn "_law_bad_pairs", .int 1], .tuple [.fn "_law_with_times", .int 2, .fn "_law_no_times", .int 2]])), some (.v (.fn fa)), some (.v (.int (doors : Nat))), some (.v (.fn ft)), some (.v (.int due)), n6, n7, j8, j9]) rfl ⟨n8, n9, rfl⟩ ?_) ?_
    · rintro pre cell E hi hlt _ ⟨j8, j9, rfl⟩
      obtain ⟨c, hc⟩ : ∃ c : Int, c = cell % 10 ^ 60 := ⟨_, rfl⟩
      have hc0 : 0 ≤ c := by rw [hc]; exact Int.emod_nonneg _ (by decide)
      refine mSeq_nxE (P := fun E => E = [some (.v (.list (ns.map .int))), some (.v (.list [.tuple [.fn "_law_with_sticks", .int 7, .fn "_law_no_sticks", .int 0], .tuple [.fn "_law_with_rows", .int 1, .fn "_law_no_rows", .int 0], .tuple [.fn "_law_with_point", .int 2, .fn "_law_bad_pairs", .int 1], .tuple [.fn "_law_with_times", .int 2, .fn "_law_no_times", .int 2]])), some (.v (.fn fa)), some (.v (.int (doors : Nat))), some (.v (.fn ft)), some (.v (.int due)), n6, n7, some (.v (.int cell)), some (.v (.list (th c)))]) ⟨_, mAsgV_eq (r := .o (th c)) (cv c _ _ _ _ _ (mCons_eq ((mOp_eq (x := .c (.int cell)) (y := .c (.int (10 ^ 60))) rfl rfl).trans (by rw [hc]; rfl)) (mNil_eq _))) (Rpro_o _), rfl⟩ ?_
      rintro E rfl
      obtain ⟨l1, l60⟩ := hln c
      obtain ⟨j, hj⟩ : ∃ j : Nat, (j : Int) = cell / 7 % ((th c).length : Nat) := ⟨(cell / 7 % ((th c).length : Nat)).toNat, by have := Int.emod_nonneg (cell / 7) (show (((th c).length : Nat) : Int) ≠ 0 by omega); omega⟩
      have hjl : j < (th c).length := by have := Int.emod_lt_of_pos (cell / 7) (show 0 < (((th c).length : Nat) : Int) by omega); omega
      obtain ⟨k, hk⟩ : ∃ k : Nat, (k : Int) = cell % (doors : Nat) := ⟨(cell % (doors : Nat)).toNat, by have := Int.emod_nonneg cell (show ((doors : Nat) : Int) ≠ 0 by omega); omega⟩
      have hkl : k < doors := by have := Int.emod_lt_of_pos cell (show 0 < ((doors : Nat) : Int) by omega); omega
      have e := href c hc0 k (th c)[j] hkl (List.getElem_mem hjl)
      have x1 : mOp gMod (mVar 8) (mVar 3) [some (.v (.list (ns.map .int))), some (.v (.list [.tuple [.fn "_law_with_sticks", .int 7, .fn "_law_no_sticks", .int 0], .tuple [.fn "_law_with_rows", .int 1, .fn "_law_no_rows", .int 0], .tuple [.fn "_law_with_point", .int 2, .fn "_law_bad_pairs", .int 1], .tuple [.fn "_law_with_times", .int 2, .fn "_law_no_times", .int 2]])), some (.v (.fn fa)), some (.v (.int (doors : Nat))), some (.v (.fn ft)), some (.v (.int due)), n6, n7, some (.v (.int cell)), some (.v (.list (th c)))] = some (.c (.int (k : Nat))) := (mOp_eq (x := .c (.int cell)) (y := .c (.int (doors : Nat))) rfl rfl).trans (by
        rw [hk]
        show (if decide (0 < ((doors : Nat) : Int)) = true then _ else _) = _
        rw [if_pos (decide_eq_true (by omega))])
      have x2 : mOp gIx (mVar 9) (mOp gMod (mOp gDiv (mVar 8) (mC (.int 7))) (mCl gLen (mCons (mVar 9) mNil))) [some (.v (.list (ns.map .int))), some (.v (.list [.tuple [.fn "_law_with_sticks", .int 7, .fn "_law_no_sticks", .int 0], .tuple [.fn "_law_with_rows", .int 1, .fn "_law_no_rows", .int 0], .tuple [.fn "_law_with_point", .int 2, .fn "_law_bad_pairs", .int 1], .tuple [.fn "_law_with_times", .int 2, .fn "_law_no_times", .int 2]])), some (.v (.fn fa)), some (.v (.int (doors : Nat))), some (.v (.fn ft)), some (.v (.int due)), n6, n7, some (.v (.int cell)), some (.v (.list (th c)))] = some (.c (th c)[j]) := (mOp_eq (x := .c (.list (th c))) (y := .c (.int (j : Nat))) rfl ((mOp_eq (x := .c (.int (cell / 7))) (y := .c (.int ((th c).length : Nat))) ((mOp_eq (x := .c (.int cell)) (y := .c (.int 7)) rfl rfl).trans rfl) rfl).trans (by
        rw [hj]
        show (if decide (0 < (((th c).length : Nat) : Int)) = true then _ else _) = _
        rw [if_pos (decide_eq_true (by omega))]))).trans (ix_Dl (th c) hjl)
      exact ⟨_, (mIfS_f (mTNot_eq (mB_eq (mCall4 (w := .c (.fn fa)) (x := .c (.int (k : Nat))) (y := .c (th c)[j]) (z := .c (.int due)) rfl x1 x2 rfl rfl rfl rfl rfl e)))).trans rfl, _, _, rfl⟩
    rintro E ⟨j8, j9, rfl⟩
    exact ⟨_, _, _, _, _, _, _, _, rfl⟩
  refine mSeq_ex (mForN (l := ([.tuple [.fn "_law_with_sticks", .int 7, .fn "_law_no_sticks", .int 0], .tuple [.fn "_law_with_rows", .int 1, .fn "_law_no_rows", .int 0], .tuple [.fn "_law_with_point", .int 2, .fn "_law_bad_pairs", .int 1], .tuple [.fn "_law_with_times", .int 2, .fn "_law_no_times", .int 2]] : List D)) (enc := fun d => d) (qs := fun d => match d with | .tuple l => l | _ => []) (fun pre E => ∃ (k2 k3 k4 k5 k6 k7 k8 k9 : Option Sl), E = [some (.v (.list (ns.map .int))), some (.v (.list [.tuple [.fn "_law_with_sticks", .int 7, .fn "_law_no_sticks", .int 0], .tuple [.fn "_law_with_rows", .int 1, .fn "_law_no_rows", .int 0], .tuple [.fn "_law_with_point", .int 2, .fn "_law_bad_pairs", .int 1], .tuple [.fn "_law_with_times", .int 2, .fn "_law_no_times", .int 2]])), k2, k3, k4, k5, k6, k7, k8, k9]) (by rw [List.map_id']; rfl) ⟨none, none, none, none, none, none, none, none, rfl⟩ ?_) ?_
  · rintro pre d E hm hlt _ ⟨k2, k3, k4, k5, k6, k7, k8, k9, rfl⟩
    simp only [List.mem_cons, List.not_mem_nil, or_false] at hm
    rcases hm with rfl | rfl | rfl | rfl
    · exact ⟨rfl, body _ _ 7 0 bdS (["_law_cell"], g__law_no_sticks) (by decide) (by decide) rfl rfl H__law_no_sticks (fun c => ⟨show 1 ≤ 35 by decide, show 35 ≤ 60 by decide⟩) (fun c hc k d hk hd => H__law_refused.1 k d hk (bdS_ok hc d hd)) _ _ _ _⟩
    · exact ⟨rfl, body _ _ 1 0 bdR (["_law_cell"], g__law_no_rows) (by decide) (by decide) rfl rfl H__law_no_rows (fun c => ⟨show 1 ≤ 28 by decide, show 28 ≤ 60 by decide⟩) (fun c hc k d hk hd => H__law_refused.2.1 _ d (bdR_ok hc d hd)) _ _ _ _⟩
    · exact ⟨rfl, body _ _ 2 1 (fun _ => bdP) (["_law_cell"], g__law_bad_pairs) (by decide) (by decide) rfl rfl H__law_bad_pairs (fun c => ⟨by decide, by decide⟩) (fun c hc k d hk hd => H__law_refused.2.2.1 k d hk (bdP_ok d hd)) _ _ _ _⟩
    · exact ⟨rfl, body _ _ 2 2 bdT (["_law_cell"], g__law_no_times) (by decide) (by decide) rfl rfl H__law_no_times (fun c => ⟨show 1 ≤ 9 by decide, show 9 ≤ 60 by decide⟩) (fun c hc k d hk hd => H__law_refused.2.2.2 k d hk (bdT_ok hc d hd)) _ _ _ _⟩
  rintro E ⟨k2, k3, k4, k5, k6, k7, k8, k9, rfl⟩
  exact ⟨_, rfl, _, rfl, rfl⟩
abbrev s_law : Stmt := top 89
abbrev N_law : List Str := ["_law_script", "_law_kinds"]
def Sp_law (g : List D → Option R) : Prop := ∀ ns : List Int, (∀ n ∈ ns, Builtin.Int.intBits n ≤ 1048576) → ns.length ≤ 63 → g [.list (ns.map .int)] = some (.c (.bool true))
theorem sc_law : FnScope N_law ["_law_script"] (defScope s_law) := ⟨rfl, rfl, rfl, by decide +kernel, rfl, by decide +kernel, by decide +kernel⟩
set_option maxHeartbeats 8000000 in
theorem ok_law {f : Addr} {fd : FuncData} (T : Txt K mg C_BodyError C_BadSticks C_BadPoint C_BadTimes C_BadMany C_BadCut C_BadThree C_BadPlaces C_BadStick) (F : Fun K "law" "law" s_law f fd) {g_corners : List D → Option R} (C_corners : Cal P w K mg base "corners" 7 ["sticks"] g_corners) (H_corners : Sp_corners g_corners) {g_whole_points : List D → Option R} (C_whole_points : Cal P w K mg base "whole_points" 7 ["sticks", "times"] g_whole_points) (H_whole_points : Sp_whole_points g_whole_points) {g_area : List D → Option R} (C_area : Cal P w K mg base "area" 7 ["sticks"] g_area) (H_area : Sp_area g_area) {g__law_all_refused : List D → Option R} (C__law_all_refused : Cal P w K mg base "_law_all_refused" 10 ["_law_script", "_law_kinds"] g__law_all_refused) (H__law_all_refused : Sp__law_all_refused g__law_all_refused) : ∃ g, FnOk P w K mg base CX0 11 f fd ["_law_script"] (spD K 1 g) ∧ Sp_law g := by
  refine fn_ex F sc_law (fun f cdv A outer s H E hr => (@m_cons _ _ _ _ _ _ (m_set (i := 1) sc_law.nd (m_lst (m_an2 (m_tup (m_an4 (m_fnv T.fv__law_with_sticks) m_int (m_fnv T.fv__law_no_sticks) m_int)) (m_tup (m_an4 (m_fnv T.fv__law_with_rows) m_int (m_fnv T.fv__law_no_rows) m_int)))))
    (@m_cons _ _ _ _ _ _ (m_set (i := 1) sc_law.nd (m_op op_addG s_add (m_var (pv 1)) (m_lst (m_an2 (m_tup (m_an4 (m_fnv T.fv__law_with_point) m_int (m_fnv T.fv__law_bad_pairs) m_int)) (m_tup (m_an4 (m_fnv T.fv__law_with_times) m_int (m_fnv T.fv__law_no_times) m_int))))))
    (@m_cons _ _ _ _ _ _ (m_if (m_tnot (m_tval (m_callC C__law_all_refused (hr.mono (by decide)) (m_an2 (m_var (pv 0)) (m_var (pv 1))))))
    (@m_sone _ _ _ _ (m_ret m_bl))
    m_snil)
    (@m_sone _ _ _ _ (m_ret (m_and (m_cmp (op_eqD hr.units) s_eq (m_callC C_area (hr.mono (by decide)) (m_acons1 (m_lst (m_an2 (m_tup (m_an2 m_int m_int)) (m_tup (m_an2 (m_un un_neg s_neg m_int) m_int)))) m_anil)) m_int (nomark _)) (m_and (m_cmp (op_eqD hr.units) s_eq (m_callC C_whole_points (hr.mono (by decide)) (m_an2 (m_lst (m_acons1 (m_tup (m_an2 m_int m_int)) m_anil)) m_int)) m_int (nomark _)) (m_one (m_cmp (op_eqD hr.units) s_eq (m_callB call_len_seq s_len T.b_len (m_acons1 (m_callC C_corners (hr.mono (by decide)) (m_acons1 (m_lst (m_acons1 (m_tup (m_an2 m_int m_int)) m_anil)) m_anil)) m_anil)) m_int (nomark _))))))))))) ?_
  intro ns hbits hlen
  refine runD_to ?_
  have hr := H__law_all_refused ns hlen
  have a1 := H_area [((20 : Int), (0 : Int)), (-20, 20)] ⟨by decide, by decide, by decide, by decide, by decide⟩
  have a2 := H_whole_points [((20 : Int), (20 : Int))] 0 ⟨by decide, by decide, by decide, by decide, by decide⟩ (by decide) (by decide +kernel)
  have a3 := H_corners [((1 : Int), (0 : Int))] ⟨by decide, by decide, by decide, by decide, by decide⟩
  refine mSeq_ex (P := fun E => E = [some (.v (.list (ns.map .int))), some (.v (.list [.tuple [.fn "_law_with_sticks", .int 7, .fn "_law_no_sticks", .int 0], .tuple [.fn "_law_with_rows", .int 1, .fn "_law_no_rows", .int 0]]))]) ⟨_, mAsgV_eq (r := .o [.tuple [.fn "_law_with_sticks", .int 7, .fn "_law_no_sticks", .int 0], .tuple [.fn "_law_with_rows", .int 1, .fn "_law_no_rows", .int 0]]) (by rfl) (Rpro_o _), rfl⟩ ?_
  rintro E rfl
  refine mSeq_ex (P := fun E => E = [some (.v (.list (ns.map .int))), some (.v (.list [.tuple [.fn "_law_with_sticks", .int 7, .fn "_law_no_sticks", .int 0], .tuple [.fn "_law_with_rows", .int 1, .fn "_law_no_rows", .int 0], .tuple [.fn "_law_with_point", .int 2, .fn "_law_bad_pairs", .int 1], .tuple [.fn "_law_with_times", .int 2, .fn "_law_no_times", .int 2]]))]) ⟨_, mAsgV_eq (r := .o [.tuple [.fn "_law_with_sticks", .int 7, .fn "_law_no_sticks", .int 0], .tuple [.fn "_law_with_rows", .int 1, .fn "_law_no_rows", .int 0], .tuple [.fn "_law_with_point", .int 2, .fn "_law_bad_pairs", .int 1], .tuple [.fn "_law_with_times", .int 2, .fn "_law_no_times", .int 2]]) (by rfl) (Rpro_o _), rfl⟩ ?_
  rintro E rfl
  refine mSeq_ex (P := fun E => E = [some (.v (.list (ns.map .int))), some (.v (.list [.tuple [.fn "_law_with_sticks", .int 7, .fn "_law_no_sticks", .int 0], .tuple [.fn "_law_with_rows", .int 1, .fn "_law_no_rows", .int 0], .tuple [.fn "_law_with_point", .int 2, .fn "_law_bad_pairs", .int 1], .tuple [.fn "_law_with_times", .int 2, .fn "_law_no_times", .int 2]]))]) ⟨_, (mIfS_f (mTNot_eq (mB_eq (mCall2 (x := .c (.list (ns.map .int))) (y := .c (.list [.tuple [.fn "_law_with_sticks", .int 7, .fn "_law_no_sticks", .int 0], .tuple [.fn "_law_with_rows", .int 1, .fn "_law_no_rows", .int 0], .tuple [.fn "_law_with_point", .int 2, .fn "_law_bad_pairs", .int 1], .tuple [.fn "_law_with_times", .int 2, .fn "_law_no_times", .int 2]])) rfl rfl rfl rfl hr)))).trans rfl, rfl⟩ ?_
  rintro E rfl
  refine ⟨_, mRet_eq (r := .c (.bool true)) ?_, _, rfl, rfl⟩
  refine mAndV_t ((mOp_eq (x := .c (.int 400)) (y := .c (.int 400)) (mCall1 (r := .o ([((20 : Int), (0 : Int)), (-20, 20)].map eP)) (r' := .c (.int 400)) rfl (Rpro_o _) (a1.trans (by rfl))) rfl).trans rfl) (mAndV_t ((mOp_eq (x := .c (.int 1)) (y := .c (.int 1)) (mCall2 (x := .o ([((20 : Int), (20 : Int))].map eP)) (y := .c (.int 0)) (r' := .c (.int 1)) rfl rfl (Rpro_o _) rfl (a2.trans (by rfl))) rfl).trans rfl) ((mOp_eq (x := .c (.int 2)) (y := .c (.int 2)) ((mCl1 (r := .o ((cor [((1 : Int), (0 : Int))]).map eP)) (mCall1 (r := .o ([((1 : Int), (0 : Int))].map eP)) rfl (Rpro_o _) a3)).trans rfl) rfl).trans rfl))
end
set_option maxHeartbeats 16000000 in
theorem all_mk {l : PySem.W.OpenLaw} {w : World} {K : PySem.W.Frag} {h : Heap} {mg : Str → Option Value} {fa : Addr} (X : K.In h) (G : h.Ns mainGlobals mg) (hfa : mg "law" = some (.ref fa))
    {C_BodyError : Addr}
    {C_BadSticks : Addr}
    {C_BadPoint : Addr}
    {C_BadTimes : Addr}
    {C_BadMany : Addr}
    {C_BadCut : Addr}
    {C_BadThree : Addr}
    {C_BadPlaces : Addr}
    {C_BadStick : Addr}
    {f_is_number : Addr} {oc_is_number kV_is_number dc_is_number pm_is_number cd_is_number ct_is_number : Value} {od_is_number an_is_number : Option Addr} {sl_is_number : Array (Option Value)}
    {f_is_point : Addr} {oc_is_point kV_is_point dc_is_point pm_is_point cd_is_point ct_is_point : Value} {od_is_point an_is_point : Option Addr} {sl_is_point : Array (Option Value)}
    {f_is_near : Addr} {oc_is_near kV_is_near dc_is_near pm_is_near cd_is_near ct_is_near : Value} {od_is_near an_is_near : Option Addr} {sl_is_near : Array (Option Value)}
    {f_greatest_into : Addr} {oc_greatest_into kV_greatest_into dc_greatest_into pm_greatest_into cd_greatest_into ct_greatest_into : Value} {od_greatest_into an_greatest_into : Option Addr} {sl_greatest_into : Array (Option Value)}
    {f_span : Addr} {oc_span kV_span dc_span pm_span cd_span ct_span : Value} {od_span an_span : Option Addr} {sl_span : Array (Option Value)}
    {f_stands : Addr} {oc_stands kV_stands dc_stands pm_stands cd_stands ct_stands : Value} {od_stands an_stands : Option Addr} {sl_stands : Array (Option Value)}
    {f_put_together : Addr} {oc_put_together kV_put_together dc_put_together pm_put_together cd_put_together ct_put_together : Value} {od_put_together an_put_together : Option Addr} {sl_put_together : Array (Option Value)}
    {f_taken_back : Addr} {oc_taken_back kV_taken_back dc_taken_back pm_taken_back cd_taken_back ct_taken_back : Value} {od_taken_back an_taken_back : Option Addr} {sl_taken_back : Array (Option Value)}
    {f_twos : Addr} {oc_twos kV_twos dc_twos pm_twos cd_twos ct_twos : Value} {od_twos an_twos : Option Addr} {sl_twos : Array (Option Value)}
    {f_are_near : Addr} {oc_are_near kV_are_near dc_are_near pm_are_near cd_are_near ct_are_near : Value} {od_are_near an_are_near : Option Addr} {sl_are_near : Array (Option Value)}
    {f_are_rows : Addr} {oc_are_rows kV_are_rows dc_are_rows pm_are_rows cd_are_rows ct_are_rows : Value} {od_are_rows an_are_rows : Option Addr} {sl_are_rows : Array (Option Value)}
    {f_are_sticks : Addr} {oc_are_sticks kV_are_sticks dc_are_sticks pm_are_sticks cd_are_sticks ct_are_sticks : Value} {od_are_sticks an_are_sticks : Option Addr} {sl_are_sticks : Array (Option Value)}
    {f_check_sticks : Addr} {oc_check_sticks kV_check_sticks dc_check_sticks pm_check_sticks cd_check_sticks ct_check_sticks : Value} {od_check_sticks an_check_sticks : Option Addr} {sl_check_sticks : Array (Option Value)}
    {f_check_point : Addr} {oc_check_point kV_check_point dc_check_point pm_check_point cd_check_point ct_check_point : Value} {od_check_point an_check_point : Option Addr} {sl_check_point : Array (Option Value)}
    {f_gathered : Addr} {oc_gathered kV_gathered dc_gathered pm_gathered cd_gathered ct_gathered : Value} {od_gathered an_gathered : Option Addr} {sl_gathered : Array (Option Value)}
    {f_covered : Addr} {oc_covered kV_covered dc_covered pm_covered cd_covered ct_covered : Value} {od_covered an_covered : Option Addr} {sl_covered : Array (Option Value)}
    {f_steps : Addr} {oc_steps kV_steps dc_steps pm_steps cd_steps ct_steps : Value} {od_steps an_steps : Option Addr} {sl_steps : Array (Option Value)}
    {f_check_times : Addr} {oc_check_times kV_check_times dc_check_times pm_check_times cd_check_times ct_check_times : Value} {od_check_times an_check_times : Option Addr} {sl_check_times : Array (Option Value)}
    {f_corners : Addr} {oc_corners kV_corners dc_corners pm_corners cd_corners ct_corners : Value} {od_corners an_corners : Option Addr} {sl_corners : Array (Option Value)}
    {f_area : Addr} {oc_area kV_area dc_area pm_area cd_area ct_area : Value} {od_area an_area : Option Addr} {sl_area : Array (Option Value)}
    {f_opposite : Addr} {oc_opposite kV_opposite dc_opposite pm_opposite cd_opposite ct_opposite : Value} {od_opposite an_opposite : Option Addr} {sl_opposite : Array (Option Value)}
    {f_whole_points : Addr} {oc_whole_points kV_whole_points dc_whole_points pm_whole_points cd_whole_points ct_whole_points : Value} {od_whole_points an_whole_points : Option Addr} {sl_whole_points : Array (Option Value)}
    {f_rim_points : Addr} {oc_rim_points kV_rim_points dc_rim_points pm_rim_points cd_rim_points ct_rim_points : Value} {od_rim_points an_rim_points : Option Addr} {sl_rim_points : Array (Option Value)}
    {f_within : Addr} {oc_within kV_within dc_within pm_within cd_within ct_within : Value} {od_within an_within : Option Addr} {sl_within : Array (Option Value)}
    {f_slabs : Addr} {oc_slabs kV_slabs dc_slabs pm_slabs cd_slabs ct_slabs : Value} {od_slabs an_slabs : Option Addr} {sl_slabs : Array (Option Value)}
    {f__law_alone : Addr} {oc__law_alone kV__law_alone dc__law_alone pm__law_alone cd__law_alone ct__law_alone : Value} {od__law_alone an__law_alone : Option Addr} {sl__law_alone : Array (Option Value)}
    {f__law_bad_pairs : Addr} {oc__law_bad_pairs kV__law_bad_pairs dc__law_bad_pairs pm__law_bad_pairs cd__law_bad_pairs ct__law_bad_pairs : Value} {od__law_bad_pairs an__law_bad_pairs : Option Addr} {sl__law_bad_pairs : Array (Option Value)}
    {f__law_with_sticks : Addr} {oc__law_with_sticks kV__law_with_sticks dc__law_with_sticks pm__law_with_sticks cd__law_with_sticks ct__law_with_sticks : Value} {od__law_with_sticks an__law_with_sticks : Option Addr} {sl__law_with_sticks : Array (Option Value)}
    {f__law_no_sticks : Addr} {oc__law_no_sticks kV__law_no_sticks dc__law_no_sticks pm__law_no_sticks cd__law_no_sticks ct__law_no_sticks : Value} {od__law_no_sticks an__law_no_sticks : Option Addr} {sl__law_no_sticks : Array (Option Value)}
    {f__law_with_rows : Addr} {oc__law_with_rows kV__law_with_rows dc__law_with_rows pm__law_with_rows cd__law_with_rows ct__law_with_rows : Value} {od__law_with_rows an__law_with_rows : Option Addr} {sl__law_with_rows : Array (Option Value)}
    {f__law_no_rows : Addr} {oc__law_no_rows kV__law_no_rows dc__law_no_rows pm__law_no_rows cd__law_no_rows ct__law_no_rows : Value} {od__law_no_rows an__law_no_rows : Option Addr} {sl__law_no_rows : Array (Option Value)}
    {f__law_with_point : Addr} {oc__law_with_point kV__law_with_point dc__law_with_point pm__law_with_point cd__law_with_point ct__law_with_point : Value} {od__law_with_point an__law_with_point : Option Addr} {sl__law_with_point : Array (Option Value)}
    {f__law_with_times : Addr} {oc__law_with_times kV__law_with_times dc__law_with_times pm__law_with_times cd__law_with_times ct__law_with_times : Value} {od__law_with_times an__law_with_times : Option Addr} {sl__law_with_times : Array (Option Value)}
    {f__law_no_times : Addr} {oc__law_no_times kV__law_no_times dc__law_no_times pm__law_no_times cd__law_no_times ct__law_no_times : Value} {od__law_no_times an__law_no_times : Option Addr} {sl__law_no_times : Array (Option Value)}
    {f__law_refused : Addr} {oc__law_refused kV__law_refused dc__law_refused pm__law_refused cd__law_refused ct__law_refused : Value} {od__law_refused an__law_refused : Option Addr} {sl__law_refused : Array (Option Value)}
    {f__law_all_refused : Addr} {oc__law_all_refused kV__law_all_refused dc__law_all_refused pm__law_all_refused cd__law_all_refused ct__law_all_refused : Value} {od__law_all_refused an__law_all_refused : Option Addr} {sl__law_all_refused : Array (Option Value)}
    {f_law : Addr} {oc_law kV_law dc_law pm_law cd_law ct_law : Value} {od_law an_law : Option Addr} {sl_law : Array (Option Value)}
    {t_FARTHEST : Tok}
    {t_MOST_STICKS : Tok}
    (a_BodyError : PySem.W.nsIn K mainGlobals "BodyError" = some (some (.ref C_BodyError)))
    (a_BadSticks : PySem.W.nsIn K mainGlobals "BadSticks" = some (some (.ref C_BadSticks)))
    (a_BadPoint : PySem.W.nsIn K mainGlobals "BadPoint" = some (some (.ref C_BadPoint)))
    (a_BadTimes : PySem.W.nsIn K mainGlobals "BadTimes" = some (some (.ref C_BadTimes)))
    (a_BadMany : PySem.W.nsIn K mainGlobals "BadMany" = some (some (.ref C_BadMany)))
    (a_BadCut : PySem.W.nsIn K mainGlobals "BadCut" = some (some (.ref C_BadCut)))
    (a_BadThree : PySem.W.nsIn K mainGlobals "BadThree" = some (some (.ref C_BadThree)))
    (a_BadPlaces : PySem.W.nsIn K mainGlobals "BadPlaces" = some (some (.ref C_BadPlaces)))
    (a_BadStick : PySem.W.nsIn K mainGlobals "BadStick" = some (some (.ref C_BadStick)))
    (xc_BadSticks : PySem.W.excIn K C_BadSticks MD.bmV "ValueError.__new__" = true)
    (xi0_BadSticks : PySem.W.findIn K (.ref C_BadSticks) "__getattribute__" = some (some (.builtin "BaseException.__getattribute__")))
    (xi1_BadSticks : PySem.W.findIn K (.ref C_BadSticks) "__getattr__" = some none)
    (xi2_BadSticks : PySem.W.findIn K (.ref C_BadSticks) "__class__" = some (some (.builtin "object.__class__")))
    (xi5_BadSticks : PySem.W.mroIn K C_BadSticks (.type "object") = some true)
    (xi6_BadSticks : PySem.W.mroIn K C_BadSticks (.type "BaseException") = some true)
    (xm_BadSticks : PySem.W.exmOne K (.ref C_BadSticks) (.ref C_BodyError) = some true)
    (kv_BadSticks : PySem.W.kitOne K (.ref C_BadSticks) (.type "ValueError") = some true)
    (kx_BadSticks_BadSticks : PySem.W.kitOne K (.ref C_BadSticks) (.ref C_BadSticks) = some true)
    (kx_BadSticks_BadPoint : PySem.W.kitOne K (.ref C_BadSticks) (.ref C_BadPoint) = some false)
    (kx_BadSticks_BadTimes : PySem.W.kitOne K (.ref C_BadSticks) (.ref C_BadTimes) = some false)
    (kx_BadSticks_BadMany : PySem.W.kitOne K (.ref C_BadSticks) (.ref C_BadMany) = some false)
    (kx_BadSticks_BadCut : PySem.W.kitOne K (.ref C_BadSticks) (.ref C_BadCut) = some false)
    (kx_BadSticks_BadThree : PySem.W.kitOne K (.ref C_BadSticks) (.ref C_BadThree) = some false)
    (kx_BadSticks_BadPlaces : PySem.W.kitOne K (.ref C_BadSticks) (.ref C_BadPlaces) = some false)
    (kx_BadSticks_BadStick : PySem.W.kitOne K (.ref C_BadSticks) (.ref C_BadStick) = some false)
    (xc_BadPoint : PySem.W.excIn K C_BadPoint MD.bmV "ValueError.__new__" = true)
    (xi0_BadPoint : PySem.W.findIn K (.ref C_BadPoint) "__getattribute__" = some (some (.builtin "BaseException.__getattribute__")))
    (xi1_BadPoint : PySem.W.findIn K (.ref C_BadPoint) "__getattr__" = some none)
    (xi2_BadPoint : PySem.W.findIn K (.ref C_BadPoint) "__class__" = some (some (.builtin "object.__class__")))
    (xi5_BadPoint : PySem.W.mroIn K C_BadPoint (.type "object") = some true)
    (xi6_BadPoint : PySem.W.mroIn K C_BadPoint (.type "BaseException") = some true)
    (xm_BadPoint : PySem.W.exmOne K (.ref C_BadPoint) (.ref C_BodyError) = some true)
    (kv_BadPoint : PySem.W.kitOne K (.ref C_BadPoint) (.type "ValueError") = some true)
    (kx_BadPoint_BadSticks : PySem.W.kitOne K (.ref C_BadPoint) (.ref C_BadSticks) = some false)
    (kx_BadPoint_BadPoint : PySem.W.kitOne K (.ref C_BadPoint) (.ref C_BadPoint) = some true)
    (kx_BadPoint_BadTimes : PySem.W.kitOne K (.ref C_BadPoint) (.ref C_BadTimes) = some false)
    (kx_BadPoint_BadMany : PySem.W.kitOne K (.ref C_BadPoint) (.ref C_BadMany) = some false)
    (kx_BadPoint_BadCut : PySem.W.kitOne K (.ref C_BadPoint) (.ref C_BadCut) = some false)
    (kx_BadPoint_BadThree : PySem.W.kitOne K (.ref C_BadPoint) (.ref C_BadThree) = some false)
    (kx_BadPoint_BadPlaces : PySem.W.kitOne K (.ref C_BadPoint) (.ref C_BadPlaces) = some false)
    (kx_BadPoint_BadStick : PySem.W.kitOne K (.ref C_BadPoint) (.ref C_BadStick) = some false)
    (xc_BadTimes : PySem.W.excIn K C_BadTimes MD.bmV "ValueError.__new__" = true)
    (xi0_BadTimes : PySem.W.findIn K (.ref C_BadTimes) "__getattribute__" = some (some (.builtin "BaseException.__getattribute__")))
    (xi1_BadTimes : PySem.W.findIn K (.ref C_BadTimes) "__getattr__" = some none)
    (xi2_BadTimes : PySem.W.findIn K (.ref C_BadTimes) "__class__" = some (some (.builtin "object.__class__")))
    (xi5_BadTimes : PySem.W.mroIn K C_BadTimes (.type "object") = some true)
    (xi6_BadTimes : PySem.W.mroIn K C_BadTimes (.type "BaseException") = some true)
    (xm_BadTimes : PySem.W.exmOne K (.ref C_BadTimes) (.ref C_BodyError) = some true)
    (kv_BadTimes : PySem.W.kitOne K (.ref C_BadTimes) (.type "ValueError") = some true)
    (kx_BadTimes_BadSticks : PySem.W.kitOne K (.ref C_BadTimes) (.ref C_BadSticks) = some false)
    (kx_BadTimes_BadPoint : PySem.W.kitOne K (.ref C_BadTimes) (.ref C_BadPoint) = some false)
    (kx_BadTimes_BadTimes : PySem.W.kitOne K (.ref C_BadTimes) (.ref C_BadTimes) = some true)
    (kx_BadTimes_BadMany : PySem.W.kitOne K (.ref C_BadTimes) (.ref C_BadMany) = some false)
    (kx_BadTimes_BadCut : PySem.W.kitOne K (.ref C_BadTimes) (.ref C_BadCut) = some false)
    (kx_BadTimes_BadThree : PySem.W.kitOne K (.ref C_BadTimes) (.ref C_BadThree) = some false)
    (kx_BadTimes_BadPlaces : PySem.W.kitOne K (.ref C_BadTimes) (.ref C_BadPlaces) = some false)
    (kx_BadTimes_BadStick : PySem.W.kitOne K (.ref C_BadTimes) (.ref C_BadStick) = some false)
    (qn : PySem.W.specialIn K (.builtin "object.__class__") "__get__" = some (some (.builtin "getset_descriptor.__get__")))
    (qt : PySem.W.takesIn K (.builtin "object.__class__") = some true)
    (a_is_number : PySem.W.nsIn K mainGlobals "is_number" = some (some (.ref f_is_number)))
    (l_is_number : K.lookup f_is_number = some ⟨oc_is_number, od_is_number, .func (PySem.W.fnOf "is_number" "is_number" (defArgs s_is_number) (defBody s_is_number) (defScope s_is_number) .none kV_is_number dc_is_number pm_is_number an_is_number cd_is_number ct_is_number), sl_is_number⟩)
    (c_is_number : PySem.W.codeIn K cd_is_number "is_number" = true)
    (k_is_number : PySem.W.keepIn K (.ref f_is_number) = true)
    (a_is_point : PySem.W.nsIn K mainGlobals "is_point" = some (some (.ref f_is_point)))
    (l_is_point : K.lookup f_is_point = some ⟨oc_is_point, od_is_point, .func (PySem.W.fnOf "is_point" "is_point" (defArgs s_is_point) (defBody s_is_point) (defScope s_is_point) .none kV_is_point dc_is_point pm_is_point an_is_point cd_is_point ct_is_point), sl_is_point⟩)
    (c_is_point : PySem.W.codeIn K cd_is_point "is_point" = true)
    (k_is_point : PySem.W.keepIn K (.ref f_is_point) = true)
    (a_is_near : PySem.W.nsIn K mainGlobals "is_near" = some (some (.ref f_is_near)))
    (l_is_near : K.lookup f_is_near = some ⟨oc_is_near, od_is_near, .func (PySem.W.fnOf "is_near" "is_near" (defArgs s_is_near) (defBody s_is_near) (defScope s_is_near) .none kV_is_near dc_is_near pm_is_near an_is_near cd_is_near ct_is_near), sl_is_near⟩)
    (c_is_near : PySem.W.codeIn K cd_is_near "is_near" = true)
    (k_is_near : PySem.W.keepIn K (.ref f_is_near) = true)
    (a_greatest_into : PySem.W.nsIn K mainGlobals "greatest_into" = some (some (.ref f_greatest_into)))
    (l_greatest_into : K.lookup f_greatest_into = some ⟨oc_greatest_into, od_greatest_into, .func (PySem.W.fnOf "greatest_into" "greatest_into" (defArgs s_greatest_into) (defBody s_greatest_into) (defScope s_greatest_into) .none kV_greatest_into dc_greatest_into pm_greatest_into an_greatest_into cd_greatest_into ct_greatest_into), sl_greatest_into⟩)
    (c_greatest_into : PySem.W.codeIn K cd_greatest_into "greatest_into" = true)
    (k_greatest_into : PySem.W.keepIn K (.ref f_greatest_into) = true)
    (a_span : PySem.W.nsIn K mainGlobals "span" = some (some (.ref f_span)))
    (l_span : K.lookup f_span = some ⟨oc_span, od_span, .func (PySem.W.fnOf "span" "span" (defArgs s_span) (defBody s_span) (defScope s_span) .none kV_span dc_span pm_span an_span cd_span ct_span), sl_span⟩)
    (c_span : PySem.W.codeIn K cd_span "span" = true)
    (k_span : PySem.W.keepIn K (.ref f_span) = true)
    (a_stands : PySem.W.nsIn K mainGlobals "stands" = some (some (.ref f_stands)))
    (l_stands : K.lookup f_stands = some ⟨oc_stands, od_stands, .func (PySem.W.fnOf "stands" "stands" (defArgs s_stands) (defBody s_stands) (defScope s_stands) .none kV_stands dc_stands pm_stands an_stands cd_stands ct_stands), sl_stands⟩)
    (c_stands : PySem.W.codeIn K cd_stands "stands" = true)
    (k_stands : PySem.W.keepIn K (.ref f_stands) = true)
    (a_put_together : PySem.W.nsIn K mainGlobals "put_together" = some (some (.ref f_put_together)))
    (l_put_together : K.lookup f_put_together = some ⟨oc_put_together, od_put_together, .func (PySem.W.fnOf "put_together" "put_together" (defArgs s_put_together) (defBody s_put_together) (defScope s_put_together) .none kV_put_together dc_put_together pm_put_together an_put_together cd_put_together ct_put_together), sl_put_together⟩)
    (c_put_together : PySem.W.codeIn K cd_put_together "put_together" = true)
    (k_put_together : PySem.W.keepIn K (.ref f_put_together) = true)
    (a_taken_back : PySem.W.nsIn K mainGlobals "taken_back" = some (some (.ref f_taken_back)))
    (l_taken_back : K.lookup f_taken_back = some ⟨oc_taken_back, od_taken_back, .func (PySem.W.fnOf "taken_back" "taken_back" (defArgs s_taken_back) (defBody s_taken_back) (defScope s_taken_back) .none kV_taken_back dc_taken_back pm_taken_back an_taken_back cd_taken_back ct_taken_back), sl_taken_back⟩)
    (c_taken_back : PySem.W.codeIn K cd_taken_back "taken_back" = true)
    (k_taken_back : PySem.W.keepIn K (.ref f_taken_back) = true)
    (a_twos : PySem.W.nsIn K mainGlobals "twos" = some (some (.ref f_twos)))
    (l_twos : K.lookup f_twos = some ⟨oc_twos, od_twos, .func (PySem.W.fnOf "twos" "twos" (defArgs s_twos) (defBody s_twos) (defScope s_twos) .none kV_twos dc_twos pm_twos an_twos cd_twos ct_twos), sl_twos⟩)
    (c_twos : PySem.W.codeIn K cd_twos "twos" = true)
    (k_twos : PySem.W.keepIn K (.ref f_twos) = true)
    (a_are_near : PySem.W.nsIn K mainGlobals "are_near" = some (some (.ref f_are_near)))
    (l_are_near : K.lookup f_are_near = some ⟨oc_are_near, od_are_near, .func (PySem.W.fnOf "are_near" "are_near" (defArgs s_are_near) (defBody s_are_near) (defScope s_are_near) .none kV_are_near dc_are_near pm_are_near an_are_near cd_are_near ct_are_near), sl_are_near⟩)
    (c_are_near : PySem.W.codeIn K cd_are_near "are_near" = true)
    (k_are_near : PySem.W.keepIn K (.ref f_are_near) = true)
    (a_are_rows : PySem.W.nsIn K mainGlobals "are_rows" = some (some (.ref f_are_rows)))
    (l_are_rows : K.lookup f_are_rows = some ⟨oc_are_rows, od_are_rows, .func (PySem.W.fnOf "are_rows" "are_rows" (defArgs s_are_rows) (defBody s_are_rows) (defScope s_are_rows) .none kV_are_rows dc_are_rows pm_are_rows an_are_rows cd_are_rows ct_are_rows), sl_are_rows⟩)
    (c_are_rows : PySem.W.codeIn K cd_are_rows "are_rows" = true)
    (k_are_rows : PySem.W.keepIn K (.ref f_are_rows) = true)
    (a_are_sticks : PySem.W.nsIn K mainGlobals "are_sticks" = some (some (.ref f_are_sticks)))
    (l_are_sticks : K.lookup f_are_sticks = some ⟨oc_are_sticks, od_are_sticks, .func (PySem.W.fnOf "are_sticks" "are_sticks" (defArgs s_are_sticks) (defBody s_are_sticks) (defScope s_are_sticks) .none kV_are_sticks dc_are_sticks pm_are_sticks an_are_sticks cd_are_sticks ct_are_sticks), sl_are_sticks⟩)
    (c_are_sticks : PySem.W.codeIn K cd_are_sticks "are_sticks" = true)
    (k_are_sticks : PySem.W.keepIn K (.ref f_are_sticks) = true)
    (a_check_sticks : PySem.W.nsIn K mainGlobals "check_sticks" = some (some (.ref f_check_sticks)))
    (l_check_sticks : K.lookup f_check_sticks = some ⟨oc_check_sticks, od_check_sticks, .func (PySem.W.fnOf "check_sticks" "check_sticks" (defArgs s_check_sticks) (defBody s_check_sticks) (defScope s_check_sticks) .none kV_check_sticks dc_check_sticks pm_check_sticks an_check_sticks cd_check_sticks ct_check_sticks), sl_check_sticks⟩)
    (c_check_sticks : PySem.W.codeIn K cd_check_sticks "check_sticks" = true)
    (k_check_sticks : PySem.W.keepIn K (.ref f_check_sticks) = true)
    (a_check_point : PySem.W.nsIn K mainGlobals "check_point" = some (some (.ref f_check_point)))
    (l_check_point : K.lookup f_check_point = some ⟨oc_check_point, od_check_point, .func (PySem.W.fnOf "check_point" "check_point" (defArgs s_check_point) (defBody s_check_point) (defScope s_check_point) .none kV_check_point dc_check_point pm_check_point an_check_point cd_check_point ct_check_point), sl_check_point⟩)
    (c_check_point : PySem.W.codeIn K cd_check_point "check_point" = true)
    (k_check_point : PySem.W.keepIn K (.ref f_check_point) = true)
    (a_gathered : PySem.W.nsIn K mainGlobals "gathered" = some (some (.ref f_gathered)))
    (l_gathered : K.lookup f_gathered = some ⟨oc_gathered, od_gathered, .func (PySem.W.fnOf "gathered" "gathered" (defArgs s_gathered) (defBody s_gathered) (defScope s_gathered) .none kV_gathered dc_gathered pm_gathered an_gathered cd_gathered ct_gathered), sl_gathered⟩)
    (c_gathered : PySem.W.codeIn K cd_gathered "gathered" = true)
    (k_gathered : PySem.W.keepIn K (.ref f_gathered) = true)
    (a_covered : PySem.W.nsIn K mainGlobals "covered" = some (some (.ref f_covered)))
    (l_covered : K.lookup f_covered = some ⟨oc_covered, od_covered, .func (PySem.W.fnOf "covered" "covered" (defArgs s_covered) (defBody s_covered) (defScope s_covered) .none kV_covered dc_covered pm_covered an_covered cd_covered ct_covered), sl_covered⟩)
    (c_covered : PySem.W.codeIn K cd_covered "covered" = true)
    (k_covered : PySem.W.keepIn K (.ref f_covered) = true)
    (a_steps : PySem.W.nsIn K mainGlobals "steps" = some (some (.ref f_steps)))
    (l_steps : K.lookup f_steps = some ⟨oc_steps, od_steps, .func (PySem.W.fnOf "steps" "steps" (defArgs s_steps) (defBody s_steps) (defScope s_steps) .none kV_steps dc_steps pm_steps an_steps cd_steps ct_steps), sl_steps⟩)
    (c_steps : PySem.W.codeIn K cd_steps "steps" = true)
    (k_steps : PySem.W.keepIn K (.ref f_steps) = true)
    (a_check_times : PySem.W.nsIn K mainGlobals "check_times" = some (some (.ref f_check_times)))
    (l_check_times : K.lookup f_check_times = some ⟨oc_check_times, od_check_times, .func (PySem.W.fnOf "check_times" "check_times" (defArgs s_check_times) (defBody s_check_times) (defScope s_check_times) .none kV_check_times dc_check_times pm_check_times an_check_times cd_check_times ct_check_times), sl_check_times⟩)
    (c_check_times : PySem.W.codeIn K cd_check_times "check_times" = true)
    (k_check_times : PySem.W.keepIn K (.ref f_check_times) = true)
    (a_corners : PySem.W.nsIn K mainGlobals "corners" = some (some (.ref f_corners)))
    (l_corners : K.lookup f_corners = some ⟨oc_corners, od_corners, .func (PySem.W.fnOf "corners" "corners" (defArgs s_corners) (defBody s_corners) (defScope s_corners) .none kV_corners dc_corners pm_corners an_corners cd_corners ct_corners), sl_corners⟩)
    (c_corners : PySem.W.codeIn K cd_corners "corners" = true)
    (k_corners : PySem.W.keepIn K (.ref f_corners) = true)
    (a_area : PySem.W.nsIn K mainGlobals "area" = some (some (.ref f_area)))
    (l_area : K.lookup f_area = some ⟨oc_area, od_area, .func (PySem.W.fnOf "area" "area" (defArgs s_area) (defBody s_area) (defScope s_area) .none kV_area dc_area pm_area an_area cd_area ct_area), sl_area⟩)
    (c_area : PySem.W.codeIn K cd_area "area" = true)
    (k_area : PySem.W.keepIn K (.ref f_area) = true)
    (a_opposite : PySem.W.nsIn K mainGlobals "opposite" = some (some (.ref f_opposite)))
    (l_opposite : K.lookup f_opposite = some ⟨oc_opposite, od_opposite, .func (PySem.W.fnOf "opposite" "opposite" (defArgs s_opposite) (defBody s_opposite) (defScope s_opposite) .none kV_opposite dc_opposite pm_opposite an_opposite cd_opposite ct_opposite), sl_opposite⟩)
    (c_opposite : PySem.W.codeIn K cd_opposite "opposite" = true)
    (k_opposite : PySem.W.keepIn K (.ref f_opposite) = true)
    (a_whole_points : PySem.W.nsIn K mainGlobals "whole_points" = some (some (.ref f_whole_points)))
    (l_whole_points : K.lookup f_whole_points = some ⟨oc_whole_points, od_whole_points, .func (PySem.W.fnOf "whole_points" "whole_points" (defArgs s_whole_points) (defBody s_whole_points) (defScope s_whole_points) .none kV_whole_points dc_whole_points pm_whole_points an_whole_points cd_whole_points ct_whole_points), sl_whole_points⟩)
    (c_whole_points : PySem.W.codeIn K cd_whole_points "whole_points" = true)
    (k_whole_points : PySem.W.keepIn K (.ref f_whole_points) = true)
    (a_rim_points : PySem.W.nsIn K mainGlobals "rim_points" = some (some (.ref f_rim_points)))
    (l_rim_points : K.lookup f_rim_points = some ⟨oc_rim_points, od_rim_points, .func (PySem.W.fnOf "rim_points" "rim_points" (defArgs s_rim_points) (defBody s_rim_points) (defScope s_rim_points) .none kV_rim_points dc_rim_points pm_rim_points an_rim_points cd_rim_points ct_rim_points), sl_rim_points⟩)
    (c_rim_points : PySem.W.codeIn K cd_rim_points "rim_points" = true)
    (k_rim_points : PySem.W.keepIn K (.ref f_rim_points) = true)
    (a_within : PySem.W.nsIn K mainGlobals "within" = some (some (.ref f_within)))
    (l_within : K.lookup f_within = some ⟨oc_within, od_within, .func (PySem.W.fnOf "within" "within" (defArgs s_within) (defBody s_within) (defScope s_within) .none kV_within dc_within pm_within an_within cd_within ct_within), sl_within⟩)
    (c_within : PySem.W.codeIn K cd_within "within" = true)
    (k_within : PySem.W.keepIn K (.ref f_within) = true)
    (a_slabs : PySem.W.nsIn K mainGlobals "slabs" = some (some (.ref f_slabs)))
    (l_slabs : K.lookup f_slabs = some ⟨oc_slabs, od_slabs, .func (PySem.W.fnOf "slabs" "slabs" (defArgs s_slabs) (defBody s_slabs) (defScope s_slabs) .none kV_slabs dc_slabs pm_slabs an_slabs cd_slabs ct_slabs), sl_slabs⟩)
    (c_slabs : PySem.W.codeIn K cd_slabs "slabs" = true)
    (k_slabs : PySem.W.keepIn K (.ref f_slabs) = true)
    (a__law_alone : PySem.W.nsIn K mainGlobals "_law_alone" = some (some (.ref f__law_alone)))
    (l__law_alone : K.lookup f__law_alone = some ⟨oc__law_alone, od__law_alone, .func (PySem.W.fnOf "_law_alone" "_law_alone" (defArgs s__law_alone) (defBody s__law_alone) (defScope s__law_alone) .none kV__law_alone dc__law_alone pm__law_alone an__law_alone cd__law_alone ct__law_alone), sl__law_alone⟩)
    (c__law_alone : PySem.W.codeIn K cd__law_alone "_law_alone" = true)
    (k__law_alone : PySem.W.keepIn K (.ref f__law_alone) = true)
    (a__law_bad_pairs : PySem.W.nsIn K mainGlobals "_law_bad_pairs" = some (some (.ref f__law_bad_pairs)))
    (l__law_bad_pairs : K.lookup f__law_bad_pairs = some ⟨oc__law_bad_pairs, od__law_bad_pairs, .func (PySem.W.fnOf "_law_bad_pairs" "_law_bad_pairs" (defArgs s__law_bad_pairs) (defBody s__law_bad_pairs) (defScope s__law_bad_pairs) .none kV__law_bad_pairs dc__law_bad_pairs pm__law_bad_pairs an__law_bad_pairs cd__law_bad_pairs ct__law_bad_pairs), sl__law_bad_pairs⟩)
    (c__law_bad_pairs : PySem.W.codeIn K cd__law_bad_pairs "_law_bad_pairs" = true)
    (k__law_bad_pairs : PySem.W.keepIn K (.ref f__law_bad_pairs) = true)
    (a__law_with_sticks : PySem.W.nsIn K mainGlobals "_law_with_sticks" = some (some (.ref f__law_with_sticks)))
    (l__law_with_sticks : K.lookup f__law_with_sticks = some ⟨oc__law_with_sticks, od__law_with_sticks, .func (PySem.W.fnOf "_law_with_sticks" "_law_with_sticks" (defArgs s__law_with_sticks) (defBody s__law_with_sticks) (defScope s__law_with_sticks) .none kV__law_with_sticks dc__law_with_sticks pm__law_with_sticks an__law_with_sticks cd__law_with_sticks ct__law_with_sticks), sl__law_with_sticks⟩)
    (c__law_with_sticks : PySem.W.codeIn K cd__law_with_sticks "_law_with_sticks" = true)
    (k__law_with_sticks : PySem.W.keepIn K (.ref f__law_with_sticks) = true)
    (a__law_no_sticks : PySem.W.nsIn K mainGlobals "_law_no_sticks" = some (some (.ref f__law_no_sticks)))
    (l__law_no_sticks : K.lookup f__law_no_sticks = some ⟨oc__law_no_sticks, od__law_no_sticks, .func (PySem.W.fnOf "_law_no_sticks" "_law_no_sticks" (defArgs s__law_no_sticks) (defBody s__law_no_sticks) (defScope s__law_no_sticks) .none kV__law_no_sticks dc__law_no_sticks pm__law_no_sticks an__law_no_sticks cd__law_no_sticks ct__law_no_sticks), sl__law_no_sticks⟩)
    (c__law_no_sticks : PySem.W.codeIn K cd__law_no_sticks "_law_no_sticks" = true)
    (k__law_no_sticks : PySem.W.keepIn K (.ref f__law_no_sticks) = true)
    (a__law_with_rows : PySem.W.nsIn K mainGlobals "_law_with_rows" = some (some (.ref f__law_with_rows)))
    (l__law_with_rows : K.lookup f__law_with_rows = some ⟨oc__law_with_rows, od__law_with_rows, .func (PySem.W.fnOf "_law_with_rows" "_law_with_rows" (defArgs s__law_with_rows) (defBody s__law_with_rows) (defScope s__law_with_rows) .none kV__law_with_rows dc__law_with_rows pm__law_with_rows an__law_with_rows cd__law_with_rows ct__law_with_rows), sl__law_with_rows⟩)
    (c__law_with_rows : PySem.W.codeIn K cd__law_with_rows "_law_with_rows" = true)
    (k__law_with_rows : PySem.W.keepIn K (.ref f__law_with_rows) = true)
    (a__law_no_rows : PySem.W.nsIn K mainGlobals "_law_no_rows" = some (some (.ref f__law_no_rows)))
    (l__law_no_rows : K.lookup f__law_no_rows = some ⟨oc__law_no_rows, od__law_no_rows, .func (PySem.W.fnOf "_law_no_rows" "_law_no_rows" (defArgs s__law_no_rows) (defBody s__law_no_rows) (defScope s__law_no_rows) .none kV__law_no_rows dc__law_no_rows pm__law_no_rows an__law_no_rows cd__law_no_rows ct__law_no_rows), sl__law_no_rows⟩)
    (c__law_no_rows : PySem.W.codeIn K cd__law_no_rows "_law_no_rows" = true)
    (k__law_no_rows : PySem.W.keepIn K (.ref f__law_no_rows) = true)
    (a__law_with_point : PySem.W.nsIn K mainGlobals "_law_with_point" = some (some (.ref f__law_with_point)))
    (l__law_with_point : K.lookup f__law_with_point = some ⟨oc__law_with_point, od__law_with_point, .func (PySem.W.fnOf "_law_with_point" "_law_with_point" (defArgs s__law_with_point) (defBody s__law_with_point) (defScope s__law_with_point) .none kV__law_with_point dc__law_with_point pm__law_with_point an__law_with_point cd__law_with_point ct__law_with_point), sl__law_with_point⟩)
    (c__law_with_point : PySem.W.codeIn K cd__law_with_point "_law_with_point" = true)
    (k__law_with_point : PySem.W.keepIn K (.ref f__law_with_point) = true)
    (a__law_with_times : PySem.W.nsIn K mainGlobals "_law_with_times" = some (some (.ref f__law_with_times)))
    (l__law_with_times : K.lookup f__law_with_times = some ⟨oc__law_with_times, od__law_with_times, .func (PySem.W.fnOf "_law_with_times" "_law_with_times" (defArgs s__law_with_times) (defBody s__law_with_times) (defScope s__law_with_times) .none kV__law_with_times dc__law_with_times pm__law_with_times an__law_with_times cd__law_with_times ct__law_with_times), sl__law_with_times⟩)
    (c__law_with_times : PySem.W.codeIn K cd__law_with_times "_law_with_times" = true)
    (k__law_with_times : PySem.W.keepIn K (.ref f__law_with_times) = true)
    (a__law_no_times : PySem.W.nsIn K mainGlobals "_law_no_times" = some (some (.ref f__law_no_times)))
    (l__law_no_times : K.lookup f__law_no_times = some ⟨oc__law_no_times, od__law_no_times, .func (PySem.W.fnOf "_law_no_times" "_law_no_times" (defArgs s__law_no_times) (defBody s__law_no_times) (defScope s__law_no_times) .none kV__law_no_times dc__law_no_times pm__law_no_times an__law_no_times cd__law_no_times ct__law_no_times), sl__law_no_times⟩)
    (c__law_no_times : PySem.W.codeIn K cd__law_no_times "_law_no_times" = true)
    (k__law_no_times : PySem.W.keepIn K (.ref f__law_no_times) = true)
    (a__law_refused : PySem.W.nsIn K mainGlobals "_law_refused" = some (some (.ref f__law_refused)))
    (l__law_refused : K.lookup f__law_refused = some ⟨oc__law_refused, od__law_refused, .func (PySem.W.fnOf "_law_refused" "_law_refused" (defArgs s__law_refused) (defBody s__law_refused) (defScope s__law_refused) .none kV__law_refused dc__law_refused pm__law_refused an__law_refused cd__law_refused ct__law_refused), sl__law_refused⟩)
    (c__law_refused : PySem.W.codeIn K cd__law_refused "_law_refused" = true)
    (k__law_refused : PySem.W.keepIn K (.ref f__law_refused) = true)
    (a__law_all_refused : PySem.W.nsIn K mainGlobals "_law_all_refused" = some (some (.ref f__law_all_refused)))
    (l__law_all_refused : K.lookup f__law_all_refused = some ⟨oc__law_all_refused, od__law_all_refused, .func (PySem.W.fnOf "_law_all_refused" "_law_all_refused" (defArgs s__law_all_refused) (defBody s__law_all_refused) (defScope s__law_all_refused) .none kV__law_all_refused dc__law_all_refused pm__law_all_refused an__law_all_refused cd__law_all_refused ct__law_all_refused), sl__law_all_refused⟩)
    (c__law_all_refused : PySem.W.codeIn K cd__law_all_refused "_law_all_refused" = true)
    (k__law_all_refused : PySem.W.keepIn K (.ref f__law_all_refused) = true)
    (a_law : PySem.W.nsIn K mainGlobals "law" = some (some (.ref f_law)))
    (l_law : K.lookup f_law = some ⟨oc_law, od_law, .func (PySem.W.fnOf "law" "law" (defArgs s_law) (defBody s_law) (defScope s_law) .none kV_law dc_law pm_law an_law cd_law ct_law), sl_law⟩)
    (c_law : PySem.W.codeIn K cd_law "law" = true)
    (k_law : PySem.W.keepIn K (.ref f_law) = true)
    (z_ValueError : PySem.W.nsIn K mainGlobals "ValueError" = some none)
    (z_abs : PySem.W.nsIn K mainGlobals "abs" = some none)
    (z_all : PySem.W.nsIn K mainGlobals "all" = some none)
    (z_bool : PySem.W.nsIn K mainGlobals "bool" = some none)
    (z_enumerate : PySem.W.nsIn K mainGlobals "enumerate" = some none)
    (z_int : PySem.W.nsIn K mainGlobals "int" = some none)
    (z_isinstance : PySem.W.nsIn K mainGlobals "isinstance" = some none)
    (z_len : PySem.W.nsIn K mainGlobals "len" = some none)
    (z_list : PySem.W.nsIn K mainGlobals "list" = some none)
    (z_range : PySem.W.nsIn K mainGlobals "range" = some none)
    (z_sum : PySem.W.nsIn K mainGlobals "sum" = some none)
    (z_tuple : PySem.W.nsIn K mainGlobals "tuple" = some none)
    (y_FARTHEST : PySem.W.nsIn K mainGlobals "FARTHEST" = some (some (.int 20 t_FARTHEST)))
    (y_MOST_STICKS : PySem.W.nsIn K mainGlobals "MOST_STICKS" = some (some (.int 6 t_MOST_STICKS))) :
    ∃ fd : FuncData, (∀ (s : Shared) (v : Value), BindsTo s fd ⟨[v], []⟩ [("_law_script", v)]) ∧ ∀ base : Heap, K.In base → base.Ns mainGlobals mg → FnOk l.prog w K mg base CX0 11 fa fd ["_law_script"] (spLaw K) := by
  have e := hfa.symm.trans (PySem.W.mg_of X G a_law)
  cases e
  have T : Txt K mg C_BodyError C_BadSticks C_BadPoint C_BadTimes C_BadMany C_BadCut C_BadThree C_BadPlaces C_BadStick := ⟨PySem.W.mg_none_of X G z_ValueError, PySem.W.mg_none_of X G z_abs, PySem.W.mg_none_of X G z_all, PySem.W.mg_none_of X G z_bool, PySem.W.mg_none_of X G z_enumerate, PySem.W.mg_none_of X G z_int, PySem.W.mg_none_of X G z_isinstance, PySem.W.mg_none_of X G z_len, PySem.W.mg_none_of X G z_list, PySem.W.mg_none_of X G z_range, PySem.W.mg_none_of X G z_sum, PySem.W.mg_none_of X G z_tuple, ⟨_, PySem.W.mg_of X G y_FARTHEST⟩, ⟨_, PySem.W.mg_of X G y_MOST_STICKS⟩, PySem.W.mg_of X G a_BodyError, PySem.W.mg_of X G a_BadSticks, PySem.W.mg_of X G a_BadPoint, PySem.W.mg_of X G a_BadTimes, PySem.W.mg_of X G a_BadMany, PySem.W.mg_of X G a_BadCut, PySem.W.mg_of X G a_BadThree, PySem.W.mg_of X G a_BadPlaces, PySem.W.mg_of X G a_BadStick, ⟨xc_BadSticks⟩, ⟨xi0_BadSticks, xi1_BadSticks, xi2_BadSticks, qn, qt, xi5_BadSticks, xi6_BadSticks⟩, xm_BadSticks, kv_BadSticks, ⟨xc_BadPoint⟩, ⟨xi0_BadPoint, xi1_BadPoint, xi2_BadPoint, qn, qt, xi5_BadPoint, xi6_BadPoint⟩, xm_BadPoint, kv_BadPoint, ⟨xc_BadTimes⟩, ⟨xi0_BadTimes, xi1_BadTimes, xi2_BadTimes, qn, qt, xi5_BadTimes, xi6_BadTimes⟩, xm_BadTimes, kv_BadTimes, kx_BadSticks_BadSticks, kx_BadSticks_BadPoint, kx_BadSticks_BadTimes, kx_BadSticks_BadMany, kx_BadSticks_BadCut, kx_BadSticks_BadThree, kx_BadSticks_BadPlaces, kx_BadSticks_BadStick, kx_BadPoint_BadSticks, kx_BadPoint_BadPoint, kx_BadPoint_BadTimes, kx_BadPoint_BadMany, kx_BadPoint_BadCut, kx_BadPoint_BadThree, kx_BadPoint_BadPlaces, kx_BadPoint_BadStick, kx_BadTimes_BadSticks, kx_BadTimes_BadPoint, kx_BadTimes_BadTimes, kx_BadTimes_BadMany, kx_BadTimes_BadCut, kx_BadTimes_BadThree, kx_BadTimes_BadPlaces, kx_BadTimes_BadStick, ⟨_, PySem.W.mg_of X G a__law_bad_pairs, a__law_bad_pairs⟩, ⟨_, PySem.W.mg_of X G a__law_no_rows, a__law_no_rows⟩, ⟨_, PySem.W.mg_of X G a__law_no_sticks, a__law_no_sticks⟩, ⟨_, PySem.W.mg_of X G a__law_no_times, a__law_no_times⟩, ⟨_, PySem.W.mg_of X G a__law_with_point, a__law_with_point⟩, ⟨_, PySem.W.mg_of X G a__law_with_rows, a__law_with_rows⟩, ⟨_, PySem.W.mg_of X G a__law_with_sticks, a__law_with_sticks⟩, ⟨_, PySem.W.mg_of X G a__law_with_times, a__law_with_times⟩⟩
  refine ⟨PySem.W.fnOf "law" "law" (defArgs s_law) (defBody s_law) (defScope s_law) .none kV_law dc_law pm_law an_law cd_law ct_law, fun s v => .of_eq rfl, fun base kb nb => ?_⟩
  have F_is_number : FunG K mg "is_number" s_is_number ["value"] := fung_mk X G a_is_number l_is_number c_is_number k_is_number fun _ _ _ _ _ _ us hl => match us, hl with | [_], _ => rfl
  obtain ⟨g_is_number, C_is_number, H_is_number⟩ := ok_is_number (P := l.prog) (w := w) (base := base) T F_is_number
  have F_is_point : FunG K mg "is_point" s_is_point ["value"] := fung_mk X G a_is_point l_is_point c_is_point k_is_point fun _ _ _ _ _ _ us hl => match us, hl with | [_], _ => rfl
  obtain ⟨g_is_point, C_is_point, H_is_point⟩ := ok_is_point (P := l.prog) (w := w) (base := base) T F_is_point C_is_number H_is_number
  have F_is_near : FunG K mg "is_near" s_is_near ["value"] := fung_mk X G a_is_near l_is_near c_is_near k_is_near fun _ _ _ _ _ _ us hl => match us, hl with | [_], _ => rfl
  obtain ⟨g_is_near, C_is_near, H_is_near⟩ := ok_is_near (P := l.prog) (w := w) (base := base) T F_is_near C_is_point H_is_point
  have F_greatest_into : FunG K mg "greatest_into" s_greatest_into ["one", "other"] := fung_mk X G a_greatest_into l_greatest_into c_greatest_into k_greatest_into fun _ _ _ _ _ _ us hl => match us, hl with | [_, _], _ => rfl
  obtain ⟨g_greatest_into, C_greatest_into, H_greatest_into⟩ := ok_greatest_into (P := l.prog) (w := w) (base := base) T F_greatest_into
  have F_span : FunG K mg "span" s_span ["one", "other"] := fung_mk X G a_span l_span c_span k_span fun _ _ _ _ _ _ us hl => match us, hl with | [_, _], _ => rfl
  obtain ⟨g_span, C_span, H_span⟩ := ok_span (P := l.prog) (w := w) (base := base) T F_span
  have F_stands : FunG K mg "stands" s_stands ["stick"] := fung_mk X G a_stands l_stands c_stands k_stands fun _ _ _ _ _ _ us hl => match us, hl with | [_], _ => rfl
  obtain ⟨g_stands, C_stands, H_stands⟩ := ok_stands (P := l.prog) (w := w) (base := base) T F_stands
  have F_put_together : FunG K mg "put_together" s_put_together ["one", "other"] := fung_mk X G a_put_together l_put_together c_put_together k_put_together fun _ _ _ _ _ _ us hl => match us, hl with | [_, _], _ => rfl
  obtain ⟨g_put_together, C_put_together, H_put_together⟩ := ok_put_together (P := l.prog) (w := w) (base := base) T F_put_together
  have F_taken_back : FunG K mg "taken_back" s_taken_back ["one", "other"] := fung_mk X G a_taken_back l_taken_back c_taken_back k_taken_back fun _ _ _ _ _ _ us hl => match us, hl with | [_, _], _ => rfl
  obtain ⟨g_taken_back, C_taken_back, H_taken_back⟩ := ok_taken_back (P := l.prog) (w := w) (base := base) T F_taken_back
  have F_twos : FunG K mg "twos" s_twos ["many"] := fung_mk X G a_twos l_twos c_twos k_twos fun _ _ _ _ _ _ us hl => match us, hl with | [_], _ => rfl
  obtain ⟨g_twos, C_twos, H_twos⟩ := ok_twos (P := l.prog) (w := w) (base := base) T F_twos
  have F_are_near : FunG K mg "are_near" s_are_near ["value"] := fung_mk X G a_are_near l_are_near c_are_near k_are_near fun _ _ _ _ _ _ us hl => match us, hl with | [_], _ => rfl
  obtain ⟨g_are_near, C_are_near, H_are_near⟩ := ok_are_near (P := l.prog) (w := w) (base := base) T F_are_near C_is_near H_is_near
  have F_are_rows : FunG K mg "are_rows" s_are_rows ["value"] := fung_mk X G a_are_rows l_are_rows c_are_rows k_are_rows fun _ _ _ _ _ _ us hl => match us, hl with | [_], _ => rfl
  obtain ⟨g_are_rows, C_are_rows, H_are_rows⟩ := ok_are_rows (P := l.prog) (w := w) (base := base) T F_are_rows C_are_near H_are_near
  have F_are_sticks : FunG K mg "are_sticks" s_are_sticks ["value"] := fung_mk X G a_are_sticks l_are_sticks c_are_sticks k_are_sticks fun _ _ _ _ _ _ us hl => match us, hl with | [_], _ => rfl
  obtain ⟨g_are_sticks, C_are_sticks, H_are_sticks⟩ := ok_are_sticks (P := l.prog) (w := w) (base := base) T F_are_sticks C_span H_span C_stands H_stands C_are_near H_are_near
  have F_check_sticks : FunG K mg "check_sticks" s_check_sticks ["value"] := fung_mk X G a_check_sticks l_check_sticks c_check_sticks k_check_sticks fun _ _ _ _ _ _ us hl => match us, hl with | [_], _ => rfl
  obtain ⟨g_check_sticks, C_check_sticks, H_check_sticks⟩ := ok_check_sticks (P := l.prog) (w := w) (base := base) T F_check_sticks C_are_sticks H_are_sticks
  have F_check_sticks : FunG K mg "check_sticks" s_check_sticks ["value"] := fung_mk X G a_check_sticks l_check_sticks c_check_sticks k_check_sticks fun _ _ _ _ _ _ us hl => match us, hl with | [_], _ => rfl
  obtain ⟨g_X_check_sticks, C_X_check_sticks, H_X_check_sticks⟩ := ok_X_check_sticks (P := l.prog) (w := w) (base := base) T F_check_sticks C_are_sticks H_are_sticks
  have F_check_point : FunG K mg "check_point" s_check_point ["value"] := fung_mk X G a_check_point l_check_point c_check_point k_check_point fun _ _ _ _ _ _ us hl => match us, hl with | [_], _ => rfl
  obtain ⟨g_X_check_point, C_X_check_point, H_X_check_point⟩ := ok_X_check_point (P := l.prog) (w := w) (base := base) T F_check_point C_is_point H_is_point
  have F_gathered : FunG K mg "gathered" s_gathered ["rows"] := fung_mk X G a_gathered l_gathered c_gathered k_gathered fun _ _ _ _ _ _ us hl => match us, hl with | [_], _ => rfl
  obtain ⟨g_X_gathered, C_X_gathered, H_X_gathered⟩ := ok_X_gathered (P := l.prog) (w := w) (base := base) T F_gathered C_are_rows H_are_rows
  have F_covered : FunG K mg "covered" s_covered ["sticks"] := fung_mk X G a_covered l_covered c_covered k_covered fun _ _ _ _ _ _ us hl => match us, hl with | [_], _ => rfl
  obtain ⟨g_covered, C_covered, H_covered⟩ := ok_covered (P := l.prog) (w := w) (base := base) T F_covered C_twos H_twos C_span H_span
  have F_steps : FunG K mg "steps" s_steps ["sticks"] := fung_mk X G a_steps l_steps c_steps k_steps fun _ _ _ _ _ _ us hl => match us, hl with | [_], _ => rfl
  obtain ⟨g_steps, C_steps, H_steps⟩ := ok_steps (P := l.prog) (w := w) (base := base) T F_steps C_greatest_into H_greatest_into
  have F_check_times : FunG K mg "check_times" s_check_times ["value"] := fung_mk X G a_check_times l_check_times c_check_times k_check_times fun _ _ _ _ _ _ us hl => match us, hl with | [_], _ => rfl
  obtain ⟨g_check_times, C_check_times, H_check_times⟩ := ok_check_times (P := l.prog) (w := w) (base := base) T F_check_times C_is_number H_is_number
  have F_check_times : FunG K mg "check_times" s_check_times ["value"] := fung_mk X G a_check_times l_check_times c_check_times k_check_times fun _ _ _ _ _ _ us hl => match us, hl with | [_], _ => rfl
  obtain ⟨g_X_check_times, C_X_check_times, H_X_check_times⟩ := ok_X_check_times (P := l.prog) (w := w) (base := base) T F_check_times C_is_number H_is_number
  have F_corners : FunG K mg "corners" s_corners ["sticks"] := fung_mk X G a_corners l_corners c_corners k_corners fun _ _ _ _ _ _ us hl => match us, hl with | [_], _ => rfl
  obtain ⟨g_corners, C_corners, H_corners⟩ := ok_corners (P := l.prog) (w := w) (base := base) T F_corners C_taken_back H_taken_back C_put_together H_put_together C_check_sticks H_check_sticks
  have F_corners : FunG K mg "corners" s_corners ["sticks"] := fung_mk X G a_corners l_corners c_corners k_corners fun _ _ _ _ _ _ us hl => match us, hl with | [_], _ => rfl
  obtain ⟨g_X_corners, C_X_corners, H_X_corners⟩ := ok_X_corners (P := l.prog) (w := w) (base := base) T F_corners C_X_check_sticks H_X_check_sticks
  have F_area : FunG K mg "area" s_area ["sticks"] := fung_mk X G a_area l_area c_area k_area fun _ _ _ _ _ _ us hl => match us, hl with | [_], _ => rfl
  obtain ⟨g_area, C_area, H_area⟩ := ok_area (P := l.prog) (w := w) (base := base) T F_area C_covered H_covered C_check_sticks H_check_sticks
  have F_area : FunG K mg "area" s_area ["sticks"] := fung_mk X G a_area l_area c_area k_area fun _ _ _ _ _ _ us hl => match us, hl with | [_], _ => rfl
  obtain ⟨g_X_area, C_X_area, H_X_area⟩ := ok_X_area (P := l.prog) (w := w) (base := base) T F_area C_X_check_sticks H_X_check_sticks
  have F_opposite : FunG K mg "opposite" s_opposite ["sticks", "point"] := fung_mk X G a_opposite l_opposite c_opposite k_opposite fun _ _ _ _ _ _ us hl => match us, hl with | [_, _], _ => rfl
  obtain ⟨g_X_opposite, C_X_opposite, H_X_opposite⟩ := ok_X_opposite (P := l.prog) (w := w) (base := base) T F_opposite C_X_check_sticks H_X_check_sticks C_check_sticks H_check_sticks C_X_check_point H_X_check_point
  have F_whole_points : FunG K mg "whole_points" s_whole_points ["sticks", "times"] := fung_mk X G a_whole_points l_whole_points c_whole_points k_whole_points fun _ _ _ _ _ _ us hl => match us, hl with | [_, _], _ => rfl
  obtain ⟨g_whole_points, C_whole_points, H_whole_points⟩ := ok_whole_points (P := l.prog) (w := w) (base := base) T F_whole_points C_steps H_steps C_covered H_covered C_check_times H_check_times C_check_sticks H_check_sticks
  have F_whole_points : FunG K mg "whole_points" s_whole_points ["sticks", "times"] := fung_mk X G a_whole_points l_whole_points c_whole_points k_whole_points fun _ _ _ _ _ _ us hl => match us, hl with | [_, _], _ => rfl
  obtain ⟨g_X_whole_points, C_X_whole_points, H_X_whole_points⟩ := ok_X_whole_points (P := l.prog) (w := w) (base := base) T F_whole_points C_X_check_sticks H_X_check_sticks C_check_sticks H_check_sticks C_X_check_times H_X_check_times
  have F_rim_points : FunG K mg "rim_points" s_rim_points ["sticks", "times"] := fung_mk X G a_rim_points l_rim_points c_rim_points k_rim_points fun _ _ _ _ _ _ us hl => match us, hl with | [_, _], _ => rfl
  obtain ⟨g_X_rim_points, C_X_rim_points, H_X_rim_points⟩ := ok_X_rim_points (P := l.prog) (w := w) (base := base) T F_rim_points C_X_check_sticks H_X_check_sticks C_check_sticks H_check_sticks C_X_check_times H_X_check_times
  have F_within : FunG K mg "within" s_within ["sticks", "point"] := fung_mk X G a_within l_within c_within k_within fun _ _ _ _ _ _ us hl => match us, hl with | [_, _], _ => rfl
  obtain ⟨g_X_within, C_X_within, H_X_within⟩ := ok_X_within (P := l.prog) (w := w) (base := base) T F_within C_X_check_sticks H_X_check_sticks C_check_sticks H_check_sticks C_X_check_point H_X_check_point
  have F_slabs : FunG K mg "slabs" s_slabs ["sticks", "cut"] := fung_mk X G a_slabs l_slabs c_slabs k_slabs fun _ _ _ _ _ _ us hl => match us, hl with | [_, _], _ => rfl
  obtain ⟨g_X_slabs, C_X_slabs, H_X_slabs⟩ := ok_X_slabs (P := l.prog) (w := w) (base := base) T F_slabs C_X_check_sticks H_X_check_sticks
  have F__law_alone : FunG K mg "_law_alone" s__law_alone ["_law_error", "_law_due"] := fung_mk X G a__law_alone l__law_alone c__law_alone k__law_alone fun _ _ _ _ _ _ us hl => match us, hl with | [_, _], _ => rfl
  obtain ⟨g_N__law_alone, C_N__law_alone, H_N__law_alone⟩ := ok_N__law_alone (P := l.prog) (w := w) (base := base) T F__law_alone
  have F__law_bad_pairs : FunG K mg "_law_bad_pairs" s__law_bad_pairs ["_law_cell"] := fung_mk X G a__law_bad_pairs l__law_bad_pairs c__law_bad_pairs k__law_bad_pairs fun _ _ _ _ _ _ us hl => match us, hl with | [_], _ => rfl
  obtain ⟨g__law_bad_pairs, C__law_bad_pairs, H__law_bad_pairs⟩ := ok__law_bad_pairs (P := l.prog) (w := w) (base := base) T F__law_bad_pairs
  have F__law_with_sticks : FunG K mg "_law_with_sticks" s__law_with_sticks ["_law_door", "_law_thing"] := fung_mk X G a__law_with_sticks l__law_with_sticks c__law_with_sticks k__law_with_sticks fun _ _ _ _ _ _ us hl => match us, hl with | [_, _], _ => rfl
  obtain ⟨g_X__law_with_sticks, C_X__law_with_sticks, H_X__law_with_sticks⟩ := ok_X__law_with_sticks (P := l.prog) (w := w) (base := base) T F__law_with_sticks C_X_corners H_X_corners C_X_area H_X_area C_X_opposite H_X_opposite C_X_within H_X_within C_X_whole_points H_X_whole_points C_X_rim_points H_X_rim_points C_X_slabs H_X_slabs
  have F__law_no_sticks : FunG K mg "_law_no_sticks" s__law_no_sticks ["_law_cell"] := fung_mk X G a__law_no_sticks l__law_no_sticks c__law_no_sticks k__law_no_sticks fun _ _ _ _ _ _ us hl => match us, hl with | [_], _ => rfl
  obtain ⟨g__law_no_sticks, C__law_no_sticks, H__law_no_sticks⟩ := ok__law_no_sticks (P := l.prog) (w := w) (base := base) T F__law_no_sticks C__law_bad_pairs H__law_bad_pairs
  have F__law_with_rows : FunG K mg "_law_with_rows" s__law_with_rows ["_law_door", "_law_thing"] := fung_mk X G a__law_with_rows l__law_with_rows c__law_with_rows k__law_with_rows fun _ _ _ _ _ _ us hl => match us, hl with | [_, _], _ => rfl
  obtain ⟨g_X__law_with_rows, C_X__law_with_rows, H_X__law_with_rows⟩ := ok_X__law_with_rows (P := l.prog) (w := w) (base := base) T F__law_with_rows C_X_gathered H_X_gathered
  have F__law_no_rows : FunG K mg "_law_no_rows" s__law_no_rows ["_law_cell"] := fung_mk X G a__law_no_rows l__law_no_rows c__law_no_rows k__law_no_rows fun _ _ _ _ _ _ us hl => match us, hl with | [_], _ => rfl
  obtain ⟨g__law_no_rows, C__law_no_rows, H__law_no_rows⟩ := ok__law_no_rows (P := l.prog) (w := w) (base := base) T F__law_no_rows C__law_bad_pairs H__law_bad_pairs
  have F__law_with_point : FunG K mg "_law_with_point" s__law_with_point ["_law_door", "_law_thing"] := fung_mk X G a__law_with_point l__law_with_point c__law_with_point k__law_with_point fun _ _ _ _ _ _ us hl => match us, hl with | [_, _], _ => rfl
  obtain ⟨g_X__law_with_point, C_X__law_with_point, H_X__law_with_point⟩ := ok_X__law_with_point (P := l.prog) (w := w) (base := base) T F__law_with_point C_X_opposite H_X_opposite C_X_within H_X_within
  have F__law_with_times : FunG K mg "_law_with_times" s__law_with_times ["_law_door", "_law_thing"] := fung_mk X G a__law_with_times l__law_with_times c__law_with_times k__law_with_times fun _ _ _ _ _ _ us hl => match us, hl with | [_, _], _ => rfl
  obtain ⟨g_X__law_with_times, C_X__law_with_times, H_X__law_with_times⟩ := ok_X__law_with_times (P := l.prog) (w := w) (base := base) T F__law_with_times C_X_whole_points H_X_whole_points C_X_rim_points H_X_rim_points
  have F__law_no_times : FunG K mg "_law_no_times" s__law_no_times ["_law_cell"] := fung_mk X G a__law_no_times l__law_no_times c__law_no_times k__law_no_times fun _ _ _ _ _ _ us hl => match us, hl with | [_], _ => rfl
  obtain ⟨g__law_no_times, C__law_no_times, H__law_no_times⟩ := ok__law_no_times (P := l.prog) (w := w) (base := base) T F__law_no_times
  have F__law_refused : FunG K mg "_law_refused" s__law_refused ["_law_ask", "_law_door", "_law_thing", "_law_due"] := fung_mk X G a__law_refused l__law_refused c__law_refused k__law_refused fun _ _ _ _ _ _ us hl => match us, hl with | [_, _, _, _], _ => rfl
  obtain ⟨g__law_refused, C__law_refused, H__law_refused⟩ := ok__law_refused (P := l.prog) (w := w) (base := base) T F__law_refused C_N__law_alone H_N__law_alone C_X__law_with_times H_X__law_with_times C_X__law_with_point H_X__law_with_point C_X__law_with_rows H_X__law_with_rows C_X__law_with_sticks H_X__law_with_sticks
  have F__law_all_refused : FunG K mg "_law_all_refused" s__law_all_refused ["_law_script", "_law_kinds"] := fung_mk X G a__law_all_refused l__law_all_refused c__law_all_refused k__law_all_refused fun _ _ _ _ _ _ us hl => match us, hl with | [_, _], _ => rfl
  obtain ⟨g__law_all_refused, C__law_all_refused, H__law_all_refused⟩ := ok__law_all_refused (P := l.prog) (w := w) (base := base) T F__law_all_refused C__law_refused H__law_refused C__law_no_times H__law_no_times C__law_bad_pairs H__law_bad_pairs C__law_no_rows H__law_no_rows C__law_no_sticks H__law_no_sticks
  obtain ⟨g, Fl, Hl⟩ := ok_law (P := l.prog) (w := w) (base := base) T (fun_mk (st := s_law) l_law c_law k_law) C_corners H_corners C_whole_points H_whole_points C_area H_area C__law_all_refused H__law_all_refused
  exact law_of Fl Hl
end K17
open PySem PySem.W PyProof.Rows
set_option maxRecDepth 100000 in
set_option maxHeartbeats 0 in
theorem PySem.Challenge.cw_stickbodies_k17_refused_bodies_holds : PySem.Challenge.rw_stickbodies_k17_refused_bodies.Holds := by
  w_on; o_law; k_head; (case hw => w_witness2)
  k_fill
  refine MD.walk_ofB (l := PySem.Challenge.rw_stickbodies_k17_refused_bodies) (k := 11) (x := "_law_script") rfl rfl ⟨rfl, by decide, by decide⟩ (fun w h Y => PySem.W.kIn_of Y) ?F
  case F =>
    intro w mg fa h KX G hmg
    refine' K17.all_mk KX G hmg ?a_BodyError ?a_BadSticks ?a_BadPoint ?a_BadTimes ?a_BadMany ?a_BadCut ?a_BadThree ?a_BadPlaces ?a_BadStick ?xc_BadSticks ?xi0_BadSticks ?xi1_BadSticks ?xi2_BadSticks ?xi5_BadSticks ?xi6_BadSticks ?xm_BadSticks ?kv_BadSticks ?kx_BadSticks_BadSticks ?kx_BadSticks_BadPoint ?kx_BadSticks_BadTimes ?kx_BadSticks_BadMany ?kx_BadSticks_BadCut ?kx_BadSticks_BadThree ?kx_BadSticks_BadPlaces ?kx_BadSticks_BadStick ?xc_BadPoint ?xi0_BadPoint ?xi1_BadPoint ?xi2_BadPoint ?xi5_BadPoint ?xi6_BadPoint ?xm_BadPoint ?kv_BadPoint ?kx_BadPoint_BadSticks ?kx_BadPoint_BadPoint ?kx_BadPoint_BadTimes ?kx_BadPoint_BadMany ?kx_BadPoint_BadCut ?kx_BadPoint_BadThree ?kx_BadPoint_BadPlaces ?kx_BadPoint_BadStick ?xc_BadTimes ?xi0_BadTimes ?xi1_BadTimes ?xi2_BadTimes ?xi5_BadTimes ?xi6_BadTimes ?xm_BadTimes ?kv_BadTimes ?kx_BadTimes_BadSticks ?kx_BadTimes_BadPoint ?kx_BadTimes_BadTimes ?kx_BadTimes_BadMany ?kx_BadTimes_BadCut ?kx_BadTimes_BadThree ?kx_BadTimes_BadPlaces ?kx_BadTimes_BadStick ?qn ?qt ?a_is_number ?l_is_number ?c_is_number ?k_is_number ?a_is_point ?l_is_point ?c_is_point ?k_is_point ?a_is_near ?l_is_near ?c_is_near ?k_is_near ?a_greatest_into ?l_greatest_into ?c_greatest_into ?k_greatest_into ?a_span ?l_span ?c_span ?k_span ?a_stands ?l_stands ?c_stands ?k_stands ?a_put_together ?l_put_together ?c_put_together ?k_put_together ?a_taken_back ?l_taken_back ?c_taken_back ?k_taken_back ?a_twos ?l_twos ?c_twos ?k_twos ?a_are_near ?l_are_near ?c_are_near ?k_are_near ?a_are_rows ?l_are_rows ?c_are_rows ?k_are_rows ?a_are_sticks ?l_are_sticks ?c_are_sticks ?k_are_sticks ?a_check_sticks ?l_check_sticks ?c_check_sticks ?k_check_sticks ?a_check_point ?l_check_point ?c_check_point ?k_check_point ?a_gathered ?l_gathered ?c_gathered ?k_gathered ?a_covered ?l_covered ?c_covered ?k_covered ?a_steps ?l_steps ?c_steps ?k_steps ?a_check_times ?l_check_times ?c_check_times ?k_check_times ?a_corners ?l_corners ?c_corners ?k_corners ?a_area ?l_area ?c_area ?k_area ?a_opposite ?l_opposite ?c_opposite ?k_opposite ?a_whole_points ?l_whole_points ?c_whole_points ?k_whole_points ?a_rim_points ?l_rim_points ?c_rim_points ?k_rim_points ?a_within ?l_within ?c_within ?k_within ?a_slabs ?l_slabs ?c_slabs ?k_slabs ?a__law_alone ?l__law_alone ?c__law_alone ?k__law_alone ?a__law_bad_pairs ?l__law_bad_pairs ?c__law_bad_pairs ?k__law_bad_pairs ?a__law_with_sticks ?l__law_with_sticks ?c__law_with_sticks ?k__law_with_sticks ?a__law_no_sticks ?l__law_no_sticks ?c__law_no_sticks ?k__law_no_sticks ?a__law_with_rows ?l__law_with_rows ?c__law_with_rows ?k__law_with_rows ?a__law_no_rows ?l__law_no_rows ?c__law_no_rows ?k__law_no_rows ?a__law_with_point ?l__law_with_point ?c__law_with_point ?k__law_with_point ?a__law_with_times ?l__law_with_times ?c__law_with_times ?k__law_with_times ?a__law_no_times ?l__law_no_times ?c__law_no_times ?k__law_no_times ?a__law_refused ?l__law_refused ?c__law_refused ?k__law_refused ?a__law_all_refused ?l__law_all_refused ?c__law_all_refused ?k__law_all_refused ?a_law ?l_law ?c_law ?k_law ?z_ValueError ?z_abs ?z_all ?z_bool ?z_enumerate ?z_int ?z_isinstance ?z_len ?z_list ?z_range ?z_sum ?z_tuple ?y_FARTHEST ?y_MOST_STICKS
    (case a_BodyError => k_is); (case a_BadSticks => k_is); (case a_BadPoint => k_is); (case a_BadTimes => k_is); (case a_BadMany => k_is); (case a_BadCut => k_is)
    (case a_BadThree => k_is); (case a_BadPlaces => k_is); (case a_BadStick => k_is); (case xc_BadSticks => k_exc); (case xi0_BadSticks => k_is); (case xi1_BadSticks => k_is)
    (case xi2_BadSticks => k_is); (case xi5_BadSticks => k_is); (case xi6_BadSticks => k_is); (case xm_BadSticks => kernel_rfl); (case kv_BadSticks => kit_is); (case kx_BadSticks_BadSticks => kit_is)
    (case kx_BadSticks_BadPoint => kit_is); (case kx_BadSticks_BadTimes => kit_is); (case kx_BadSticks_BadMany => kit_is); (case kx_BadSticks_BadCut => kit_is); (case kx_BadSticks_BadThree => kit_is); (case kx_BadSticks_BadPlaces => kit_is)
    (case kx_BadSticks_BadStick => kit_is); (case xc_BadPoint => k_exc); (case xi0_BadPoint => k_is); (case xi1_BadPoint => k_is); (case xi2_BadPoint => k_is); (case xi5_BadPoint => k_is)
    (case xi6_BadPoint => k_is); (case xm_BadPoint => kernel_rfl); (case kv_BadPoint => kit_is); (case kx_BadPoint_BadSticks => kit_is); (case kx_BadPoint_BadPoint => kit_is); (case kx_BadPoint_BadTimes => kit_is)
    (case kx_BadPoint_BadMany => kit_is); (case kx_BadPoint_BadCut => kit_is); (case kx_BadPoint_BadThree => kit_is); (case kx_BadPoint_BadPlaces => kit_is); (case kx_BadPoint_BadStick => kit_is); (case xc_BadTimes => k_exc)
    (case xi0_BadTimes => k_is); (case xi1_BadTimes => k_is); (case xi2_BadTimes => k_is); (case xi5_BadTimes => k_is); (case xi6_BadTimes => k_is); (case xm_BadTimes => kernel_rfl)
    (case kv_BadTimes => kit_is); (case kx_BadTimes_BadSticks => kit_is); (case kx_BadTimes_BadPoint => kit_is); (case kx_BadTimes_BadTimes => kit_is); (case kx_BadTimes_BadMany => kit_is); (case kx_BadTimes_BadCut => kit_is)
    (case kx_BadTimes_BadThree => kit_is); (case kx_BadTimes_BadPlaces => kit_is); (case kx_BadTimes_BadStick => kit_is); (case qn => k_is); (case qt => k_is); (case a_is_number => k_is)
    (case l_is_number => k_is); (case c_is_number => k_is); (case k_is_number => k_is); (case a_is_point => k_is); (case l_is_point => k_is); (case c_is_point => k_is)
    (case k_is_point => k_is); (case a_is_near => k_is); (case l_is_near => k_is); (case c_is_near => k_is); (case k_is_near => k_is); (case a_greatest_into => k_is)
    (case l_greatest_into => k_is); (case c_greatest_into => k_is); (case k_greatest_into => k_is); (case a_span => k_is); (case l_span => k_is); (case c_span => k_is)
    (case k_span => k_is); (case a_stands => k_is); (case l_stands => k_is); (case c_stands => k_is); (case k_stands => k_is); (case a_put_together => k_is)
    (case l_put_together => k_is); (case c_put_together => k_is); (case k_put_together => k_is); (case a_taken_back => k_is); (case l_taken_back => k_is); (case c_taken_back => k_is)
    (case k_taken_back => k_is); (case a_twos => k_is); (case l_twos => k_is); (case c_twos => k_is); (case k_twos => k_is); (case a_are_near => k_is)
    (case l_are_near => k_is); (case c_are_near => k_is); (case k_are_near => k_is); (case a_are_rows => k_is); (case l_are_rows => k_is); (case c_are_rows => k_is)
    (case k_are_rows => k_is); (case a_are_sticks => k_is); (case l_are_sticks => k_is); (case c_are_sticks => k_is); (case k_are_sticks => k_is); (case a_check_sticks => k_is)
    (case l_check_sticks => k_is); (case c_check_sticks => k_is); (case k_check_sticks => k_is); (case a_check_point => k_is); (case l_check_point => k_is); (case c_check_point => k_is)
    (case k_check_point => k_is); (case a_gathered => k_is); (case l_gathered => k_is); (case c_gathered => k_is); (case k_gathered => k_is); (case a_covered => k_is)
    (case l_covered => k_is); (case c_covered => k_is); (case k_covered => k_is); (case a_steps => k_is); (case l_steps => k_is); (case c_steps => k_is)
    (case k_steps => k_is); (case a_check_times => k_is); (case l_check_times => k_is); (case c_check_times => k_is); (case k_check_times => k_is); (case a_corners => k_is)
    (case l_corners => k_is); (case c_corners => k_is); (case k_corners => k_is); (case a_area => k_is); (case l_area => k_is); (case c_area => k_is)
    (case k_area => k_is); (case a_opposite => k_is); (case l_opposite => k_is); (case c_opposite => k_is); (case k_opposite => k_is); (case a_whole_points => k_is)
    (case l_whole_points => k_is); (case c_whole_points => k_is); (case k_whole_points => k_is); (case a_rim_points => k_is); (case l_rim_points => k_is); (case c_rim_points => k_is)
    (case k_rim_points => k_is); (case a_within => k_is); (case l_within => k_is); (case c_within => k_is); (case k_within => k_is); (case a_slabs => k_is)
    (case l_slabs => k_is); (case c_slabs => k_is); (case k_slabs => k_is); (case a__law_alone => k_is); (case l__law_alone => k_is); (case c__law_alone => k_is)
    (case k__law_alone => k_is); (case a__law_bad_pairs => k_is); (case l__law_bad_pairs => k_is); (case c__law_bad_pairs => k_is); (case k__law_bad_pairs => k_is); (case a__law_with_sticks => k_is)
    (case l__law_with_sticks => k_is); (case c__law_with_sticks => k_is); (case k__law_with_sticks => k_is); (case a__law_no_sticks => k_is); (case l__law_no_sticks => k_is); (case c__law_no_sticks => k_is)
    (case k__law_no_sticks => k_is); (case a__law_with_rows => k_is); (case l__law_with_rows => k_is); (case c__law_with_rows => k_is); (case k__law_with_rows => k_is); (case a__law_no_rows => k_is)
    (case l__law_no_rows => k_is); (case c__law_no_rows => k_is); (case k__law_no_rows => k_is); (case a__law_with_point => k_is); (case l__law_with_point => k_is); (case c__law_with_point => k_is)
    (case k__law_with_point => k_is); (case a__law_with_times => k_is); (case l__law_with_times => k_is); (case c__law_with_times => k_is); (case k__law_with_times => k_is); (case a__law_no_times => k_is)
    (case l__law_no_times => k_is); (case c__law_no_times => k_is); (case k__law_no_times => k_is); (case a__law_refused => k_is); (case l__law_refused => k_is); (case c__law_refused => k_is)
    (case k__law_refused => k_is); (case a__law_all_refused => k_is); (case l__law_all_refused => k_is); (case c__law_all_refused => k_is); (case k__law_all_refused => k_is); (case a_law => k_is)
    (case l_law => k_is); (case c_law => k_is); (case k_law => k_is); (case z_ValueError => k_is); (case z_abs => k_is); (case z_all => k_is)
    (case z_bool => k_is); (case z_enumerate => k_is); (case z_int => k_is); (case z_isinstance => k_is); (case z_len => k_is); (case z_list => k_is)
    (case z_range => k_is); (case z_sum => k_is); (case z_tuple => k_is); (case y_FARTHEST => k_is); (case y_MOST_STICKS => k_is)

