import PyProof.Rows.All
import Wide.All
import OpenK.AllK
import Wide.FinOn
import PyProof.EqAt
import PyProof.EqKinds
import PyProof.TupleCall
import KE.BitLaws
import PySem.Challenge.RW_stickbodies_k06_points_by_hand
set_option Elab.async false
set_option linter.all false
set_option maxRecDepth 100000
/-! THE HAND LAYER, for ints, bools, texts, own classes, lists, tuples, dicts, comprehensions, walks over dicts, enumerate, zip, reversed, texts, calls, loops. Paste it whole ahead of your own text; what your proof does not reach may be deleted. -/
namespace L2
open PySem PySem.Spec PyProof.Rows

/-- a key: an int or a str -/
abbrev Key := Sum Int Str
def keyIs : Key → Value → Bool
  | .inl k, v => Value.isInt k v
  | .inr x, v => Value.isStrOf x v
def keyH (w : World) : Key → Int
  | .inl k => hashInt k
  | .inr x => hashStr w x
theorem keyIs_shape : ∀ {k : Key} {v : Value}, keyIs k v = true → (∃ i t, k = Sum.inl i ∧ v = Value.int i t) ∨ (∃ x t, k = Sum.inr x ∧ v = Value.str x t)
  | .inl i, v, h => by
    obtain ⟨t, e⟩ := Value.isInt_shape (k := i) (v := v) h
    exact .inl ⟨i, t, rfl, e⟩
  | .inr x, v, h => by
    obtain ⟨t, e⟩ := Value.isStrOf_shape (x := x) (v := v) h
    exact .inr ⟨x, t, rfl, e⟩
theorem key_ll (a b : Int) : decide ((Sum.inl a : Key) = Sum.inl b) = (a == b) := by
  by_cases e : a = b
  · subst e; simp
  · have h : ¬ (Sum.inl a : Key) = Sum.inl b := fun q => e (Sum.inl.inj q)
    rw [decide_eq_false h]
    exact (beq_eq_false_iff_ne.mpr e).symm
theorem key_rr (a b : Str) : decide ((Sum.inr a : Key) = Sum.inr b) = decide (a = b) := by
  by_cases e : a = b
  · subst e; simp
  · have h : ¬ (Sum.inr a : Key) = Sum.inr b := fun q => e (Sum.inr.inj q)
    rw [decide_eq_false h, decide_eq_false e]
theorem key_lr (a : Int) (b : Str) : decide ((Sum.inl a : Key) = Sum.inr b) = false := decide_eq_false (fun q => nomatch q)
theorem key_rl (a : Str) (b : Int) : decide ((Sum.inr a : Key) = Sum.inl b) = false := decide_eq_false (fun q => nomatch q)

def mixKind (prog : Program) (w : World) : PySem.KeyKind prog w Key where
  is := keyIs
  hash := keyH w
  inj := fun v a b ha hb => by
    rcases keyIs_shape ha with ⟨i, t, rfl, rfl⟩ | ⟨x, t, rfl, rfl⟩
    · rcases keyIs_shape hb with ⟨j, u, rfl, e⟩ | ⟨y, u, rfl, e⟩
      · injection e with e1 _; rw [e1]
      · exact nomatch e
    · rcases keyIs_shape hb with ⟨j, u, rfl, e⟩ | ⟨y, u, rfl, e⟩
      · exact nomatch e
      · injection e with e1 _; rw [e1]
  byValue := fun k v h => by
    rcases keyIs_shape h with ⟨i, t, rfl, rfl⟩ | ⟨x, t, rfl, rfl⟩ <;> rfl
  pyHash := fun hv h => by
    rcases keyIs_shape hv with ⟨i, t, rfl, rfl⟩ | ⟨x, t, rfl, rfl⟩
    · exact wpAny_pyHash_int h
    · exact wpAny_pyHash_str h
  eqBool := fun hu hv h => by
    rcases keyIs_shape hu with ⟨i, t, rfl, rfl⟩ | ⟨x, t, rfl, rfl⟩
    · rcases keyIs_shape hv with ⟨j, u, rfl, rfl⟩ | ⟨y, u, rfl, rfl⟩
      · rw [key_ll] at h; exact wpAny_eqBool_int h
      · rw [key_lr] at h; exact SeqAt.EqAt.int_str i t y u _ _ _ _ h
    · rcases keyIs_shape hv with ⟨j, u, rfl, rfl⟩ | ⟨y, u, rfl, rfl⟩
      · rw [key_rl] at h; exact SeqAt.EqAt.str_int x t j u _ _ _ _ h
      · rw [key_rr] at h; exact wpAny_eqBool_str h
  «strs» := fun k x t v h => by
    rcases keyIs_shape h with ⟨i, u, rfl, e⟩ | ⟨y, u, rfl, e⟩
    · exact nomatch e
    · injection e with e1 _
      subst e1
      cases v <;> rfl

theorem mixKind_is (prog : Program) (w : World) (k : Key) (v : Value) : (mixKind prog w).is k v = keyIs k v := rfl
end L2

namespace L2
open PySem PySem.Spec PyProof.Rows

/-- a value, without the heap -/
inductive V where
  | non | bl (b : Bool) | int (i : Int) | str (x : Str) | byt (b : Array UInt8) | flt (b : UInt64) | ref (a : Addr) | ty (n : String)
  deriving DecidableEq

def RelV : V → Value → Prop
  | .non, u => u = Value.none
  | .bl b, u => u = Value.bool b
  | .int i, u => ∃ t, u = Value.int i t
  | .str x, u => ∃ t, u = Value.str x t
  | .byt b, u => ∃ t, u = Value.bytes b t
  | .flt b, u => ∃ t, u = Value.float b t
  | .ref a, u => u = Value.ref a
  | .ty n, u => u = Value.type n

abbrev Vals : List V → List Value → Prop := Paired RelV
theorem Vals.length {xs : List V} {us : List Value} (r : Vals xs us) : xs.length = us.length := Paired.length r
theorem Vals.get : ∀ {xs : List V} {us : List Value} {i : Nat} {x : V}, Vals xs us → xs[i]? = some x → ∃ u, us[i]? = some u ∧ RelV x u
  | _, _, _, _, .nil, e => by simp at e
  | _, _, 0, _, .cons r _, e => by simp at e; subst e; exact ⟨_, rfl, r⟩
  | _, _, i + 1, x, .cons _ t, e => by
    obtain ⟨u, h1, h2⟩ := Vals.get (i := i) (x := x) t (by simpa using e)
    exact ⟨u, by simpa using h1, h2⟩
theorem Vals.set {x : V} {u : Value} (r : RelV x u) : ∀ {xs : List V} {us : List Value} (i : Nat), Vals xs us → Vals (xs.set i x) (us.set i u)
  | _, _, _, .nil => .nil
  | _, _, 0, .cons _ t => .cons r t
  | _, _, i + 1, .cons q t => .cons q (Vals.set r i t)
theorem Vals.append : ∀ {xs ys : List V} {us ws : List Value}, Vals xs us → Vals ys ws → Vals (xs ++ ys) (us ++ ws)
  | _, _, _, _, .nil, s => s
  | _, _, _, _, .cons r t, s => .cons r (Vals.append t s)
theorem Vals.take : ∀ {xs : List V} {us : List Value} (n : Nat), Vals xs us → Vals (xs.take n) (us.take n)
  | _, _, 0, _ => .nil
  | _, _, _ + 1, .nil => .nil
  | _, _, n + 1, .cons r t => .cons r (Vals.take n t)
theorem Vals.drop : ∀ {xs : List V} {us : List Value} (n : Nat), Vals xs us → Vals (xs.drop n) (us.drop n)
  | _, _, 0, r => r
  | _, _, _ + 1, .nil => .nil
  | _, _, n + 1, .cons _ t => Vals.drop n t
theorem Vals.none_of : ∀ {xs : List V} {us : List Value} {i : Nat}, Vals xs us → xs[i]? = none → us[i]? = none := fun {xs us i} r e => by
  have h1 := r.length
  have h2 : xs.length ≤ i := List.getElem?_eq_none_iff.mp e
  exact List.getElem?_eq_none_iff.mpr (by omega)

def RelO : Option V → Option Value → Prop
  | some v, some u => RelV v u
  | none, none => True
  | _, _ => False
def KV {κ : Type} : List (κ × V) → List (κ × Value) → Prop := Paired fun (p : κ × V) (q : κ × Value) => p.1 = q.1 ∧ RelV p.2 q.2

/-- a key of a dict (00_mix): an int or a text -/
def kV : Key → V
  | .inl i => .int i
  | .inr x => .str x

/-- what stands at a tracked address -/
inductive HO where
  /-- a list -/
  | lst (xs : List V)
  /-- a tuple (never changes) -/
  | tup (xs : List V)
  /-- a dict whose keys are ints and texts; one whose keys are tuples of ints and texts (the empty one is both) -/
  | dK (kvs : List (Key × V)) | dT (kvs : List (List Key × V))
  /-- a set of ints: its members, its size -/
  | set (S : Int → Bool) (n : Nat)
  /-- an instance of the class at C, its dict at dx, its attributes -/
  | ins (C dx : Addr) (fs : List (Str × V))
  /-- the dict of the instance at x -/
  | own (x : Addr)
  /-- the dict of an exception -/
  | xd (fs : List (Str × V))
  /-- a bound method, f of x -/
  | met (f x : Addr)
  /-- a range object lo, lo + 1, .. below hi -/
  | rng (lo hi : Int)
  /-- a thing that is known to the object (the script; a dict while a loop walks it): read, never written while it is so -/
  | frz (o : Obj) (u : HO)
  /-- a code object's table -/
  | tbl (ps : Array Value)
  /-- any other thing, by what is true of its one object (a def of one's own: SetO a S n := HO.ext fun h => ..) -/
  | ext (φ : Heap → Prop)

abbrev Hp := Addr → Option HO
def upd (H : Hp) (a : Addr) (o : HO) : Hp := fun b => if b = a then some o else H b
theorem upd_same {H : Hp} {a : Addr} {o : HO} : upd H a o a = some o := by unfold upd; rw [if_pos rfl]
theorem upd_ne {H : Hp} {a b : Addr} {o : HO} (h : b ≠ a) : upd H a o b = H b := by unfold upd; rw [if_neg h]
theorem ne_of_none {H : Hp} {a b : Addr} {o : HO} (h : H a = some o) (h' : H b = none) : a ≠ b := by
  intro e; subst e; rw [h] at h'; cases h'

section
variable (P : Program) (w : World)
def ObjOk (H : Hp) (h : Heap) (a : Addr) : HO → Prop
  | .lst xs => xs.length ≤ sizeLine ∧ ∃ (its : List Value) (n : Nat), Vals xs its ∧ h.get? a = some { cls := .type "list", data := .seq its.toArray n }
  | .tup xs => xs.length ≤ sizeLine ∧ ∃ its : List Value, Vals xs its ∧ IsTup h a its.toArray
  | .dK kvs => kvs.length ≤ sizeLine ∧ (a == sysModules) = false ∧ ∃ vs, KV kvs vs ∧ h.DictOf (mixKind P w) a vs
  | .dT kvs => kvs.length ≤ sizeLine ∧ (a == sysModules) = false ∧ ∃ xs : List (List Key × Addr × Value),
      Paired (fun (p : List Key × V) (q : List Key × Addr × Value) => p.1 = q.1 ∧ H q.2.1 = some (.tup (p.1.map kV)) ∧ RelV p.2 q.2.2) kvs xs ∧
      ∃ o es ep, h.get? a = some o ∧ o.ExactDict ∧ o.data = .dict es ep ∧ es.toList = xs.map (entryOfKey (tupleKind (mixKind P w))) ∧ (xs.map (·.1)).Nodup
  | .set S n => h.SetOf (intKind P w) a S n
  | .ins C dx fs => H dx = some (.own a) ∧ fs.length ≤ 1000 ∧ dx ≠ a ∧ h.get? a = some (PySem.W.instObj C dx) ∧
      ∃ mA, h.Ns1 dx mA ∧ (∀ f, RelO (fs.lookup f) (mA f)) ∧ PySem.Within mA (fs.map (·.1))
  | .own _ => ∃ o, h.get? a = some o
  | .xd fs => ∃ mA, h.Ns1 a mA ∧ ∀ f, RelO (fs.lookup f) (mA f)
  | .rng lo hi => ∃ t u v, h.get? a = some { cls := .type "range", data := .fields #[.int lo t, .int hi u, .int 1 v] }
  | .frz o u => h.get? a = some o ∧ ObjOk H h a u
  | .tbl ps => h.get? a = some { cls := .none, data := .fields ps }
  | .met f x => h.get? a = some (PySem.W.methodObj (.ref f) (.ref x))
  | .ext φ => φ h ∧ (∃ o, h.get? a = some o) ∧ ∀ h1 h2 : Heap, φ h1 → (∀ o, h1.get? a = some o → h2.get? a = some o) → φ h2
/-- the abstract heap is held -/
def HOk (H : Hp) (h : Heap) : Prop := ∀ a o, H a = some o → ObjOk P w H h a o
end

section
variable {P : Program} {w : World} {H H' : Hp} {h h' : Heap} {a : Addr} {o : HO}
theorem ObjOk.lt (x : ObjOk P w H h a o) : a < h.objs.size := by
  cases o with
  | lst xs => obtain ⟨_, _, _, _, e⟩ := x; exact Heap.lt_size e
  | tup xs => obtain ⟨_, _, _, p⟩ := x; exact p.lt
  | dK kvs => obtain ⟨_, _, _, _, o, _, _, e, _⟩ := x; exact Heap.lt_size e
  | dT kvs => obtain ⟨_, _, _, _, o, _, _, e, _⟩ := x; exact Heap.lt_size e
  | set S n => obtain ⟨o, _, _, _, e, _⟩ := x; exact Heap.lt_size e
  | ins C dx fs => obtain ⟨_, _, _, e, _⟩ := x; exact Heap.lt_size e
  | own y => obtain ⟨_, e⟩ := x; exact Heap.lt_size e
  | xd fs => obtain ⟨_, ⟨_, _, _, e, _⟩, _⟩ := x; exact Heap.lt_size e
  | rng lo hi => obtain ⟨_, _, _, e⟩ := x; exact Heap.lt_size e
  | frz ob u => obtain ⟨e, _⟩ := x; exact Heap.lt_size e
  | tbl ps => exact Heap.lt_size (show h.get? a = some _ from x)
  | met f y => exact Heap.lt_size (show h.get? a = some _ from x)
  | ext φ => obtain ⟨_, ⟨_, e⟩, _⟩ := x; exact Heap.lt_size e
theorem Paired.mapP {α β : Type} {F G : α → β → Prop} : ∀ {l₁ : List α} {l₂ : List β}, Paired F l₁ l₂ → (∀ a b, F a b → G a b) → Paired G l₁ l₂
  | _, _, .nil, _ => .nil
  | _, _, .cons r t, f => .cons (f _ _ r) (Paired.mapP t f)
/-- what an object's description leans on: its own object, its own dict, the tuples -/
theorem ObjOk.stay (x : ObjOk P w H h a o) (k : ∀ b u, (b = a ∨ H b = some (.own a)) → h.get? b = some u → h'.get? b = some u)
    (ho : ∀ b, H b = some (.own a) → H' b = some (.own a)) (ht : ∀ b xs, H b = some (.tup xs) → H' b = some (.tup xs)) : ObjOk P w H' h' a o := by
  induction o with
  | lst xs => obtain ⟨z, its, n, r, e⟩ := x; exact ⟨z, its, n, r, k _ _ (.inl rfl) e⟩
  | tup xs => obtain ⟨z, its, r, ob, e, c⟩ := x; exact ⟨z, its, r, ob, k _ _ (.inl rfl) e, c⟩
  | dK kvs => obtain ⟨z, y, vs, r, ob, es, ep, e, c⟩ := x; exact ⟨z, y, vs, r, ob, es, ep, k _ _ (.inl rfl) e, c⟩
  | dT kvs =>
    obtain ⟨z, y, xs, r, ob, es, ep, e, c⟩ := x
    exact ⟨z, y, xs, Paired.mapP r fun p q z => ⟨z.1, ht _ _ z.2.1, z.2.2⟩, ob, es, ep, k _ _ (.inl rfl) e, c⟩
  | set S n => obtain ⟨ob, es, ep, t, e, c⟩ := x; exact ⟨ob, es, ep, t, k _ _ (.inl rfl) e, c⟩
  | ins C dx fs =>
    obtain ⟨d, z, ne, e, mA, ⟨od, es, ep, e2, c⟩, r⟩ := x
    exact ⟨ho _ d, z, ne, k _ _ (.inl rfl) e, mA, ⟨od, es, ep, k _ _ (.inr d) e2, c⟩, r⟩
  | own y => obtain ⟨ob, e⟩ := x; exact ⟨ob, k _ _ (.inl rfl) e⟩
  | xd fs => obtain ⟨mA, ⟨od, es, ep, e, c⟩, r⟩ := x; exact ⟨mA, ⟨od, es, ep, k _ _ (.inl rfl) e, c⟩, r⟩
  | rng lo hi => obtain ⟨t, u, v, e⟩ := x; exact ⟨t, u, v, k _ _ (.inl rfl) e⟩
  | frz ob u ih => obtain ⟨e, q⟩ := x; exact ⟨k _ _ (.inl rfl) e, ih q⟩
  | tbl ps =>
    have e : h.get? a = some { cls := .none, data := .fields ps } := x
    show h'.get? a = some { cls := .none, data := .fields ps }
    exact k a _ (.inl rfl) e
  | met f y =>
    have e : h.get? a = some (PySem.W.methodObj (.ref f) (.ref y)) := x
    show h'.get? a = some (PySem.W.methodObj (.ref f) (.ref y))
    exact k a _ (.inl rfl) e
  | ext φ => obtain ⟨p, ⟨o, e⟩, st⟩ := x; exact ⟨st _ _ p fun o q => k _ _ (.inl rfl) q, ⟨o, k _ _ (.inl rfl) e⟩, st⟩
theorem HOk.lt (x : HOk P w H h) (e : H a = some o) : a < h.objs.size := (x a o e).lt
theorem HOk.fresh (x : HOk P w H h) (e : h.objs.size ≤ a) : H a = none := by
  cases q : H a with
  | none => rfl
  | some u => exact absurd (Nat.lt_of_lt_of_le (x.lt q) e) (Nat.lt_irrefl _)
/-- every object of the heap is kept -/
theorem HOk.kept (x : HOk P w H h) (k : ∀ b u, h.get? b = some u → h'.get? b = some u) : HOk P w H h' := fun a o e =>
  (x a o e).stay (fun b u _ q => k b u q) (fun _ q => q) fun _ _ q => q
/-- a new object is laid and tracked -/
theorem HOk.laid (x : HOk P w H h) (k : ∀ b u, h.get? b = some u → h'.get? b = some u) (hp : h.objs.size ≤ a) (new : ObjOk P w (upd H a o) h' a o) : HOk P w (upd H a o) h' := fun b u e => by
  have hn := x.fresh hp
  by_cases hb : b = a
  · subst hb; rw [upd_same] at e; cases e; exact new
  · rw [upd_ne hb] at e
    exact (x b u e).stay (fun c v _ q => k c v q) (fun c q => by rw [upd_ne (ne_of_none q hn)]; exact q) fun c xs q => by rw [upd_ne (ne_of_none q hn)]; exact q
end

/-- what may be read as u: it is u, or a known u -/
def Rd (H : Hp) (a : Addr) (u : HO) : Prop := H a = some u ∨ ∃ o, H a = some (.frz o u)
theorem Rd.of {H : Hp} {a : Addr} {u : HO} (h : H a = some u) : Rd H a u := .inl h
theorem Rd.ok {P : Program} {w : World} {H : Hp} {h : Heap} {a : Addr} {u : HO} (r : Rd H a u) (x : HOk P w H h) : ObjOk P w H h a u := by
  rcases r with r | ⟨o, r⟩
  · exact x a u r
  · obtain ⟨_, q⟩ := x a _ r
    exact q
/-- what may be written -/
def Mut : Option HO → Prop
  | some (.lst _) => True
  | some (.dK _) => True
  | some (.dT _) => True
  | some (.set _ _) => True
  | some (.ins _ _ _) => True
  | some (.ext _) => True
  | _ => False
section
variable {P : Program} {w : World} {H : Hp} {h h' : Heap} {x e : Addr} {o' : HO}
/-- the object at e is changed: x itself, or the dict of the instance x -/
theorem HOk.write (ok : HOk P w H h) (mu : Mut (H x)) (he : e = x ∨ H e = some (.own x)) (k : ∀ b u, b ≠ e → h.get? b = some u → h'.get? b = some u) (heo : ∃ u, h'.get? e = some u)
    (new : ObjOk P w (upd H x o') h' x o') : HOk P w (upd H x o') h' := fun b u q => by
  have nown : ∀ c y, H c = some (.own y) → c ≠ x := fun c y r z => by subst z; rw [r] at mu; exact mu
  have ntup : ∀ c xs, H c = some (.tup xs) → c ≠ x := fun c xs r z => by subst z; rw [r] at mu; exact mu
  by_cases hb : b = x
  · subst hb; rw [upd_same] at q; cases q; exact new
  · rw [upd_ne hb] at q
    by_cases hbe : b = e
    · have q' : H b = some (.own x) := by
        rcases he with z | z
        · exact absurd (hbe.trans z) hb
        · rw [hbe]; exact z
      rw [q] at q'; cases q'
      obtain ⟨v, hv⟩ := heo
      exact ⟨v, by rw [hbe]; exact hv⟩
    · refine (ok b u q).stay (fun c v hc r => k c v ?_ r) (fun c r => by rw [upd_ne (nown c b r)]; exact r) fun c xs r => by rw [upd_ne (ntup c xs r)]; exact r
      rcases hc with rfl | hc
      · exact hbe
      · rintro rfl
        rcases he with z | z
        · exact nown c b hc z
        · rw [hc] at z; cases z; exact hb rfl
end

/-! ### kept unless tracked; of the frames at fs (the callers') the slots may change (an exception that passes writes there); of the records at ex (iterators) nothing is said -/
structure Un (fs ex : List Addr) (H H' : Hp) (h h' : Heap) : Prop where
  keep : ∀ b o, h.get? b = some o → H b = none → b ∉ fs → b ∉ ex → h'.get? b = some o
  slot : ∀ b o, h.get? b = some o → H b = none → b ∈ fs → b ∉ ex → ∃ sl, h'.get? b = some { o with slots := sl }
  free : ∀ b o, h.get? b = some o → H b = none → b ∉ ex → H' b = none
  there : ∀ b o, h.get? b = some o → b ∉ ex → ∃ o', h'.get? b = some o'
  tups : ∀ b xs, H b = some (.tup xs) → H' b = some (.tup xs)
  frzs : ∀ b o u, H b = some (.frz o u) → H' b = some (.frz o u)
  tbls : ∀ b ps, H b = some (.tbl ps) → ∃ more, H' b = some (.tbl (ps ++ more))
section
variable {fs fs' ex ex' : List Addr} {H H1 H2 : Hp} {h h1 h2 h' : Heap} {a x e : Addr} {o : HO}
theorem Un.any (u : Un fs ex H H1 h h1) {b : Addr} {ob : Obj} (q : h.get? b = some ob) (n : H b = none) (hx : b ∉ ex) : ∃ sl, h1.get? b = some { ob with slots := sl } := by
  by_cases hb : b ∈ fs
  · exact u.slot b ob q n hb hx
  · exact ⟨ob.slots, u.keep b ob q n hb hx⟩
theorem Un.trans (a : Un fs ex H H1 h h1) (b : Un fs ex H1 H2 h1 h2) : Un fs ex H H2 h h2 where
  keep := fun c ob q n hc hx => b.keep c ob (a.keep c ob q n hc hx) (a.free c ob q n hx) hc hx
  slot := fun c ob q n hc hx => by
    obtain ⟨sl, e1⟩ := a.slot c ob q n hc hx
    obtain ⟨sl', e2⟩ := b.slot c _ e1 (a.free c ob q n hx) hc hx
    exact ⟨sl', e2⟩
  free := fun c ob q n hx => by
    obtain ⟨o', e1⟩ := a.there c ob q hx
    exact b.free c o' e1 (a.free c ob q n hx) hx
  there := fun c ob q hx => by
    obtain ⟨o', e1⟩ := a.there c ob q hx
    exact b.there c o' e1 hx
  tups := fun c xs q => b.tups c xs (a.tups c xs q)
  frzs := fun c ob xs q => b.frzs c ob xs (a.frzs c ob xs q)
  tbls := fun c ps q => by
    obtain ⟨m1, e1⟩ := a.tbls c ps q
    obtain ⟨m2, e2⟩ := b.tbls c _ e1
    exact ⟨m1 ++ m2, by rw [e2, Array.append_assoc]⟩
theorem Un.kept (k : ∀ b u, h.get? b = some u → h'.get? b = some u) : Un fs ex H H h h' :=
  ⟨fun b ob q _ _ _ => k b ob q, fun b ob q _ _ _ => ⟨ob.slots, k b ob q⟩, fun _ _ _ n _ => n, fun b ob q _ => ⟨ob, k b ob q⟩, fun _ _ q => q, fun _ _ _ q => q, fun _ ps q => ⟨#[], by rw [q]; simp⟩⟩
theorem Un.refl : Un fs ex H H h h := Un.kept fun _ _ q => q
theorem Un.laid (k : ∀ b u, h.get? b = some u → h'.get? b = some u) (hp : h.objs.size ≤ a) (hn : H a = none) : Un fs ex H (upd H a o) h h' where
  keep := fun b u q _ _ _ => k b u q
  slot := fun b u q _ _ _ => ⟨u.slots, k b u q⟩
  free := fun b u q n _ => by rw [upd_ne (Nat.ne_of_lt (Nat.lt_of_lt_of_le (Heap.lt_size q) hp))]; exact n
  there := fun b u q _ => ⟨u, k b u q⟩
  tups := fun b xs q => by rw [upd_ne (ne_of_none q hn)]; exact q
  frzs := fun b u xs q => by rw [upd_ne (ne_of_none q hn)]; exact q
  tbls := fun b ps q => ⟨#[], by rw [upd_ne (ne_of_none q hn), q]; simp⟩
theorem Un.write (mu : Mut (H x)) (he : e = x ∨ H e = some (.own x)) (k : ∀ b u, b ≠ e → h.get? b = some u → h'.get? b = some u) (heo : ∃ u, h'.get? e = some u) : Un fs ex H (upd H x o) h h' := by
  have hx : ∀ b, H b = none → b ≠ x := fun b n z => by subst z; rw [n] at mu; exact mu
  have hb : ∀ b, H b = none → b ≠ e := fun b n z => by
    subst z
    rcases he with r | r
    · exact hx b n r
    · rw [n] at r; cases r
  have hm : ∀ b u, H b = some u → ¬ Mut (some u) → b ≠ x := fun b u q nm z => by subst z; rw [q] at mu; exact nm mu
  refine ⟨fun b u q n _ _ => k b u (hb b n) q, fun b u q n _ _ => ⟨u.slots, k b u (hb b n) q⟩, fun b u q n _ => by rw [upd_ne (hx b n)]; exact n, fun b u q _ => ?_,
    fun b xs q => by rw [upd_ne (hm b _ q fun z => z)]; exact q, fun b u xs q => by rw [upd_ne (hm b _ q fun z => z)]; exact q, fun b ps q => ⟨#[], by rw [upd_ne (hm b _ q fun z => z), q]; simp⟩⟩
  by_cases hbe : b = e
  · subst hbe; exact heo
  · exact ⟨u, k b u hbe q⟩
theorem Un.mono (u : Un fs ex H H1 h h1) (hs : ∀ b ∈ fs, b ∈ fs') (hx : ∀ b ∈ ex, b ∈ ex') : Un fs' ex' H H1 h h1 :=
  ⟨fun b ob q n hb he => u.keep b ob q n (fun z => hb (hs b z)) fun z => he (hx b z), fun _ _ q n _ he => u.any q n fun z => he (hx _ z), fun b ob q n he => u.free b ob q n fun z => he (hx b z), fun b ob q he => u.there b ob q fun z => he (hx b z), u.tups, u.frzs, u.tbls⟩
end

/-! ### the heap without what is tracked -/
def trk (h : Heap) (H : Hp) : List Addr := (List.range h.objs.size).filter fun a => (H a).isSome
def hidT (h : Heap) (H : Hp) : Heap := PySem.W.hideAll h (trk h H)
theorem hidT_size (h : Heap) (H : Hp) : (hidT h H).objs.size = h.objs.size := PySem.W.hideAll_size _ _
theorem hidT_get {h : Heap} {H : Hp} {b : Addr} {o : Obj} (e : h.get? b = some o) (n : H b = none) : (hidT h H).get? b = some o :=
  PySem.W.hideAll_get _ e fun hm => by
    have q : (H b).isSome = true := (List.mem_filter.mp hm).2
    rw [n] at q; simp at q
theorem of_hidT {h : Heap} {H : Hp} {b : Addr} {o : Obj} (e : (hidT h H).get? b = some o) : h.get? b = some o ∧ H b = none := by
  have e' : h.get? b = some o := PySem.W.of_hideAll (trk h H) e
  refine ⟨e', ?_⟩
  cases q : H b with
  | none => rfl
  | some x =>
    have hm : b ∈ trk h H := List.mem_filter.mpr ⟨List.mem_range.mpr (Heap.lt_size e'), by simp [q]⟩
    have z : (hidT h H).get? b = none := PySem.W.hideAll_none (trk h H) hm
    rw [z] at e; cases e

/-! ### OpenK's ledger, filled with every new object but one -/
def allNews (g h : Heap) (L : Addr) : List (Addr × Obj) := (List.range h.objs.size).filterMap fun a => if a = L ∨ (g.get? a).isSome = true then none else (h.get? a).map fun o => (a, o)
def rest (g h : Heap) (L d : Addr) : List (Addr × Obj) := (allNews g h L).filter fun p => decide (p.1 ≠ d)
end L2

namespace L2
open PySem PySem.Spec PyProof.Rows

/-- the module's facts, over the base: the heap at the law's entry without what is tracked there -/
structure Mod (K : PySem.W.Frag) (mg : Str → Option Value) (base : Heap) : Prop where
  kin : K.In base
  glob : base.Ns mainGlobals mg
  blt : ∃ mb, base.Ns builtinsNs mb ∧ ∀ x : Str, x ≠ "__name__" → mb x = bootBuiltins x
  nolimit : base.NoLimit

/-- the context: a def's body (or a comprehension's block) running. base: fixed through the whole law; s₀, H₀: the entry; outer: the frames whose slots others may change (a def's callers); stack: all frames that run;
   ex: iterators that were made ahead of the entry and are walked here (a comprehension's); fn: the names whose cells were made at the entry (a def: all; a comprehension's block: its own); calm: not within an except suite; pn: pins that every state bears; xe: what is wanted of an exception that leaves the code -/
structure Cx where
  prog : Program
  w : World
  K : PySem.W.Frag
  mg : Str → Option Value
  base : Heap
  A : Around
  N : List Str
  s_0 : Shared
  H_0 : Hp
  env : Env
  outer : List Env
  stack : List Env
  ex : List Addr
  fn : Str → Bool
  calm : Bool
  pn : List (Addr × Obj)
  xe : Value → Shared → Prop
/-- the callers' frames -/
def frs (l : List Env) : List Addr := l.filterMap (·.frame)
abbrev Cx.fs (X : Cx) : List Addr := frs X.outer

def Vis (sc : Scope) (x : Str) : Prop := sc.names.lookup x = some .local ∨ sc.names.lookup x = some .cell ∨ sc.names.lookup x = some .free
def Loc (sc : Scope) (x : Str) : Prop := sc.names.lookup x = some .local ∨ sc.names.lookup x = some .cell
def Look (env : Env) (h : Heap) (m : Str → Option Value) (x : Str) (u : Value) : Prop :=
  (env.kindOf x = some .local ∧ m x = some u) ∨ ((env.kindOf x = some .cell ∨ env.kindOf x = some .free) ∧ ∃ c, env.cells.lookup x = some c ∧ h.IsCell c (some u))

structure Cx.Ok (X : Cx) : Prop where
  mod : Mod X.K X.mg X.base
  kind : X.env.scope.kind = .function
  glob : X.env.globals = mainGlobals
  blt : X.env.builtins = builtinsNs
  above : X.s_0.heap.objs.size ≤ X.env.locals
  inj : ∀ x y c, X.env.cells.lookup x = some c → X.env.cells.lookup y = some c → x = y
  has : ∀ x, (X.env.kindOf x = some .cell ∨ X.env.kindOf x = some .free) → ∃ c, X.env.cells.lookup x = some c
  cab : ∀ x c, X.fn x = true → X.env.cells.lookup x = some c → X.s_0.heap.objs.size ≤ c
  hd : X.calm = true → X.A.handled = none
  frames : X.A.frames = some X.stack
  stk : X.stack = X.outer ∨ (X.stack = X.env :: X.outer ∧ X.env.frame = some X.env.locals)
  exf : ∀ b ∈ X.ex, b ≠ X.env.locals ∧ ∀ x c, X.env.cells.lookup x = some c → c ≠ b
  bs : ∀ b o, X.base.get? b = some o → X.s_0.heap.get? b = some o ∧ X.H_0 b = none
  bsz : X.base.objs.size ≤ X.s_0.heap.objs.size
  noex : ∀ b o, X.base.get? b = some o → b ∉ X.ex
  exfs : ∀ b ∈ X.ex, b ∉ X.fs
  funs : X.s_0.heap.FunFrames X.base X.outer
  frf : ∀ b ∈ X.fs, X.H_0 b = none

structure Inv (X : Cx) (pins : List (Addr × Obj)) (σ : List (Option V)) (H : Hp) (s : Shared) : Prop where
  ok : X.Ok
  os : s.os = X.s_0.os
  bare : AllBare s.gens
  base : Un X.fs X.ex X.H_0 H X.s_0.heap s.heap
  loc : ∃ m, s.heap.Ns X.env.locals m ∧ ∀ (i : Nat) (x : Str) (v : V), X.N[i]? = some x → σ[i]? = some (some v) → Vis X.env.scope x → ∃ u, RelV v u ∧ Look X.env s.heap m x u
  cell : ∀ x c, X.env.cells.lookup x = some c → ∃ v, s.heap.IsCell c v
  free : H X.env.locals = none
  freeC : ∀ x c, X.env.cells.lookup x = some c → H c = none
  pin : ∀ p ∈ X.pn ++ pins, s.heap.get? p.1 = some p.2 ∧ H p.1 = none ∧ p.1 ≠ X.env.locals ∧ p.1 ∉ X.fs ∧ ∀ v, p.2.data ≠ .cell v
  hok : HOk X.prog X.w H s.heap
  len : σ.length = X.N.length

section
variable {X : Cx} {pins : List (Addr × Obj)} {σ : List (Option V)} {H H' : Hp} {s : Shared} {h' : Heap}

theorem Cx.Ok.nofr (ok : X.Ok) {b : Addr} {o : Obj} (e : X.base.get? b = some o) : b ∉ X.fs := fun hb => by
  have := (ok.funs.mem hb).1
  rw [e] at this; cases this
theorem Inv.bs (I : Inv X pins σ H s) : ∀ b o, X.base.get? b = some o → s.heap.get? b = some o ∧ H b = none := fun b o e =>
  ⟨I.base.keep b o (I.ok.bs b o e).1 (I.ok.bs b o e).2 (I.ok.nofr e) (I.ok.noex b o e), I.base.free b o (I.ok.bs b o e).1 (I.ok.bs b o e).2 (I.ok.noex b o e)⟩
theorem Inv.bk (I : Inv X pins σ H s) : ∀ b o, X.base.get? b = some o → s.heap.get? b = some o := fun b o e => (I.bs b o e).1
theorem Inv.mod (I : Inv X pins σ H s) : Mod X.K X.mg X.base := I.ok.mod
theorem Inv.kIn (I : Inv X pins σ H s) : X.K.In s.heap := I.ok.mod.kin.keeps I.bk
theorem Inv.nolimit (I : Inv X pins σ H s) : s.heap.NoLimit := I.ok.mod.nolimit.keeps I.bk
/-- the frame over the base: for OpenK's rules (K.In X.base is I.mod.kin) -/
theorem Inv.fr (I : Inv X pins σ H s) : ∃ m, Fr X.base X.env.locals s.heap m :=
  let ⟨m, hn, _⟩ := I.loc
  ⟨m, hn, I.bk, Nat.le_trans I.ok.bsz I.ok.above⟩
theorem Inv.lt (I : Inv X pins σ H s) : X.env.locals < s.heap.objs.size := let ⟨_, hn, _⟩ := I.loc; hn.lt
theorem Inv.sz (I : Inv X pins σ H s) : X.s_0.heap.objs.size ≤ s.heap.objs.size := Nat.le_trans I.ok.above (Nat.le_of_lt I.lt)
theorem Inv.nofs (I : Inv X pins σ H s) {a : Addr} (h : s.heap.objs.size ≤ a) : a ∉ X.fs := fun hb => by
  obtain ⟨_, o, ho, _⟩ := I.ok.funs.mem hb
  exact absurd (Nat.lt_of_lt_of_le (Heap.lt_size ho) (Nat.le_trans I.sz h)) (Nat.lt_irrefl _)
theorem Inv.cne (I : Inv X pins σ H s) : ∀ x c, X.env.cells.lookup x = some c → c ≠ X.env.locals := fun x c e z => by
  obtain ⟨v, o, ho, hd⟩ := I.cell x c e
  obtain ⟨m, ⟨o', es, ep, ho', hd', _⟩, _⟩ := I.loc
  rw [z, ho'] at ho; cases ho; rw [hd'] at hd; cases hd
theorem Inv.funs (I : Inv X pins σ H s) : s.heap.FunFrames X.base X.outer := by
  have all : ∀ (l : List Env), (∀ b ∈ frs l, b ∈ X.fs) → X.s_0.heap.FunFrames X.base l → s.heap.FunFrames X.base l := by
    intro l
    induction l with
    | nil => intro _ _; trivial
    | cons env r ih =>
      intro hs hl
      obtain ⟨hk, ⟨L, o, hf, hn, ho, hd⟩, hr⟩ := hl
      have hL : L ∈ X.fs := hs L (by unfold frs; rw [List.filterMap_cons, hf]; exact List.mem_cons_self)
      obtain ⟨sl, e⟩ := I.base.slot L o ho (I.ok.frf L hL) hL fun z => I.ok.exfs L z hL
      exact ⟨hk, ⟨L, _, hf, hn, e, hd⟩, ih (fun b hb => hs b (by unfold frs; rw [List.filterMap_cons, hf]; exact List.mem_cons_of_mem _ hb)) hr⟩
  exact all X.outer (fun _ hb => hb) I.ok.funs

/-- the frames that run, for a call -/
theorem Inv.stack (I : Inv X pins σ H s) : s.heap.FunFrames X.base X.stack := by
  rcases I.ok.stk with e | ⟨e, hf⟩
  · rw [e]; exact I.funs
  · rw [e]
    obtain ⟨m, hn, _⟩ := I.loc
    refine .cons (by rw [I.ok.kind]; decide) hf hn ?_ I.funs
    exact Heap.get?_none_of_le (Nat.le_trans I.ok.bsz I.ok.above)
theorem Inv.stkSub (I : Inv X pins σ H s) : ∀ b ∈ frs X.stack, b ∈ X.env.locals :: X.fs := fun b hb => by
  rcases I.ok.stk with e | ⟨e, hf⟩
  · rw [e] at hb; exact List.mem_cons_of_mem _ hb
  · rw [e] at hb
    unfold frs at hb
    rw [List.filterMap_cons, hf] at hb
    exact hb
theorem Inv.stkFree (I : Inv X pins σ H s) : ∀ b ∈ frs X.stack, H b = none := fun b hb => by
  rcases List.mem_cons.mp (I.stkSub b hb) with e | hb
  · rw [e]; exact I.free
  · obtain ⟨_, o, ho, _⟩ := I.ok.funs.mem hb
    exact I.base.free b o ho (I.ok.frf b hb) fun z => I.ok.exfs b z hb

/-- THE STEP: the untracked objects but the frame and the records at ch are kept (the callers' frames up to slots), the frame's map is kept, the new abstract heap is held -/
theorem Inv.step {g' : Array GenState} {t' : Nat} {d' : Drawn} {ch : List Addr} (I : Inv X pins σ H s)
    (hch : ∀ b ∈ ch, (b ∈ X.ex ∨ X.s_0.heap.objs.size ≤ b) ∧ b ≠ X.env.locals ∧ (∀ x c, X.env.cells.lookup x = some c → c ≠ b) ∧ ∀ p ∈ X.pn ++ pins, p.1 ≠ b)
    (keep : ∀ b o, b ≠ X.env.locals → b ∉ X.fs → b ∉ ch → s.heap.get? b = some o → H b = none → h'.get? b = some o)
    (slot : ∀ b o, b ≠ X.env.locals → b ∈ X.fs → b ∉ ch → s.heap.get? b = some o → H b = none → ∃ sl, h'.get? b = some { o with slots := sl }) (free : ∀ b o, b ∉ ch → s.heap.get? b = some o → H b = none → H' b = none)
    (there : ∀ b o, b ∉ ch → s.heap.get? b = some o → ∃ o', h'.get? b = some o')
    (tups : ∀ b xs, H b = some (.tup xs) → H' b = some (.tup xs)) (frzs : ∀ b o u, H b = some (.frz o u) → H' b = some (.frz o u)) (tbls : ∀ b ps, H b = some (.tbl ps) → ∃ more, H' b = some (.tbl (ps ++ more)))
    (ns : ∀ m, s.heap.Ns X.env.locals m → h'.Ns X.env.locals m) (hok : HOk X.prog X.w H' h') (hg : AllBare g') :
    Inv X pins σ H' { s with heap := h', gens := g', drawn := d', toks := t' } := by
  have neL : ∀ b o, X.s_0.heap.get? b = some o → b ≠ X.env.locals := fun b o e => Nat.ne_of_lt (Nat.lt_of_lt_of_le (Heap.lt_size e) I.ok.above)
  have neC : ∀ b o, X.s_0.heap.get? b = some o → b ∉ X.ex → b ∉ ch := fun b o e hx hb => by
    rcases (hch b hb).1 with z | z
    · exact hx z
    · exact absurd (Nat.lt_of_lt_of_le (Heap.lt_size e) z) (Nat.lt_irrefl _)
  have cellK : ∀ x c, X.env.cells.lookup x = some c → ∀ v, s.heap.IsCell c v → h'.IsCell c v := fun x c e v ⟨o, ho, hd⟩ => by
    have nch : c ∉ ch := fun z => (hch c z).2.2.1 x c e rfl
    by_cases hc : c ∈ X.fs
    · obtain ⟨sl, q⟩ := slot c o (I.cne x c e) hc nch ho (I.freeC x c e)
      exact ⟨_, q, hd⟩
    · exact ⟨o, keep c o (I.cne x c e) hc nch ho (I.freeC x c e), hd⟩
  refine ⟨I.ok, I.os, hg, ⟨fun b o e n hb hx => ?_, fun b o e n hb hx => ?_, fun b o e n hx => ?_, fun b o e hx => ?_, fun b xs e => tups b xs (I.base.tups b xs e), fun b o xs e => frzs b o xs (I.base.frzs b o xs e), fun b ps e => ?_⟩, ?_, fun x c e => ?_, ?_, fun x c e => ?_, fun p hp => ?_, hok, I.len⟩
  · exact keep b o (neL b o e) hb (neC b o e hx) (I.base.keep b o e n hb hx) (I.base.free b o e n hx)
  · obtain ⟨sl, e1⟩ := I.base.slot b o e n hb hx
    obtain ⟨sl', e2⟩ := slot b _ (neL b o e) hb (neC b o e hx) e1 (I.base.free b o e n hx)
    exact ⟨sl', e2⟩
  · obtain ⟨o', e1⟩ := I.base.there b o e hx
    exact free b o' (neC b o e hx) e1 (I.base.free b o e n hx)
  · obtain ⟨o', e1⟩ := I.base.there b o e hx
    exact there b o' (neC b o e hx) e1
  · obtain ⟨m1, e1⟩ := I.base.tbls b ps e
    obtain ⟨m2, e2⟩ := tbls b _ e1
    exact ⟨m1 ++ m2, by rw [e2, Array.append_assoc]⟩
  · obtain ⟨m, hn, hl⟩ := I.loc
    refine ⟨m, ns m hn, fun i x v e1 e2 e3 => ?_⟩
    obtain ⟨u, r, l⟩ := hl i x v e1 e2 e3
    refine ⟨u, r, ?_⟩
    rcases l with l | ⟨k, c, e, z⟩
    · exact .inl l
    · exact .inr ⟨k, c, e, cellK x c e _ z⟩
  · obtain ⟨v, z⟩ := I.cell x c e
    exact ⟨v, cellK x c e v z⟩
  · obtain ⟨m, ⟨o, _, _, ho, _⟩, _⟩ := I.loc
    exact free _ o (fun z => (hch _ z).2.1 rfl) ho I.free
  · obtain ⟨v, o, ho, hd⟩ := I.cell x c e
    exact free c o (fun z => (hch c z).2.2.1 x c e rfl) ho (I.freeC x c e)
  · obtain ⟨e, n, ne, nf, d⟩ := I.pin p hp
    have nch : p.1 ∉ ch := fun z => (hch p.1 z).2.2.2 p hp rfl
    exact ⟨keep p.1 p.2 ne nf nch e n, free p.1 p.2 nch e n, ne, nf, d⟩
/-- .. where the frame's own object is kept too -/
theorem Inv.un {t' : Nat} (I : Inv X pins σ H s) (u : Un X.fs [] H H' s.heap h') (hok : HOk X.prog X.w H' h') : Inv X pins σ H' { s with heap := h', toks := t' } := by
  obtain ⟨m, ⟨o, es, ep, ho, r⟩, _⟩ := id I.loc
  obtain ⟨sl, hL⟩ := u.any ho I.free (by simp)
  exact I.step (g' := s.gens) (d' := s.drawn) (ch := []) (fun _ z => nomatch z) (fun b o _ hb _ e n => u.keep b o e n hb (by simp)) (fun b o _ hb _ e n => u.slot b o e n hb (by simp)) (fun b o _ e n => u.free b o e n (by simp)) (fun b o _ e => u.there b o e (by simp)) u.tups u.frzs u.tbls (fun m' hm => by
    obtain ⟨o', es', ep', ho', r'⟩ := hm
    rw [ho] at ho'; cases ho'
    exact ⟨_, es', ep', hL, r'⟩) hok I.bare
/-- behind a call (or a comprehension's block): the slots of this frame may have changed too, the records at ch may have turned -/
theorem Inv.call {g' : Array GenState} {t' : Nat} {d' : Drawn} {ch : List Addr} (I : Inv X pins σ H s) (u : Un (frs X.stack) ch H H' s.heap h') (hok : HOk X.prog X.w H' h') (hg : AllBare g')
    (hch : ∀ b ∈ ch, (b ∈ X.ex ∨ X.s_0.heap.objs.size ≤ b) ∧ b ≠ X.env.locals ∧ (∀ x c, X.env.cells.lookup x = some c → c ≠ b) ∧ ∀ p ∈ X.pn ++ pins, p.1 ≠ b) :
    Inv X pins σ H' { s with heap := h', gens := g', drawn := d', toks := t' } := by
  obtain ⟨m, ⟨o, es, ep, ho, r⟩, _⟩ := id I.loc
  obtain ⟨sl, hL⟩ := u.any ho I.free fun z => (hch _ z).2.1 rfl
  exact I.step (ch := ch) hch (fun b o hL hb hc e n => u.keep b o e n (fun z => (List.mem_cons.mp (I.stkSub b z)).elim hL hb) hc) (fun b o _ _ hc e n => u.any e n hc) (fun b o hc e n => u.free b o e n hc) (fun b o hc e => u.there b o e hc) u.tups u.frzs u.tbls (fun m' hm => by
    obtain ⟨o', es', ep', ho', r'⟩ := hm
    rw [ho] at ho'; cases ho'
    exact ⟨_, es', ep', hL, r'⟩) hok hg
/-- an untracked record of ours (an iterator) has turned -/
theorem Inv.turned {t' : Nat} {it : Addr} (I : Inv X pins σ H s) (k : ∀ b o, b ≠ it → s.heap.get? b = some o → h'.get? b = some o) (hn : H it = none) (hL : it ≠ X.env.locals)
    (h1 : it ∈ X.ex ∨ X.s_0.heap.objs.size ≤ it) (h2 : ∀ x c, X.env.cells.lookup x = some c → c ≠ it) (h3 : ∀ p ∈ X.pn ++ pins, p.1 ≠ it) : Inv X pins σ H { s with heap := h', toks := t' } := by
  have nit : ∀ b u, H b = some u → b ≠ it := fun b u e z => by rw [z, hn] at e; cases e
  refine I.step (g' := s.gens) (d' := s.drawn) (ch := [it]) (fun b hb => ?_) (fun b o _ _ hc e _ => k b o (fun z => hc (by simp [z])) e) (fun b o _ _ hc e _ => ⟨o.slots, k b o (fun z => hc (by simp [z])) e⟩) (fun _ _ _ _ n => n)
    (fun b o hc e => ⟨o, k b o (fun z => hc (by simp [z])) e⟩) (fun _ _ e => e) (fun _ _ _ e => e) (fun b ps e => ⟨#[], by rw [e]; simp⟩) (fun m hm => ?_) (fun b u e => ?_) I.bare
  · have e : b = it := by simpa using hb
    subst e
    exact ⟨h1, hL, h2, h3⟩
  · obtain ⟨o, es, ep, ho, r⟩ := hm
    exact ⟨o, es, ep, k _ o (Ne.symm hL) ho, r⟩
  · refine (I.hok b u e).stay (fun c v hc q => k c v ?_ q) (fun _ q => q) fun _ _ q => q
    rcases hc with z | z
    · rw [z]; exact nit b u e
    · exact nit c _ z
theorem Inv.tok (I : Inv X pins σ H s) (t : Nat) : Inv X pins σ H { s with toks := t } := I.un (h' := s.heap) (t' := t) Un.refl I.hok
/-- all objects kept -/
theorem Inv.kept {t' : Nat} (I : Inv X pins σ H s) (k : ∀ b u, s.heap.get? b = some u → h'.get? b = some u) : Inv X pins σ H { s with heap := h', toks := t' } := I.un (Un.kept k) (I.hok.kept k)
/-- a new object laid and tracked -/
theorem Inv.laid {a : Addr} {o : HO} {t' : Nat} (I : Inv X pins σ H s) (k : ∀ b u, s.heap.get? b = some u → h'.get? b = some u) (hp : s.heap.objs.size ≤ a) (new : ObjOk X.prog X.w (upd H a o) h' a o) :
    Inv X pins σ (upd H a o) { s with heap := h', toks := t' } := I.un (Un.laid k hp (I.hok.fresh hp)) (I.hok.laid k hp new)
/-- an object written -/
theorem Inv.write {x e : Addr} {o : HO} {t' : Nat} (I : Inv X pins σ H s) (mu : Mut (H x)) (he : e = x ∨ H e = some (.own x)) (k : ∀ b u, b ≠ e → s.heap.get? b = some u → h'.get? b = some u) (heo : ∃ u, h'.get? e = some u)
    (new : ObjOk X.prog X.w (upd H x o) h' x o) : Inv X pins σ (upd H x o) { s with heap := h', toks := t' } := I.un (Un.write mu he k heo) (I.hok.write mu he k heo new)
/-- forgetting slots, pins -/
theorem Inv.weak {σ' : List (Option V)} (I : Inv X pins σ H s) (hl : σ'.length = σ.length) (w : ∀ (i : Nat) v, σ'[i]? = some (some v) → σ[i]? = some (some v)) : Inv X pins σ' H s :=
  ⟨I.ok, I.os, I.bare, I.base, let ⟨m, hn, hl'⟩ := I.loc; ⟨m, hn, fun i x v e1 e2 e3 => hl' i x v e1 (w i v e2) e3⟩, I.cell, I.free, I.freeC, I.pin, I.hok, hl.trans I.len⟩
theorem Inv.pins_of {pins' : List (Addr × Obj)} (I : Inv X pins σ H s) (h : ∀ p ∈ pins', s.heap.get? p.1 = some p.2 ∧ H p.1 = none ∧ p.1 ≠ X.env.locals ∧ p.1 ∉ X.fs ∧ ∀ v, p.2.data ≠ .cell v) : Inv X pins' σ H s :=
  ⟨I.ok, I.os, I.bare, I.base, I.loc, I.cell, I.free, I.freeC, fun p hp => (List.mem_append.mp hp).elim (fun z => I.pin p (List.mem_append_left _ z)) (h p), I.hok, I.len⟩

theorem nodup_ix {N : List Str} (hN : N.Nodup) {i j : Nat} {x : Str} (a : N[i]? = some x) (b : N[j]? = some x) : i = j := by
  obtain ⟨h1, e1⟩ := List.getElem?_eq_some_iff.mp a
  obtain ⟨h2, e2⟩ := List.getElem?_eq_some_iff.mp b
  exact (List.getElem_inj hN).mp (e1.trans e2.symm)

/-- a name is stored; what changed -/
theorem store_ok2 {M : Model} {A : Around} {E : Value → Shared → Prop} {i : Nat} {x : Str} {v : V} {u : Value} {Q : Unit → Shared → Prop} (I : Inv X pins σ H s) (hN : X.N.Nodup) (hi : X.N[i]? = some x) (hx : Loc X.env.scope x) (r : RelV v u)
    (h : ∀ s', Inv X pins (σ.set i (some v)) H s' → (∃ a, Heap.SameBut a s.heap s'.heap ∧ (a = X.env.locals ∨ X.env.cells.lookup x = some a)) → Q () s') (hf : X.fn x = true ∨ X.env.scope.names.lookup x = some .local := by first | exact .inl rfl | exact .inr rfl | assumption) : wpAny M A (storeName X.env x u) Q E s := by
  obtain ⟨m, hn, hl⟩ := id I.loc
  have hcls : (X.env.scope.kind == .class || (X.env.scope.kind == .module && X.env.locals != X.env.globals)) = false := by rw [I.ok.kind]; rfl
  have hiσ : i < σ.length := by rw [I.len]; exact (List.getElem?_eq_some_iff.mp hi).1
  have cne := I.cne
  have tracked : ∀ {a : Addr} {h' : Heap}, (∃ o, s.heap.get? a = some o ∧ H a = none) → Heap.SameBut a s.heap h' → HOk X.prog X.w H h' := fun {a h'} ha hs b ob e => by
    obtain ⟨_, _, hfree⟩ := ha
    refine (I.hok b ob e).stay (fun c w' hc q => (hs.2 c ?_).trans q) (fun _ q => q) fun _ _ q => q
    rintro rfl
    rcases hc with rfl | hc
    · rw [hfree] at e; cases e
    · rw [hfree] at hc; cases hc
  rcases hx with hk | hk
  · refine wpAny_storeName_local hk hn (fun h' hn' hs => ?_) hcls
    obtain ⟨oL, _, _, hoL, _⟩ := id hn
    refine h _ ⟨I.ok, I.os, I.bare, ⟨fun b o e n hb hx => ?_, fun b o e n hb hx => ?_, I.base.free, fun b o e hx => ?_, I.base.tups, I.base.frzs, I.base.tbls⟩, ⟨_, hn', fun j y v' e1 e2 e3 => ?_⟩, fun y c e => ?_, I.free, I.freeC, fun p hp => ?_, tracked ⟨oL, hoL, I.free⟩ hs, by simpa using I.len⟩ ⟨_, hs, .inl rfl⟩
    · exact (hs.2 b (Nat.ne_of_lt (Nat.lt_of_lt_of_le (Heap.lt_size e) I.ok.above))).trans (I.base.keep b o e n hb hx)
    · obtain ⟨sl, e1⟩ := I.base.slot b o e n hb hx
      exact ⟨sl, (hs.2 b (Nat.ne_of_lt (Nat.lt_of_lt_of_le (Heap.lt_size e) I.ok.above))).trans e1⟩
    · obtain ⟨o', e1⟩ := I.base.there b o e hx
      exact ⟨o', (hs.2 b (Nat.ne_of_lt (Nat.lt_of_lt_of_le (Heap.lt_size e) I.ok.above))).trans e1⟩
    · by_cases hj : j = i
      · subst hj
        rw [hi] at e1; cases e1
        rw [List.getElem?_set_self hiσ] at e2
        cases e2
        exact ⟨u, r, .inl ⟨hk, by simp⟩⟩
      · rw [List.getElem?_set_ne (Ne.symm hj)] at e2
        obtain ⟨u', r', q⟩ := hl j y v' e1 e2 e3
        refine ⟨u', r', ?_⟩
        rcases q with ⟨k, e⟩ | ⟨k, c, e, z⟩
        · refine .inl ⟨k, ?_⟩
          have : y ≠ x := fun e => hj (nodup_ix hN e1 (e ▸ hi))
          simp [this, e]
        · exact .inr ⟨k, c, e, z.sameBut hs (cne y c e)⟩
    · obtain ⟨w', z⟩ := I.cell y c e
      exact ⟨w', z.sameBut hs (cne y c e)⟩
    · obtain ⟨e, n, ne, nf, d⟩ := I.pin p hp
      exact ⟨(hs.2 p.1 ne).trans e, n, ne, nf, d⟩
  · have hfn : X.fn x = true := by
      rcases hf with z | z
      · exact z
      · rw [z] at hk; cases hk
    obtain ⟨c, hc⟩ := I.ok.has x (.inl hk)
    obtain ⟨w', z⟩ := I.cell x c hc
    refine wpAny_storeName_cell I.ok.kind hk hc z (fun h' hc' hs => ?_)
    obtain ⟨oc, hoc, hocd⟩ := id z
    refine h { s with heap := h' } ⟨I.ok, I.os, I.bare, ⟨fun b o e n hb hx => ?_, fun b o e n hb hx => ?_, I.base.free, fun b o e hx => ?_, I.base.tups, I.base.frzs, I.base.tbls⟩, ⟨m, hn.sameBut hs (Ne.symm (cne x c hc)), fun j y v' e1 e2 e3 => ?_⟩, fun y c' e => ?_, I.free, I.freeC, fun p hp => ?_, tracked ⟨oc, hoc, I.freeC x c hc⟩ hs, by simpa using I.len⟩ ⟨c, hs, .inr hc⟩
    · exact (hs.2 b (Nat.ne_of_lt (Nat.lt_of_lt_of_le (Heap.lt_size e) (I.ok.cab x c hfn hc)))).trans (I.base.keep b o e n hb hx)
    · obtain ⟨sl, e1⟩ := I.base.slot b o e n hb hx
      exact ⟨sl, (hs.2 b (Nat.ne_of_lt (Nat.lt_of_lt_of_le (Heap.lt_size e) (I.ok.cab x c hfn hc)))).trans e1⟩
    · obtain ⟨o', e1⟩ := I.base.there b o e hx
      exact ⟨o', (hs.2 b (Nat.ne_of_lt (Nat.lt_of_lt_of_le (Heap.lt_size e) (I.ok.cab x c hfn hc)))).trans e1⟩
    · by_cases hj : j = i
      · subst hj
        rw [hi] at e1; cases e1
        rw [List.getElem?_set_self hiσ] at e2
        cases e2
        exact ⟨u, r, .inr ⟨.inl hk, c, hc, hc'⟩⟩
      · rw [List.getElem?_set_ne (Ne.symm hj)] at e2
        obtain ⟨u', r', q⟩ := hl j y v' e1 e2 e3
        refine ⟨u', r', ?_⟩
        rcases q with q | ⟨k, c', e, z'⟩
        · exact .inl q
        · refine .inr ⟨k, c', e, z'.sameBut hs ?_⟩
          rintro rfl
          exact hj (nodup_ix hN e1 (I.ok.inj _ _ _ e hc ▸ hi))
    · by_cases hcc : c' = c
      · subst hcc; exact ⟨_, hc'⟩
      · obtain ⟨w2, z2⟩ := I.cell y c' e
        exact ⟨w2, z2.sameBut hs hcc⟩
    · obtain ⟨e, n, ne, nf, d⟩ := I.pin p hp
      refine ⟨(hs.2 p.1 ?_).trans e, n, ne, nf, d⟩
      intro q
      rw [q, hoc] at e
      have q' : oc = p.2 := Option.some.inj e
      exact d w' (by rw [← q']; exact hocd)
theorem store_ok {M : Model} {A : Around} {E : Value → Shared → Prop} {i : Nat} {x : Str} {v : V} {u : Value} {Q : Unit → Shared → Prop} (I : Inv X pins σ H s) (hN : X.N.Nodup) (hi : X.N[i]? = some x) (hx : Loc X.env.scope x) (r : RelV v u)
    (h : ∀ s', Inv X pins (σ.set i (some v)) H s' → Q () s') (hf : X.fn x = true ∨ X.env.scope.names.lookup x = some .local := by first | exact .inl rfl | exact .inr rfl | assumption) : wpAny M A (storeName X.env x u) Q E s :=
  store_ok2 I hN hi hx r (fun s' I' _ => h s' I') hf
/-- behind a call or a block, the state as it is -/
theorem Inv.call' {s' : Shared} {ch : List Addr} (I : Inv X pins σ H s) (ho : s'.os = s.os) (u : Un (frs X.stack) ch H H' s.heap s'.heap) (hok : HOk X.prog X.w H' s'.heap) (hg : AllBare s'.gens)
    (hch : ∀ b ∈ ch, (b ∈ X.ex ∨ X.s_0.heap.objs.size ≤ b) ∧ b ≠ X.env.locals ∧ (∀ x c, X.env.cells.lookup x = some c → c ≠ b) ∧ ∀ p ∈ X.pn ++ pins, p.1 ≠ b) : Inv X pins σ H' s' := by
  obtain ⟨h', g', d', t', o'⟩ := s'
  have e : o' = s.os := ho
  subst e
  exact I.call (g' := g') (t' := t') (d' := d') u hok hg hch
end

/-! ### the judgements -/
/-- an exception: its class, its own dict's address (where it has one), the abstract heap behind it -/
abbrev XK := Value → Option Addr → Hp → Prop
abbrev St := List (Option V)
abbrev VK := V → Hp → Prop
/-- an expression's reading; a test's; an argument list's -/
abbrev TE := St → Hp → VK → Prop
abbrev TT := St → Hp → (Bool → Hp → Prop) → Prop
abbrev TA := St → Hp → (List V → Hp → Prop) → Prop
/-- what is wanted behind a statement -/
structure Ends where
  nx : St → Hp → Prop
  rt : VK
  bk : St → Hp → Prop := fun _ _ => False
  ct : St → Hp → Prop := fun _ _ => False
abbrev TS := Ends → St → Hp → Prop

def EP (X : Cx) (pins : List (Addr × Obj)) (σ : St) (Q : VK) (u : Value) (s' : Shared) : Prop := ∃ v H', Inv X pins σ H' s' ∧ RelV v u ∧ Q v H'
def TP (X : Cx) (pins : List (Addr × Obj)) (σ : St) (Q : Bool → Hp → Prop) (b : Bool) (s' : Shared) : Prop := ∃ H', Inv X pins σ H' s' ∧ Q b H'
def AP (X : Cx) (pins : List (Addr × Obj)) (σ : St) (Q : List V → Hp → Prop) (us : List Value) (s' : Shared) : Prop := ∃ vs H', Inv X pins σ H' s' ∧ Vals vs us ∧ Q vs H'
def SP (X : Cx) (pins : List (Addr × Obj)) (D : Ends) (f : Flow) (s' : Shared) : Prop :=
  match f with
  | .next => ∃ σ' H', Inv X pins σ' H' s' ∧ D.nx σ' H'
  | .brk => ∃ σ' H', Inv X pins σ' H' s' ∧ D.bk σ' H'
  | .cont => ∃ σ' H', Inv X pins σ' H' s' ∧ D.ct σ' H'
  | .ret u => ∃ v σ' H', Inv X pins σ' H' s' ∧ RelV v u ∧ D.rt v H'

def PE (X : Cx) (e : Expr) (t : TE) : Prop :=
  ∀ (pins : List (Addr × Obj)) (s : Shared) (σ : St) (H : Hp) (Q : VK), Inv X pins σ H s → t σ H Q → wpAny (model X.prog X.w) X.A (eval e X.env) (EP X pins σ Q) X.xe s
def PT (X : Cx) (e : Expr) (t : TT) : Prop :=
  ∀ (pins : List (Addr × Obj)) (s : Shared) (σ : St) (H : Hp) (Q : Bool → Hp → Prop), Inv X pins σ H s → t σ H Q → wpAny (model X.prog X.w) X.A (isTrue e X.env (eval e X.env)) (TP X pins σ Q) X.xe s
/-- a test whatever its 'whole' is (and, or) -/
def PW (X : Cx) (e : Expr) (t : TT) : Prop :=
  ∀ (whole : Sem Value) (pins : List (Addr × Obj)) (s : Shared) (σ : St) (H : Hp) (Q : Bool → Hp → Prop), Inv X pins σ H s → t σ H Q → wpAny (model X.prog X.w) X.A (isTrue e X.env whole) (TP X pins σ Q) X.xe s
theorem PW.pt {X : Cx} {e : Expr} {t : TT} (h : PW X e t) : PT X e t := h _
/-- an argument list (no star), from the left -/
def PA (X : Cx) (es : List Expr) (t : TA) : Prop :=
  ∀ (pos : Pos) (pins : List (Addr × Obj)) (s : Shared) (σ : St) (H : Hp) (Q : List V → Hp → Prop), Inv X pins σ H s → t σ H Q → wpAny (model X.prog X.w) X.A (spliced (backTo pos (starEach es X.env))) (AP X pins σ Q) X.xe s
def PS (X : Cx) (st : Stmt) (t : TS) : Prop :=
  ∀ (pins : List (Addr × Obj)) (s : Shared) (σ : St) (H : Hp) (D : Ends), Inv X pins σ H s → t D σ H → wpAny (model X.prog X.w) X.A (exec st X.env) (SP X pins D) X.xe s
def PSs (X : Cx) (st : List Stmt) (t : TS) : Prop :=
  ∀ (pins : List (Addr × Obj)) (s : Shared) (σ : St) (H : Hp) (D : Ends), Inv X pins σ H s → t D σ H → wpAny (model X.prog X.w) X.A (execs st X.env) (SP X pins D) X.xe s
/-- weaken the end -/
theorem thn {α : Type} {t : Sem α} {Q Q' : α → Shared → Prop} {M : Model} {A : Around} {E : Value → Shared → Prop} {s : Shared} (h : wpAny M A t Q E s) (hQ : ∀ a s, Q a s → Q' a s) : wpAny M A t Q' E s := wpAny_mono h hQ fun _ _ x => x
end L2

namespace L2
open PySem PySem.Spec PyProof.Rows
section
variable {X : Cx}

/-! ### names and constants -/
def tVar (i : Nat) : TE := fun σ H Q => ∃ v, σ[i]? = some (some v) ∧ Q v H
def tC (v : V) : TE := fun _ H Q => Q v H
theorem pe_var {i : Nat} {x : Str} {pos : Pos} (hN : X.N[i]? = some x) (hv : Vis X.env.scope x) (hd : (x == ("__debug__" : Str)) = false := by decide) (hcd : (x == ("__classdict__" : Str)) = false := by decide) : PE X (.Name x pos) (tVar i) := by
  intro pins s σ H Q I h
  obtain ⟨v, e, h⟩ := h
  obtain ⟨m, hn, hl⟩ := I.loc
  obtain ⟨u, r, l⟩ := hl i x v hN e hv
  have fin : EP X pins σ Q u s := ⟨v, H, I, r, h⟩
  rcases l with ⟨hk, hm⟩ | ⟨hk, c, hc, hcell⟩
  · exact wpAny_Name (wpAny_loadName_local I.ok.kind hk hn hm fin) hd
  · rcases hk with hk | hk
    · exact wpAny_Name (wpAny_loadName_cell I.ok.kind hk hc hcell fin) hd
    · exact wpAny_Name (wpAny_loadName_free I.ok.kind hk hc hcell fin hcd) hd
theorem pe_int {i j pos} : PE X (.Constant (.int i) j pos) (tC (.int i)) := fun _ _ _ H _ I h => wpAny_Constant_int ⟨.int i, H, I.tok _, ⟨_, rfl⟩, h⟩
theorem pe_bl {b j pos} : PE X (.Constant (.bool b) j pos) (tC (.bl b)) := fun _ _ _ H _ I h => Constant_bool ⟨.bl b, H, I, rfl, h⟩
theorem pe_non {j pos} : PE X (.Constant .none j pos) (tC .non) := fun _ _ _ H _ I h => Constant_none ⟨.non, H, I, rfl, h⟩
/-- a global name of the def -/
def Gl (X : Cx) (x : Str) : Prop := X.env.kindOf x = some .globalImplicit
theorem ld_glob {E : Value → Shared → Prop} {pins : List (Addr × Obj)} {s : Shared} {σ : St} {H : Hp} {x : Str} {u : Value} {pos : Pos} {Q : Value → Shared → Prop} (I : Inv X pins σ H s) (hg : Gl X x) (hm : X.mg x = some u) (h : Q u s)
    (hd : (x == ("__debug__" : Str)) = false := by decide) : wpAny (model X.prog X.w) X.A (eval (.Name x pos) X.env) Q E s :=
  Calls.Name_function_global I.ok.kind hg (Calls.loadGlobal_global (by rw [I.ok.glob]; exact I.mod.glob.keeps I.bk) hm h) hd
theorem ld_blt {E : Value → Shared → Prop} {pins : List (Addr × Obj)} {s : Shared} {σ : St} {H : Hp} {x : Str} {u : Value} {pos : Pos} {Q : Value → Shared → Prop} (I : Inv X pins σ H s) (hg : Gl X x) (hm : X.mg x = none) (hv : bootBuiltins x = some u) (h : Q u s)
    (hn : x ≠ "__name__" := by decide) (hd : (x == ("__debug__" : Str)) = false := by decide) : wpAny (model X.prog X.w) X.A (eval (.Name x pos) X.env) Q E s := by
  obtain ⟨mb, h1, h2⟩ := I.mod.blt
  exact Calls.Name_function_global I.ok.kind hg (Calls.loadGlobal_builtin (by rw [I.ok.glob]; exact I.mod.glob.keeps I.bk) hm (by rw [I.ok.blt]; exact h1.keeps I.bk) ((h2 x hn).trans hv) h) hd
/-- a module's constant, a class, a function, as a value -/
theorem pe_glob {x : Str} {v : V} {u : Value} {pos : Pos} (hg : Gl X x) (hm : X.mg x = some u) (r : RelV v u) (hd : (x == ("__debug__" : Str)) = false := by decide) : PE X (.Name x pos) (tC v) :=
  fun _ _ _ H _ I h => ld_glob I hg hm ⟨v, H, I, r, h⟩ hd
theorem pe_bltn {x : Str} {v : V} {u : Value} {pos : Pos} (hg : Gl X x) (hm : X.mg x = none) (hv : bootBuiltins x = some u) (r : RelV v u) (hn : x ≠ "__name__" := by decide) (hd : (x == ("__debug__" : Str)) = false := by decide) : PE X (.Name x pos) (tC v) :=
  fun _ _ _ H _ I h => ld_blt I hg hm hv ⟨v, H, I, r, h⟩ hn hd

/-! ### arithmetic -/
/-- two ints -/
def t2I (ta tb : TE) (k : Int → Int → Hp → Prop) : St → Hp → Prop := fun σ H => ta σ H fun x H1 => tb σ H1 fun y H2 => ∃ i j, x = .int i ∧ y = .int j ∧ k i j H2
def tAdd (ta tb : TE) : TE := fun σ H Q => t2I ta tb (fun i j H2 => Q (.int (i + j)) H2) σ H
def tSub (ta tb : TE) : TE := fun σ H Q => t2I ta tb (fun i j H2 => Q (.int (i - j)) H2) σ H
/-- the left factor below 2^64 -/
def tMul (ta tb : TE) : TE := fun σ H Q => t2I ta tb (fun i j H2 => (-(2 ^ 64) < i ∧ i < 2 ^ 64) ∧ Q (.int (i * j)) H2) σ H
variable {a b : Expr} {ta tb : TE} {pos : Pos}
/-! ### comparisons -/
def PC (X : Cx) (op : CmpOp) (a b : Expr) (t : TE) : Prop :=
  ∀ (pins : List (Addr × Obj)) (s : Shared) (σ : St) (H : Hp) (Q : VK), Inv X pins σ H s → t σ H Q →
    wpAny (model X.prog X.w) X.A (eval a X.env) (fun v s₁ => wpAny (model X.prog X.w) X.A (eval b X.env) (fun u s₂ => wpAny (model X.prog X.w) X.A (compareOp op v u) (EP X pins σ Q) X.xe s₂) X.xe s₁) X.xe s
def tCmp (p : Int → Int → Bool) (ta tb : TE) : TE := fun σ H Q => t2I ta tb (fun i j H2 => Q (.bl (p i j)) H2) σ H
abbrev tLt : TE → TE → TE := tCmp fun i j => decide (i < j)
abbrev tLe : TE → TE → TE := tCmp fun i j => decide (i ≤ j)
abbrev tGt : TE → TE → TE := tCmp fun i j => decide (j < i)
abbrev tGe : TE → TE → TE := tCmp fun i j => decide (j ≤ i)
abbrev tEqI : TE → TE → TE := tCmp fun i j => decide (i = j)
abbrev tNeI : TE → TE → TE := tCmp fun i j => !decide (i = j)
/-- is None -/
def tIsN (ta : TE) : TE := fun σ H Q => ta σ H fun x H1 => Q (.bl (decide (x = .non))) H1
def tNotN (ta : TE) : TE := fun σ H Q => ta σ H fun x H1 => Q (.bl (!decide (x = .non))) H1
/-- a comparison as a value, as a test -/
def tB (t : TE) : TT := fun σ H Q => t σ H fun x H1 => ∃ c, x = .bl c ∧ Q c H1
/-- an expression whose value is a bool, as a test -/
theorem pt_val {e : Expr} {t : TE} (h : PE X e t) (he : ∀ whole, isTrue e X.env whole = (do let v ← whole; standAt e.pos; holding [v] (truthy v)) := by intro _; rfl) : PT X e (tB t) := by
  intro pins s σ H Q I hw
  refine isTrue_plain (thn (h pins s σ H _ I hw) fun v s1 ⟨x, H1, I1, r1, q1⟩ => ?_) (he _)
  obtain ⟨d, rfl, q⟩ := q1
  cases r1
  exact wpAny_truthy_bool ⟨H1, I1, q⟩

/-! ### and, or, not -/
variable {tA tB' : TT} {rest : List Expr}
def tAnd (t u : TT) : TT := fun σ H Q => t σ H fun c H1 => if c = true then u σ H1 Q else Q false H1
def tOr (t u : TT) : TT := fun σ H Q => t σ H fun c H1 => if c = true then Q true H1 else u σ H1 Q
def tNot (t : TT) : TT := fun σ H Q => t σ H fun c H1 => Q (!c) H1
theorem pw_or1 (ha : PT X a tA) : PW X (.BoolOp .Or [a] pos) tA := by
  intro wh pins s σ H Q I h
  refine isTrue_or (thn (ha pins s σ H Q I h) fun c s1 e => ?_)
  cases c with
  | false => exact isTrue_or_nil e
  | true => exact e
theorem pw_or (ha : PT X a tA) (hb : PW X (.BoolOp .Or (b :: rest) pos) tB') : PW X (.BoolOp .Or (a :: b :: rest) pos) (tOr tA tB') := by
  intro wh pins s σ H Q I h
  refine isTrue_or (thn (ha pins s σ H _ I h) fun c s1 ⟨H1, I1, q1⟩ => ?_)
  cases c with
  | true => exact ⟨H1, I1, q1⟩
  | false => exact hb wh pins s1 σ H1 Q I1 q1
theorem pt_not (ha : PT X a tA) : PT X (.UnaryOp .Not a pos) (tNot tA) := by
  intro pins s σ H Q I h
  exact isTrue_not (ha pins s σ H (fun c H1 => Q (!c) H1) I h)
/-- .. as values (bools) -/
def tAndV (ta tb : TE) : TE := fun σ H Q => ta σ H fun x H1 => ∃ c, x = .bl c ∧ if c = true then tb σ H1 Q else Q (.bl false) H1
def tOrV (ta tb : TE) : TE := fun σ H Q => ta σ H fun x H1 => ∃ c, x = .bl c ∧ if c = true then Q (.bl true) H1 else tb σ H1 Q
def tNotV (ta : TE) : TE := fun σ H Q => ta σ H fun x H1 => ∃ c, x = .bl c ∧ Q (.bl (!c)) H1
theorem pe_one {op} {t : TE} (h : PE X a t) : PE X (.BoolOp op [a] pos) t := fun pins s σ H Q I hw => BoolOp_one (h pins s σ H Q I hw)
theorem pe_and (ha : PE X a ta) (hb : PE X (.BoolOp .And (b :: rest) pos) tb) : PE X (.BoolOp .And (a :: b :: rest) pos) (tAndV ta tb) := by
  intro pins s σ H Q I h
  refine BoolOp_and (thn (ha pins s σ H _ I h) fun v s1 ⟨x, H1, I1, r1, q1⟩ => ?_)
  obtain ⟨c, rfl, q1⟩ := q1
  cases r1
  refine wpAny_truthy_bool ?_
  cases c with
  | true => exact hb pins s1 σ H1 Q I1 q1
  | false => exact ⟨.bl false, H1, I1, rfl, q1⟩
theorem pe_or (ha : PE X a ta) (hb : PE X (.BoolOp .Or (b :: rest) pos) tb) : PE X (.BoolOp .Or (a :: b :: rest) pos) (tOrV ta tb) := by
  intro pins s σ H Q I h
  refine BoolOp_or (thn (ha pins s σ H _ I h) fun v s1 ⟨x, H1, I1, r1, q1⟩ => ?_)
  obtain ⟨c, rfl, q1⟩ := q1
  cases r1
  refine wpAny_truthy_bool ?_
  cases c with
  | false => exact hb pins s1 σ H1 Q I1 q1
  | true => exact ⟨.bl true, H1, I1, rfl, q1⟩
theorem pe_not (ha : PE X a ta) : PE X (.UnaryOp .Not a pos) (tNotV ta) := by
  intro pins s σ H Q I h
  refine UnaryOp_ (thn (ha pins s σ H _ I h) fun v s1 ⟨x, H1, I1, r1, q1⟩ => ?_)
  obtain ⟨c, rfl, q1⟩ := q1
  cases r1
  exact not_of (wpAny_truthy_bool ⟨.bl (!c), H1, I1, rfl, q1⟩)
/-- a if t else b -/
def tIf (t : TT) (ta tb : TE) : TE := fun σ H Q => t σ H fun c H1 => if c = true then ta σ H1 Q else tb σ H1 Q
theorem pe_ifExp {c : Expr} (hc : PT X c tA) (ha : PE X a ta) (hb : PE X b tb) : PE X (.IfExp c a b pos) (tIf tA ta tb) := by
  intro pins s σ H Q I h
  refine wpAny_IfExp (thn (hc pins s σ H _ I h) fun d s1 ⟨H1, I1, q1⟩ => ?_)
  cases d with
  | true => exact ha pins s1 σ H1 Q I1 q1
  | false => exact hb pins s1 σ H1 Q I1 q1
end
end L2

namespace L2
open PySem PySem.Spec PyProof.Rows

/-! ### a list, a tuple that is read: tracked, frozen, or an object of the module -/
def SqL (K : PySem.W.Frag) (H : Hp) (a : Addr) (xs : List V) : Prop :=
  Rd H a (.lst xs) ∨
    ∃ (o : Obj) (its : Array Value) (n : Nat), K.lookup a = some o ∧ o.cls = .type "list" ∧ o.dict = none ∧ o.data = .seq its n ∧ its.size ≤ sizeLine ∧ Vals xs its.toList
def SqT (K : PySem.W.Frag) (H : Hp) (a : Addr) (xs : List V) : Prop :=
  Rd H a (.tup xs) ∨
    ∃ (o : Obj) (its : Array Value) (n : Nat), K.lookup a = some o ∧ o.cls = .type "tuple" ∧ o.data = .seq its n ∧ its.size ≤ sizeLine ∧ Vals xs its.toList
def absV : Value → Option V
  | .none => some .non
  | .bool b => some (.bl b)
  | .int i _ => some (.int i)
  | .str x _ => some (.str x)
  | .bytes b _ => some (.byt b)
  | .float b _ => some (.flt b)
  | .ref a => some (.ref a)
  | .type n => some (.ty n)
  | _ => none
theorem RelV.abs {x : V} {u : Value} (r : RelV x u) : absV u = some x := by
  cases x with
  | non => cases r; rfl
  | bl _ => cases r; rfl
  | int _ => obtain ⟨t, rfl⟩ := r; rfl
  | str _ => obtain ⟨t, rfl⟩ := r; rfl
  | byt _ => obtain ⟨t, rfl⟩ := r; rfl
  | flt _ => obtain ⟨t, rfl⟩ := r; rfl
  | ref _ => cases r; rfl
  | ty _ => cases r; rfl
theorem RelV.inj {x y : V} {u : Value} (r : RelV x u) (q : RelV y u) : x = y := Option.some.inj (r.abs.symm.trans q.abs)
theorem Vals.inj : ∀ {xs ys : List V} {us : List Value}, Vals xs us → Vals ys us → xs = ys
  | _, _, _, .nil, .nil => rfl
  | _, _, _, .cons r t, .cons r' t' => by rw [r.inj r', Vals.inj t t']
section
variable {X : Cx} {pins : List (Addr × Obj)} {σ : St} {H : Hp} {s : Shared} {a : Addr} {xs ys : List V}
theorem SqL.of {K : PySem.W.Frag} (h : H a = some (.lst xs)) : SqL K H a xs := .inl (.inl h)
theorem SqT.of {K : PySem.W.Frag} (h : H a = some (.tup xs)) : SqT K H a xs := .inl (.inl h)
theorem Inv.list (I : Inv X pins σ H s) (h : SqL X.K H a xs) : ∃ its : List Value, Vals xs its ∧ PlainL s.heap a its.toArray ∧ xs.length ≤ sizeLine := by
  rcases h with h | ⟨o, its, n, hk, hc, hd, hs, hz, r⟩
  · obtain ⟨z, its, n, r, e⟩ := h.ok I.hok
    exact ⟨its, r, ⟨_, n, e, rfl, rfl, rfl⟩, z⟩
  · refine ⟨its.toList, r, ⟨o, n, I.kIn a o hk, hc, hd, by simpa using hs⟩, ?_⟩
    have e := r.length
    simp only [Array.length_toList] at e
    omega
theorem Inv.tuple (I : Inv X pins σ H s) (h : SqT X.K H a xs) : ∃ its : List Value, Vals xs its ∧ IsTup s.heap a its.toArray ∧ xs.length ≤ sizeLine := by
  rcases h with h | ⟨o, its, n, hk, hc, hs, hz, r⟩
  · obtain ⟨z, its, r, p⟩ := h.ok I.hok
    exact ⟨its, r, p, z⟩
  · refine ⟨its.toList, r, ⟨o, I.kIn a o hk, hc, n, by simpa using hs⟩, ?_⟩
    have e := r.length
    simp only [Array.length_toList] at e
    omega
theorem Inv.list_inj (I : Inv X pins σ H s) (h : SqL X.K H a xs) (h' : SqL X.K H a ys) : xs = ys := by
  obtain ⟨its, r, ⟨o, n, e, _, _, d⟩, _⟩ := I.list h
  obtain ⟨its', r', ⟨o', n', e', _, _, d'⟩, _⟩ := I.list h'
  rw [e] at e'; cases e'
  rw [d] at d'
  injection d' with d1 _
  have : its = its' := by simpa using congrArg Array.toList d1
  subst this
  exact r.inj r'
end

/-! ### another wish about exceptions -/
abbrev Cx.wish (X : Cx) (E : Value → Shared → Prop) : Cx := { X with xe := E }
/-- no exception leaves -/
abbrev Cx.nox (X : Cx) : Cx := X.wish fun _ _ => False
theorem Cx.Ok.wish {X : Cx} (ok : X.Ok) (E : Value → Shared → Prop) : (X.wish E).Ok :=
  ⟨ok.mod, ok.kind, ok.glob, ok.blt, ok.above, ok.inj, ok.has, ok.cab, ok.hd, ok.frames, ok.stk, ok.exf, ok.bs, ok.bsz, ok.noex, ok.exfs, ok.funs, ok.frf⟩
theorem Cx.Ok.unwish {X : Cx} {E : Value → Shared → Prop} (ok : (X.wish E).Ok) : X.Ok :=
  ⟨ok.mod, ok.kind, ok.glob, ok.blt, ok.above, ok.inj, ok.has, ok.cab, ok.hd, ok.frames, ok.stk, ok.exf, ok.bs, ok.bsz, ok.noex, ok.exfs, ok.funs, ok.frf⟩
section
variable {X : Cx} {pins : List (Addr × Obj)} {σ : St} {H : Hp} {s : Shared} {E : Value → Shared → Prop}
theorem Inv.wish (I : Inv X pins σ H s) (E : Value → Shared → Prop) : Inv (X.wish E) pins σ H s := ⟨I.ok.wish E, I.os, I.bare, I.base, I.loc, I.cell, I.free, I.freeC, I.pin, I.hok, I.len⟩
theorem Inv.unwish (I : Inv (X.wish E) pins σ H s) : Inv X pins σ H s := ⟨I.ok.unwish, I.os, I.bare, I.base, I.loc, I.cell, I.free, I.freeC, I.pin, I.hok, I.len⟩
theorem SP.unwish {D : Ends} {f : Flow} {s' : Shared} (h : SP (X.wish E) pins D f s') : SP X pins D f s' := by
  cases f with
  | next => obtain ⟨σ', H', I, q⟩ := h; exact ⟨σ', H', I.unwish, q⟩
  | brk => obtain ⟨σ', H', I, q⟩ := h; exact ⟨σ', H', I.unwish, q⟩
  | cont => obtain ⟨σ', H', I, q⟩ := h; exact ⟨σ', H', I.unwish, q⟩
  | ret u => obtain ⟨v, σ', H', I, r, q⟩ := h; exact ⟨v, σ', H', I.unwish, r, q⟩
theorem PE.nox {e : Expr} {t : TE} (h : PE X.nox e t) : PE X e t := fun pins s σ H Q I hw =>
  wpAny_mono (h pins s σ H Q (I.wish _) hw) (fun _ _ ⟨v, H', I', r, q⟩ => ⟨v, H', I'.unwish, r, q⟩) fun _ _ z => False.elim z
theorem PT.nox {e : Expr} {t : TT} (h : PT X.nox e t) : PT X e t := fun pins s σ H Q I hw =>
  wpAny_mono (h pins s σ H Q (I.wish _) hw) (fun _ _ ⟨H', I', q⟩ => ⟨H', I'.unwish, q⟩) fun _ _ z => False.elim z
theorem PSs.nox {st : List Stmt} {t : TS} (h : PSs X.nox st t) : PSs X st t := fun pins s σ H D I hw =>
  wpAny_mono (h pins s σ H D (I.wish _) hw) (fun _ _ q => q.unwish) fun _ _ z => False.elim z
end

/-! ### blocks and small statements -/
section
variable {X : Cx} {st : Stmt} {rest : List Stmt} {t u : TS} {e : Expr} {te : TE} {pos : Pos}
def tNext : TS := fun D σ H => D.nx σ H
def tSeq (t u : TS) : TS := fun D σ H => t { D with nx := u D } σ H
theorem pss_nil : PSs X [] tNext := fun _ _ σ H _ I h => wpAny_execs_nil ⟨σ, H, I, h⟩
theorem pss_cons (h1 : PS X st t) (h2 : PSs X rest u) : PSs X (st :: rest) (tSeq t u) := by
  intro pins s σ H D I h
  refine wpAny_execs_cons (thn (h1 pins s σ H { D with nx := u D } I h) fun f s1 q => ?_)
  cases f with
  | next =>
    obtain ⟨σ', H', I', q⟩ := q
    exact h2 pins s1 σ' H' D I' q
  | ret v => exact q
  | brk => exact q
  | cont => exact q
theorem pss_one (h1 : PS X st t) : PSs X [st] t := by
  intro pins s σ H D I h
  refine wpAny_execs_cons (thn (h1 pins s σ H D I h) fun f s1 q => ?_)
  cases f with
  | next => exact wpAny_execs_nil q
  | ret v => exact q
  | brk => exact q
  | cont => exact q
def tBreak : TS := fun D σ H => D.bk σ H
def tCont : TS := fun D σ H => D.ct σ H
/-- in a def's body nothing is shown -/
theorem Inv.quiet {pins : List (Addr × Obj)} {σ : St} {H : Hp} {s : Shared} (I : Inv X pins σ H s) : interactive X.env = false := by simp [interactive, I.ok.kind]
/-- an expression whose value is dropped -/
def tDrop (te : TE) : TS := fun D σ H => te σ H fun _ H1 => D.nx σ H1
theorem ps_expr (he : PE X e te) (hs : swapsWith e none pos.line X.env = pure false := by rfl) : PS X (.Expr e pos) (tDrop te) := by
  intro pins s σ H D I h
  exact wpAny_Expr_any (thn (he pins s σ H _ I h) fun v s1 ⟨x, H1, I1, r1, q1⟩ => ⟨σ, H1, I1, q1⟩) I.quiet hs
def tRet (te : TE) : TS := fun D σ H => te σ H D.rt
theorem ps_ret (he : PE X e te) : PS X (.Return (some e) pos) (tRet te) := by
  intro pins s σ H D I h
  exact wpAny_Return_some (thn (he pins s σ H _ I h) fun v s1 ⟨x, H1, I1, r1, q1⟩ => ⟨x, σ, H1, I1, r1, q1⟩)
def tRetN : TS := fun D _ H => D.rt .non H
def tIfS (c : TT) (t u : TS) : TS := fun D σ H => c σ H fun b H1 => if b = true then t D σ H1 else u D σ H1
theorem ps_if {c : Expr} {a b : List Stmt} {tc : TT} (hc : PT X c tc) (ha : PSs X a t) (hb : PSs X b u) : PS X (.If c a b pos) (tIfS tc t u) := by
  intro pins s σ H D I h
  refine wpAny_If (thn (hc pins s σ H _ I h) fun d s1 ⟨H1, I1, q1⟩ => ?_)
  cases d with
  | true => exact ha pins s1 σ H1 D I1 q1
  | false => exact hb pins s1 σ H1 D I1 q1
/-- code that the proof never comes to -/
def tNever : TS := fun _ _ _ => False
theorem ps_never : PS X st tNever := fun _ _ _ _ _ _ h => h.elim
end

/-! ### targets -/
abbrev TG := V → St → Hp → (St → Hp → Prop) → Prop
abbrev TGs := List V → St → Hp → (St → Hp → Prop) → Prop
def PG (X : Cx) (target : Expr) (t : TG) : Prop :=
  ∀ (pins : List (Addr × Obj)) (s : Shared) (σ : St) (H : Hp) (v : V) (u : Value) (Q : St → Hp → Prop), Inv X pins σ H s → RelV v u → t v σ H Q →
    wpAny (model X.prog X.w) X.A (assign target X.env u) (fun _ s' => ∃ σ' H', Inv X pins σ' H' s' ∧ Q σ' H') X.xe s
/-- several targets, one after another -/
def PGs (X : Cx) (ts : List Expr) (t : TGs) : Prop :=
  ∀ (pins : List (Addr × Obj)) (s : Shared) (σ : St) (H : Hp) (vs : List V) (us : List Value) (Q : St → Hp → Prop), Inv X pins σ H s → Vals vs us → t vs σ H Q →
    wpAny (model X.prog X.w) X.A (assignInOrder ((assignEach ts X.env).map (·.2)) us) (fun _ s' => ∃ σ' H', Inv X pins σ' H' s' ∧ Q σ' H') X.xe s
/-- o[i] = v, by values -/
abbrev TSet := V → V → V → Hp → (Hp → Prop) → Prop
def PSet (X : Cx) (t : TSet) : Prop :=
  ∀ (pins : List (Addr × Obj)) (s : Shared) (σ : St) (H : Hp) (o i v : V) (ov iv u : Value) (Q : Hp → Prop), Inv X pins σ H s → RelV o ov → RelV i iv → RelV v u → t o i v H Q →
    wpAny (model X.prog X.w) X.A (setItem ov iv u) (fun _ s' => ∃ H', Inv X pins σ H' s' ∧ Q H') X.xe s
/-- a op= b, by values -/
abbrev TIp := V → V → Hp → VK → Prop
def PIp (X : Cx) (op : Operator) (t : TIp) : Prop :=
  ∀ (pins : List (Addr × Obj)) (s : Shared) (σ : St) (H : Hp) (x y : V) (v u : Value) (Q : VK), Inv X pins σ H s → RelV x v → RelV y u → t x y H Q →
    wpAny (model X.prog X.w) X.A (inplaceOp op v u) (EP X pins σ Q) X.xe s
section
variable {X : Cx} {pos : Pos}
def gName (i : Nat) : TG := fun v σ H Q => Q (σ.set i (some v)) H
theorem pg_name {i : Nat} {x : Str} (hN : X.N.Nodup) (hi : X.N[i]? = some x) (hx : Loc X.env.scope x) (hf : X.fn x = true ∨ X.env.scope.names.lookup x = some .local := by first | exact .inl rfl | exact .inr rfl | assumption) : PG X (.Name x pos) (gName i) := by
  intro pins s σ H v u Q I r h
  exact wpAny_assign_Name (store_ok I hN hi hx r (fun s' I' => ⟨_, H, I', h⟩) hf)
def gNil : TGs := fun vs σ H Q => vs = [] ∧ Q σ H
def gCons (t : TG) (u : TGs) : TGs := fun vs σ H Q => ∃ v r, vs = v :: r ∧ t v σ H fun σ' H' => u r σ' H' Q
theorem pgs_nil : PGs X [] gNil := by
  intro pins s σ H vs us Q I r h
  obtain ⟨e, h⟩ := h
  subst e
  cases r
  exact assignInOrder_nil ⟨σ, H, I, h⟩
theorem pgs_cons {e : Expr} {es : List Expr} {t : TG} {u : TGs} (h1 : PG X e t) (h2 : PGs X es u)
    (hs : (assignEach (e :: es) X.env).map (·.2) = assign e X.env :: (assignEach es X.env).map (·.2) := by rfl) : PGs X (e :: es) (gCons t u) := by
  intro pins s σ H vs us Q I r h
  obtain ⟨v, vr, e1, h⟩ := h
  subst e1
  cases r with
  | cons r rr =>
    rw [hs]
    refine assignInOrder_cons (thn (h1 pins s σ H _ _ _ I r h) fun _ s1 ⟨σ1, H1, I1, q1⟩ => ?_)
    exact h2 pins s1 σ1 H1 _ _ Q I1 rr q1
/-- (a, b, ..) = a tuple of that length -/
def gTup (K : PySem.W.Frag) (n : Nat) (t : TGs) : TG := fun v σ H Q => ∃ a xs, v = .ref a ∧ SqT K H a xs ∧ xs.length = n ∧ t xs σ H Q
theorem pg_tup {es : List Expr} {k : Nat} {t : TGs} {n : Nat} (hc : X.calm = true) (h : PGs X es t)
    (hn : (assignEach es X.env).length = n := by rfl) (hst : (assignEach es X.env).findIdx? (·.1) = none := by rfl) : PG X (.Tuple es k pos) (gTup X.K n t) := by
  intro pins s σ H v u Q I r hw
  obtain ⟨a, xs, e1, hq, hl, hw⟩ := hw
  subst e1
  cases r
  obtain ⟨its, rv, ht, hz⟩ := I.tuple hq
  refine assign_Tuple_tuple (I.ok.hd hc) ht (by simp [hn, ← hl, rv.length]) hst fun h' hx => ?_
  have I1 : Inv X pins σ H { s with heap := h' } := I.kept (t' := s.toks) fun b o e => hx b o (Nat.ne_of_lt (Heap.lt_size e)) e
  exact h pins _ σ H xs _ Q I1 (by simpa using rv) hw
/-- o[i] = .. -/
def gSub (to ti : TE) (t : TSet) : TG := fun v σ H Q => to σ H fun o H1 => ti σ H1 fun i H2 => t o i v H2 fun H3 => Q σ H3
theorem pg_sub {o i : Expr} {to ti : TE} {t : TSet} (ho : PE X o to) (hi : PE X i ti) (hs : PSet X t)
    (ha : ∀ v, assign (.Subscript o i pos) X.env v = (do
      let ov ← holding [v] (eval o X.env)
      let iv ← holding [v, ov] (eval i X.env)
      standAt pos
      holding [v, ov, iv] (setItem ov iv v)
      release [v, ov, iv] []) := by intro _; rfl) : PG X (.Subscript o i pos) (gSub to ti t) := by
  intro pins s σ H v u Q I r h
  rw [ha]
  refine wpAny_bind (wpAny_holding (thn (ho pins s σ H _ I h) fun ov s1 ⟨x, H1, I1, r1, q1⟩ => ?_))
  refine wpAny_bind (wpAny_holding (thn (hi pins s1 σ H1 _ I1 q1) fun iv s2 ⟨y, H2, I2, r2, q2⟩ => ?_))
  refine wpAny_bind (wpAny_standAt (wpAny_bind (wpAny_holding (thn (hs pins s2 σ H2 x y v ov iv u _ I2 r1 r2 r q2) fun _ s3 ⟨H3, I3, q3⟩ => ?_))))
  exact wpAny_release ⟨σ, H3, I3, q3⟩
/-- target = value -/
def tAsg (te : TE) (g : TG) : TS := fun D σ H => te σ H fun x H1 => g x σ H1 D.nx
theorem ps_asg {tg e : Expr} {te : TE} {g : TG} (he : PE X e te) (hg : PG X tg g) (hs : swapsWithSole [tg] e pos.line X.env = pure false := by rfl) (hw : swappedStores [tg] e X.env = pure none := by rfl)
    (h1 : (assignEach [tg] X.env).map (·.2) = [assign tg X.env] := by rfl) : PS X (.Assign [tg] e pos) (tAsg te g) := by
  intro pins s σ H D I h
  refine wpAny_Assign_stores (thn (he pins s σ H _ I h) fun v s1 ⟨x, H1, I1, r1, q1⟩ => ?_) hs hw
  rw [h1]
  exact thn (hg pins s1 σ H1 x v _ I1 r1 q1) fun _ s2 q => q
/-- name = value -/
theorem ps_set {i : Nat} {x : Str} {e : Expr} {te : TE} {pos' : Pos} (hN : X.N.Nodup) (hi : X.N[i]? = some x) (hx : Loc X.env.scope x) (he : PE X e te) (hs : swapsWith e (some (.Name x pos')) pos.line X.env = pure false := by rfl) (hf : X.fn x = true ∨ X.env.scope.names.lookup x = some .local := by first | exact .inl rfl | exact .inr rfl | assumption) :
    PS X (.Assign [.Name x pos'] e pos) (tAsg te (gName i)) := by
  intro pins s σ H D I h
  refine wpAny_Assign_Name (thn (he pins s σ H _ I h) fun v s1 ⟨y, H1, I1, r1, q1⟩ => ?_) hs
  exact store_ok I1 hN hi hx r1 (fun s2 I2 => ⟨_, H1, I2, q1⟩) hf
/-- a, b = x, y with plain local names: stored from the right; the pair itself is not tracked (the opening rows as in PyProof/Rows/TupAssign.lean:23) -/
def tPar (i j : Nat) (ta : TA) : TS := fun D σ H => ta σ H fun vs H1 => ∃ v w, vs = [v, w] ∧ D.nx ((σ.set i (some v)).set j (some w)) H1
theorem ps_par {i j : Nat} {x y : Str} {a b : Expr} {ta : TA} {px py pt : Pos} {kt k2 pt2} (hc : X.calm = true) (hN : X.N.Nodup) (hi : X.N[i]? = some x) (hj : X.N[j]? = some y) (hij : i ≠ j)
    (hx : X.env.scope.names.lookup x = some .local) (hy : X.env.scope.names.lookup y = some .local) (ha : PA X [a, b] ta)
    (hw : swappedStores [.Tuple [.Name x px, .Name y py] kt pt] (.Tuple [a, b] k2 pt2) X.env = pure (some [x, y]))
    (hs : swapsWithSole [.Tuple [.Name x px, .Name y py] kt pt] (.Tuple [a, b] k2 pt2) pos.line X.env = pure false := by rfl) :
    PS X (.Assign [.Tuple [.Name x px, .Name y py] kt pt] (.Tuple [a, b] k2 pt2) pos) (tPar i j ta) := by
  intro pins s σ H D I h
  rw [exec_Assign_arm]
  refine wpAny_bind (wpAny_standAt ?_)
  rw [hs]
  refine wpAny_bind (wpAny_pure ?_)
  rw [if_neg (by decide)]
  refine wpAny_bind (Tuple_ (thn (ha _ pins s σ H _ I h) fun us s1 ⟨vs, H1, I1, r1, q1⟩ => ?_))
  obtain ⟨v, w, e1, q1⟩ := q1
  subst e1
  obtain ⟨u1, u2, rfl, rv, rw'⟩ : ∃ u1 u2, us = [u1, u2] ∧ RelV v u1 ∧ RelV w u2 := by
    cases r1 with
    | cons p q =>
      cases q with
      | cons p' q' =>
        cases q'
        exact ⟨_, _, rfl, p, p'⟩
  refine wpAny_newObj_type ?_ (by show 2 ≤ sizeLine; decide)
  have I2 : Inv X pins σ H1 { s1 with heap := s1.heap.push { cls := .type "tuple", data := .seq [u1, u2].toArray } } := I1.kept (t' := s1.toks) fun b o e => Heap.get?_push_of_some _ e
  rw [hw]
  refine wpAny_bind (wpAny_pure ?_)
  show wpAny (model X.prog X.w) X.A (do rule "assign.swapped-stores"; let items ← unpackItems (.ref s1.heap.objs.size) 2 none; assignInOrder [fun v => bindName X.env y v, fun v => bindName X.env x v] items.reverse; pure Flow.next) _ _ _
  refine wpAny_bind (wpAny_rule (wpAny_bind (unpackItems_tuple (items := #[u1, u2]) (I.ok.hd hc) (IsTup.new s1.heap _) fun h' hx' => ?_)))
  have I3 := I2.kept (h' := h') (t' := s1.toks) fun b o e => hx' b o (Nat.ne_of_lt (Heap.lt_size e)) e
  show wpAny _ _ (assignInOrder [fun v => bindName X.env y v, fun v => bindName X.env x v] [u2, u1] >>= fun _ => pure Flow.next) _ _ _
  refine wpAny_bind (assignInOrder_cons (wpAny_bindName (store_ok I3 hN hj (.inl hy) rw' (fun s2 I4 => ?_) (.inr hy))))
  refine assignInOrder_cons (wpAny_bindName (store_ok I4 hN hi (.inl hx) rv (fun s3 I5 => assignInOrder_nil (wpAny_pure ?_)) (.inr hx)))
  rw [List.set_comm _ _ (Ne.symm hij)] at I5
  exact ⟨_, H1, I5, q1⟩
/-- name op= e -/
def tAug (i : Nat) (te : TE) (ti : TIp) : TS := fun D σ H => ∃ x, σ[i]? = some (some x) ∧ te σ H fun y H1 => ti x y H1 fun z H2 => D.nx (σ.set i (some z)) H2
theorem ps_aug {i : Nat} {x : Str} {e : Expr} {te : TE} {op : Operator} {ti : TIp} {pos' : Pos} (hN : X.N.Nodup) (hi : X.N[i]? = some x) (hx : Loc X.env.scope x) (he : PE X e te) (ho : PIp X op ti) (hf : X.fn x = true ∨ X.env.scope.names.lookup x = some .local := by first | exact .inl rfl | exact .inr rfl | assumption) :
    PS X (.AugAssign (.Name x pos') op e pos) (tAug i te ti) := by
  intro pins s σ H D I h
  obtain ⟨v, e1, h⟩ := h
  obtain ⟨m, hn, hl⟩ := I.loc
  have vis : Vis X.env.scope x := by rcases hx with k | k; exact .inl k; exact .inr (.inl k)
  obtain ⟨u, r, l⟩ := hl i x v hi e1 vis
  refine wpAny_AugAssign_Name ?_
  have go : wpAny (model X.prog X.w) X.A (eval e X.env) (fun w s₂ => wpAny (model X.prog X.w) X.A (inplaceOp op u w) (fun r s₃ => wpAny (model X.prog X.w) X.A (storeName X.env x r) (fun _ => SP X pins D .next) X.xe s₃) X.xe s₂) X.xe s := by
    refine thn (he pins s σ H _ I h) fun w s1 ⟨y, H1, I1, r1, q1⟩ => ?_
    refine thn (ho pins s1 σ H1 v y u w _ I1 r r1 q1) fun z s2 ⟨zv, H2, I2, r2, q2⟩ => ?_
    exact store_ok I2 hN hi hx r2 (fun s3 I3 => ⟨_, H2, I3, q2⟩) hf
  rcases l with ⟨hk, hm⟩ | ⟨hk, c, hc, hcell⟩
  · exact wpAny_loadName_local I.ok.kind hk hn hm go
  · rcases hk with hk | hk
    · exact wpAny_loadName_cell I.ok.kind hk hc hcell go
    · rcases hx with k | k
      · have : X.env.scope.names.lookup x = some .free := hk
        rw [k] at this; cases this
      · have : X.env.scope.names.lookup x = some .free := hk
        rw [k] at this; cases this
/-- o[i] op= e -/
def tAugS (to ti te : TE) (tget : V → V → Hp → VK → Prop) (tip : TIp) (tset : TSet) : TS := fun D σ H => to σ H fun o H1 => ti σ H1 fun i H2 => tget o i H2 fun x H3 => te σ H3 fun y H4 => tip x y H4 fun z H5 => tset o i z H5 fun H6 => D.nx σ H6
/-- o[i], by values -/
def PGet (X : Cx) (t : V → V → Hp → VK → Prop) : Prop :=
  ∀ (pins : List (Addr × Obj)) (s : Shared) (σ : St) (H : Hp) (o i : V) (ov iv : Value) (Q : VK), Inv X pins σ H s → RelV o ov → RelV i iv → t o i H Q →
    wpAny (model X.prog X.w) X.A (getItem ov iv) (EP X pins σ Q) X.xe s
/-- ints -/
def ipI (f : Int → Int → Int) : TIp := fun x y H Q => ∃ i j, x = .int i ∧ y = .int j ∧ Q (.int (f i j)) H
end

/-! ### while -/
section
variable {X : Cx} {pos : Pos}
/-- the invariant W with its measure -/
def tWhile (c : TT) (tb : TS) : TS := fun D σ H => ∃ W : Nat → St → Hp → Prop, (∃ m, W m σ H) ∧ ∀ m σ H, W m σ H →
  c σ H fun b H1 => if b = true then ∃ N : St → Hp → Prop, (∀ σ' H', N σ' H' → ∃ m', m' < m ∧ W m' σ' H') ∧ tb { D with nx := N, ct := N, bk := D.nx } σ H1 else D.nx σ H1
theorem ps_while {c : Expr} {body : List Stmt} {tc : TT} {tb : TS} (hp : PassesOwn (model X.prog X.w) X.A X.env X.xe) (hc : PT X c tc) (hb : PSs X body tb) : PS X (.While c body [] pos) (tWhile tc tb) := by
  intro pins s σ H D I h
  obtain ⟨W, ⟨m0, w0⟩, turn⟩ := h
  refine wpAny_While (codeAny_whileLoop (fun n s' => ∃ σ' H', Inv X pins σ' H' s' ∧ W n σ' H') ?_ m0 ⟨σ, H, I, w0⟩)
  rintro n s1 ⟨σ1, H1, I1, w1⟩
  refine wpAny_passesOwn hp (thn (hc pins s1 σ1 H1 _ I1 (turn n σ1 H1 w1)) fun b s2 ⟨H2, I2, q2⟩ => ?_)
  cases b with
  | true =>
    obtain ⟨N, hN, q2⟩ := q2
    rw [if_pos rfl]
    refine wpAny_passesOwn hp (thn (hb pins s2 σ1 H2 _ I2 q2) fun f s3 q3 => ?_)
    cases f with
    | next =>
      obtain ⟨σ3, H3, I3, n3⟩ := q3
      obtain ⟨m', hm, w3⟩ := hN σ3 H3 n3
      exact ⟨m', hm, σ3, H3, I3, w3⟩
    | cont =>
      obtain ⟨σ3, H3, I3, n3⟩ := q3
      obtain ⟨m', hm, w3⟩ := hN σ3 H3 n3
      exact ⟨m', hm, σ3, H3, I3, w3⟩
    | brk => exact q3
    | ret v => exact q3
  | false =>
    rw [if_neg Bool.false_ne_true]
    exact wpAny_execs_nil ⟨σ1, H2, I2, q2⟩
end

/-! ### what a loop or a comprehension walks -/
/-- at turn i: it yields x (the heap may grow), or it stops -/
structure It where
  go : Nat → Hp → Prop
  yld : Nat → Hp → V → Hp → Prop
  stop : Nat → Hp → Prop
/-- the iterator's own objects may turn: they are not the frame's, not pinned, younger than the entry (or a comprehension's own) -/
def FpOk (X : Cx) (pins : List (Addr × Obj)) (H : Hp) (b : Addr) : Prop :=
  H b = none ∧ b ≠ X.env.locals ∧ b ∉ X.fs ∧ (b ∈ X.ex ∨ X.s_0.heap.objs.size ≤ b) ∧ (∀ x c, X.env.cells.lookup x = some c → c ≠ b) ∧ ∀ p ∈ X.pn ++ pins, p.1 ≠ b
theorem Inv.fpOk {X : Cx} {pins : List (Addr × Obj)} {σ : St} {H H' : Hp} {s : Shared} {b : Addr} (I : Inv X pins σ H s) (hb : s.heap.objs.size ≤ b) (hn : H' b = none) : FpOk X pins H' b := by
  refine ⟨hn, Nat.ne_of_gt (Nat.lt_of_lt_of_le I.lt hb), I.nofs hb, .inr (Nat.le_trans I.sz hb), fun x c e z => ?_, fun p hp z => ?_⟩
  · obtain ⟨v, q⟩ := I.cell x c e
    exact absurd (Nat.lt_of_lt_of_le q.lt (by rw [z]; exact hb)) (Nat.lt_irrefl _)
  · exact absurd (Nat.lt_of_lt_of_le (Heap.lt_size (I.pin p hp).1) (by rw [z]; exact hb)) (Nat.lt_irrefl _)
structure Turn (P : Program) (w : World) (K : PySem.W.Frag) (tg : Expr) (J : It) (fp : List Addr) (it : Addr) (tn : Nat → Heap → Prop) : Prop where
  mem : it ∈ fp
  obj : ∀ i h, tn i h → ∀ b ∈ fp, ∃ o, h.get? b = some o ∧ ∀ v, o.data ≠ .cell v
  keep : ∀ i h h', tn i h → (∀ b ∈ fp, ∀ o, h.get? b = some o → h'.get? b = some o) → tn i h'
  item : ∀ (X : Cx), X.prog = P → X.w = w → X.K = K → X.calm = true → ∀ (i : Nat) (pins : List (Addr × Obj)) (s : Shared) (σ : St) (H : Hp) (E : Value → Shared → Prop), Inv X pins σ H s → (∀ b ∈ fp, FpOk X pins H b) → tn i s.heap → J.go i H →
    wpAny (model P w) X.A (pyNext (.ref it)) (fun r s1 => ∃ u, r = some u ∧
      wpAny (model P w) X.A (letOwnedTupleGo tg (.ref it) u) (fun _ s2 => ∃ x H', Inv X pins σ H' s2 ∧ RelV x u ∧ J.yld i H x H' ∧ tn (i + 1) s2.heap ∧ ∀ b ∈ fp, H' b = none) E s1) E s
  done : ∀ (X : Cx), X.prog = P → X.w = w → X.K = K → X.calm = true → ∀ (i : Nat) (pins : List (Addr × Obj)) (s : Shared) (σ : St) (H : Hp) (E : Value → Shared → Prop), Inv X pins σ H s → (∀ b ∈ fp, FpOk X pins H b) → tn i s.heap → J.stop i H →
    wpAny (model P w) X.A (pyNext (.ref it)) (fun r s1 => r = none ∧ Inv X pins σ H s1) E s
  self : ∀ (A : Around) (i : Nat) (s : Shared) (Q : Value → Shared → Prop) (E : Value → Shared → Prop), tn i s.heap → Q (.ref it) s → wpAny (model P w) A (pyIter (.ref it)) Q E s
abbrev TI := St → Hp → (It → Hp → Prop) → Prop
/-- an iterator has come -/
def PIE (X : Cx) (pins : List (Addr × Obj)) (σ : St) (tg : Expr) (R : It → Hp → Prop) (itv : Value) (s2 : Shared) : Prop :=
  ∃ (it : Addr) (fp : List Addr) (tn : Nat → Heap → Prop) (J : It) (H' : Hp), itv = .ref it ∧ Inv X pins σ H' s2 ∧ Turn X.prog X.w X.K tg J fp it tn ∧ tn 0 s2.heap ∧ (∀ b ∈ fp, FpOk X pins H' b) ∧ R J H'
def PI (X : Cx) (tg iter : Expr) (wi : TI) : Prop :=
  ∀ (pins : List (Addr × Obj)) (s : Shared) (σ : St) (H : Hp) (R : It → Hp → Prop), Inv X pins σ H s → wi σ H R →
    wpAny (model X.prog X.w) X.A (eval iter X.env) (fun v s1 => wpAny (model X.prog X.w) X.A (pyIter v) (PIE X pins σ tg R) X.xe s1) X.xe s

/-- the step ahead of the store is nothing for an iterator that keeps no tuple -/
theorem go_of {M : Model} {A : Around} {E : Value → Shared → Prop} {s : Shared} {tg : Expr} {it : Addr} {u : Value} {o : Obj} {n : String} {vs : Array Value} {Q : Unit → Shared → Prop} (ho : s.heap.get? it = some o) (hc : o.cls = .type n) (hd : o.data = .fields vs)
    (hn : ["enumerate", "zip", "dict_itemiterator", "dict_reverseitemiterator", "odict_iterator", "itertools.zip_longest", "itertools.pairwise"].contains n = false) (hQ : Q () s) : wpAny M A (letOwnedTupleGo tg (.ref it) u) Q E s := by
  unfold letOwnedTupleGo
  cases tg <;> first
    | exact wpAny_pure hQ
    | (cases u <;> first
        | exact wpAny_pure hQ
        | (refine wpAny_bind (wpAny_load ho ?_)
           rw [hc, hd]
           show wpAny M A (if (["enumerate", "zip", "dict_itemiterator", "dict_reverseitemiterator", "odict_iterator", "itertools.zip_longest", "itertools.pairwise"].contains n && vs[0]? == some (rawInt _)) = true then _ else _) Q E s
           rw [if_neg (by intro h; rw [hn, Bool.false_and] at h; cases h)]
           exact wpAny_pure hQ))

/-- the list at a, as it stands at each turn (a loop may append to it) -/
def Itl (K : PySem.W.Frag) (a : Addr) : It :=
  ⟨fun i H => ∃ xs x, SqL K H a xs ∧ xs[i]? = some x, fun i H x H' => H' = H ∧ ∀ xs, SqL K H a xs → xs[i]? = some x, fun i H => ∃ xs, SqL K H a xs ∧ xs.length ≤ i⟩
def Itt (K : PySem.W.Frag) (a : Addr) : It :=
  ⟨fun i H => ∃ xs x, SqT K H a xs ∧ xs[i]? = some x, fun i H x H' => H' = H ∧ ∀ xs, SqT K H a xs → xs[i]? = some x, fun i H => ∃ xs, SqT K H a xs ∧ xs.length ≤ i⟩
/-- lo, lo + 1, .. (n of them) -/
def Itr (lo : Int) (n : Nat) : It := ⟨fun i _ => i < n, fun i H x H' => H' = H ∧ x = .int (lo + i), fun i _ => n ≤ i⟩
theorem turn_list {P : Program} {w : World} {K : PySem.W.Frag} {tg : Expr} (a it : Addr) : Turn P w K tg (Itl K a) [it] it (fun i h => h.IsListIter it a i) where
  mem := by simp
  obj := fun i h st b hb => by
    have e : b = it := by simpa using hb
    subst e
    obtain ⟨o, e, c, d⟩ := st
    exact ⟨o, e, fun v z => by rw [d] at z; cases z⟩
  keep := fun i h h' st k => st.at fun o e => k it (by simp) o e
  item := by
    intro X hP hw hK hc i pins s σ H E I hf st hg
    subst hP hw hK
    obtain ⟨xs, x, hq, hx⟩ := hg
    obtain ⟨its, rv, p, hz⟩ := I.list hq
    obtain ⟨u, hu, ru⟩ := rv.get hx
    obtain ⟨f0, f1, f2, f3, f4, f5⟩ := hf it (by simp)
    refine wpAny_pyNext_list_item st p.isList (x := u) (by simpa using hu) fun h' st' sb => ?_
    have I1 : Inv X pins σ H { s with heap := h' } := I.turned (t' := s.toks) (fun b o hb e => (sb.2 b hb).trans e) f0 f1 f3 f4 f5
    obtain ⟨o, e, c, d⟩ := id st'
    exact ⟨u, rfl, go_of (s := { s with heap := h' }) e c d (by decide) ⟨x, H, I1, ru, ⟨rfl, fun ys hy => by rw [I.list_inj hy hq]; exact hx⟩, st', fun b hb => (hf b hb).1⟩⟩
  done := by
    intro X hP hw hK hc i pins s σ H E I hf st hg
    subst hP hw hK
    obtain ⟨xs, hq, hx⟩ := hg
    obtain ⟨its, rv, p, hz⟩ := I.list hq
    obtain ⟨f0, f1, f2, f3, f4, f5⟩ := hf it (by simp)
    have hl := rv.length
    exact wpAny_pyNext_list_end (I.ok.hd hc) st p.isList (by simp; omega) fun h' eb => ⟨rfl, I.turned (t' := s.toks) (fun b o hb e => eb b o hb e) f0 f1 f3 f4 f5⟩
  self := fun _ _ _ _ _ st h => wpAny_pyIter_listiter st h
theorem turn_range {P : Program} {w : World} {K : PySem.W.Frag} {tg : Expr} (it : Addr) (lo : Int) (n : Nat) : Turn P w K tg (Itr lo n) [it] it (fun i h => IsRangeIter h it (lo + (i : Nat) * 1) ((n : Int) - (i : Nat)) 1) where
  mem := by simp
  obj := fun i h st b hb => by
    have e : b = it := by simpa using hb
    subst e
    exact ⟨_, st, fun v z => by
      have z' : Data.fields _ = Data.cell v := z
      cases z'⟩
  keep := fun i h h' st k => k it (by simp) _ st
  item := by
    intro X hP hw hK hc i pins s σ H E I hf st hg
    subst hP hw hK
    obtain ⟨f0, f1, f2, f3, f4, f5⟩ := hf it (by simp)
    have W := Walks.range (prog := X.prog) (w := X.w) (I.ok.hd hc) it lo 1 n
    refine W.item i s _ _ hg st fun v h' tk hv st' kk => ?_
    obtain ⟨t, rfl⟩ := hv
    have I1 : Inv X pins σ H { s with heap := h', toks := tk } := I.turned (fun b o hb e => kk b o (by simpa using hb) e) f0 f1 f3 f4 f5
    refine ⟨_, rfl, go_of (s := { s with heap := h', toks := tk }) (n := "range_iterator") st' rfl rfl (by decide) ⟨.int (lo + i), H, I1, ⟨t, ?_⟩, ⟨rfl, rfl⟩, st', fun b hb => (hf b hb).1⟩⟩
    rw [Int.mul_one]
  done := by
    intro X hP hw hK hc i pins s σ H E I hf st hg
    subst hP hw hK
    obtain ⟨f0, f1, f2, f3, f4, f5⟩ := hf it (by simp)
    exact wpAny_pyNext_range_end (I.ok.hd hc) st (by have : n ≤ i := hg; omega) fun h' eb => ⟨rfl, I.turned (t' := s.toks) (fun b o hb e => eb b o hb e) f0 f1 f3 f4 f5⟩
  self := fun _ _ _ _ _ st h => wpAny_pyIter_rangeiter st h
end L2

namespace L2
open PySem PySem.Spec PyProof.Rows
section
variable {X : Cx} {tg : Expr}
def iList (K : PySem.W.Frag) (tl : TE) : TI := fun σ H R => tl σ H fun x H1 => ∃ a, x = .ref a ∧ (∃ xs, SqL K H1 a xs) ∧ R (Itl K a) H1
def iTup (K : PySem.W.Frag) (tl : TE) : TI := fun σ H R => tl σ H fun x H1 => ∃ a, x = .ref a ∧ (∃ xs, SqT K H1 a xs) ∧ R (Itt K a) H1
theorem pi_list {l : Expr} {tl : TE} (hl : PE X l tl) : PI X tg l (iList X.K tl) := by
  intro pins s σ H R I h
  refine thn (hl pins s σ H _ I h) fun v s1 ⟨x, H1, I1, r1, q1⟩ => ?_
  obtain ⟨a, e, ⟨xs, hq⟩, q⟩ := q1
  subst e
  cases r1
  obtain ⟨its, rv, p, hz⟩ := I1.list hq
  refine wpAny_pyIter_list p.isList ?_
  refine ⟨s1.heap.objs.size, [s1.heap.objs.size], _, _, H1, rfl, I1.kept (t' := s1.toks) fun b o e => Heap.get?_push_of_some _ e, turn_list a _, ⟨_, Heap.get?_push_size _ rfl, rfl, rfl⟩, fun b hb => ?_, q⟩
  have e : b = s1.heap.objs.size := by simpa using hb
  subst e
  exact I1.fpOk (Nat.le_refl _) (I1.hok.fresh (Nat.le_refl _))
/-- a range object just made, walked -/
theorem range_it {pins : List (Addr × Obj)} {σ : St} {H : Hp} {s : Shared} {R : It → Hp → Prop} {E : Value → Shared → Prop} {lo hi : Int} {t u v : Tok} {tk : Nat} (I : Inv X pins σ H s) (h1 : -(2 ^ 62) ≤ lo) (h2 : lo < 2 ^ 62) (h3 : -(2 ^ 62) ≤ hi) (h4 : hi < 2 ^ 62)
    (q : R (Itr lo (hi - lo).toNat) H) : wpAny (model X.prog X.w) X.A (pyIter (.ref s.heap.objs.size)) (PIE X pins σ tg R) E { s with heap := s.heap.push { cls := .type "range", data := .fields #[.int lo t, .int hi u, .int 1 v] }, toks := tk } := by
  refine wpAny_pyIter_range (IsRange.new ..) (small_one h1 h2 h3 h4) ?_
  have I1 : Inv X pins σ H { s with heap := s.heap.push { cls := .type "range", data := .fields #[.int lo t, .int hi u, .int 1 v] }, toks := tk } := I.kept fun b o e => Heap.get?_push_of_some _ e
  refine ⟨(s.heap.push { cls := .type "range", data := .fields #[.int lo t, .int hi u, .int 1 v] }).objs.size, [(s.heap.push { cls := .type "range", data := .fields #[.int lo t, .int hi u, .int 1 v] }).objs.size], _, _, H, rfl,
    I1.kept (t' := tk) fun b o e => Heap.get?_push_of_some _ e, turn_range _ lo (hi - lo).toNat, ?_, fun b hb => ?_, q⟩
  · have e1 : lo + ((0 : Nat) : Int) * 1 = lo := by simp
    have e2 : (((hi - lo).toNat : Nat) : Int) - ((0 : Nat) : Int) = Builtin.Range.rangeSize lo hi 1 := by rw [rangeSize_one]; split <;> omega
    show IsRangeIter _ _ (lo + ((0 : Nat) : Int) * 1) ((((hi - lo).toNat : Nat) : Int) - ((0 : Nat) : Int)) 1
    rw [e1, e2]
    exact Heap.get?_push_size _ rfl
  · have e : b = (s.heap.push { cls := .type "range", data := .fields #[.int lo t, .int hi u, .int 1 v] }).objs.size := by simpa using hb
    subst e
    exact I1.fpOk (Nat.le_refl _) (I1.hok.fresh (Nat.le_refl _))
def iRng1 (ta : TA) : TI := fun σ H R => ta σ H fun vs H1 => ∃ j : Int, vs = [.int j] ∧ -(2 ^ 62) ≤ j ∧ j < 2 ^ 62 ∧ R (Itr 0 j.toNat) H1
def iRng2 (ta : TA) : TI := fun σ H R => ta σ H fun vs H1 => ∃ i j : Int, vs = [.int i, .int j] ∧ (-(2 ^ 62) ≤ i ∧ i < 2 ^ 62 ∧ -(2 ^ 62) ≤ j ∧ j < 2 ^ 62) ∧ R (Itr i (j - i).toNat) H1
theorem pi_range1 {a : Expr} {ta : TA} {p pos : Pos} (hg : Gl X "range") (hm : X.mg "range" = none) (ha : PA X [a] ta) (hs : starEach [a] X.env = [(false, eval a X.env)] := by rfl) : PI X tg (.Call (.Name "range" p) [a] [] pos) (iRng1 ta) := by
  intro pins s σ H R I h
  refine Call_ (ld_blt I hg hm boot_range (PyProof.Rows.callWith_type1 (thn (ha pos pins s σ H _ I h) fun us s1 ⟨vs, H1, I1, r1, q1⟩ => ?_) hs rfl))
  obtain ⟨j, e, q1, q2, q⟩ := q1
  subst e
  cases r1 with
  | cons r rr =>
    cases rr
    obtain ⟨t, rfl⟩ := r
    exact call_range_1 (range_it I1 (by omega) (by omega) q1 q2 (by simpa using q))
theorem pi_range2 {a b : Expr} {ta : TA} {p pos : Pos} (hg : Gl X "range") (hm : X.mg "range" = none) (ha : PA X [a, b] ta) (hs : starEach [a, b] X.env = [(false, eval a X.env), (false, eval b X.env)] := by rfl) (hs2 : starEach [b] X.env = [(false, eval b X.env)] := by rfl) :
    PI X tg (.Call (.Name "range" p) [a, b] [] pos) (iRng2 ta) := by
  intro pins s σ H R I h
  refine Call_ (ld_blt I hg hm boot_range (PyProof.Rows.callWith_type1 (thn (ha pos pins s σ H _ I h) fun us s1 ⟨vs, H1, I1, r1, q1⟩ => ?_) (by rw [hs, hs2]) (by rw [hs2]; rfl)))
  obtain ⟨i, j, e, ⟨q1, q2, q3, q4⟩, q⟩ := q1
  subst e
  cases r1 with
  | cons r rr =>
    cases rr with
    | cons r' rr =>
      cases rr
      obtain ⟨t, rfl⟩ := r
      obtain ⟨t', rfl⟩ := r'
      exact call_range_2 (range_it I1 q1 q2 q3 q4 q)

/-! ### for -/
/-- W: the invariant by the turn and a measure; N: what the body is to reach -/
def tFor (wi : TI) (g : TG) (tb : TS) : TS := fun D σ H => wi σ H fun J H1 => ∃ W : Nat → Nat → St → Hp → Prop, (∃ m, W 0 m σ H1) ∧ ∀ i m σ H, W i m σ H →
  (J.stop i H ∧ D.nx σ H) ∨ (J.go i H ∧ ∃ N : St → Hp → Prop, (∀ σ' H', N σ' H' → ∃ m', m' < m ∧ W (i + 1) m' σ' H') ∧ ∀ x H', J.yld i H x H' → g x σ H' fun σ2 H2 => tb { D with nx := N, ct := N, bk := D.nx } σ2 H2)
/-- the records at fp as they stand -/
def pinsAt (fp : List Addr) (h : Heap) : List (Addr × Obj) := fp.filterMap fun b => (h.get? b).map fun o => (b, o)
theorem mem_pinsAt {fp : List Addr} {h : Heap} {b : Addr} {o : Obj} (hb : b ∈ fp) (e : h.get? b = some o) : (b, o) ∈ pinsAt fp h := List.mem_filterMap.mpr ⟨b, hb, by rw [e]; rfl⟩
theorem of_pinsAt {fp : List Addr} {h : Heap} {p : Addr × Obj} (hp : p ∈ pinsAt fp h) : p.1 ∈ fp ∧ h.get? p.1 = some p.2 := by
  obtain ⟨b, hb, e⟩ := List.mem_filterMap.mp hp
  cases q : h.get? b with
  | none => rw [q] at e; cases e
  | some o =>
    rw [q] at e
    have e' : (b, o) = p := Option.some.inj e
    subst e'
    exact ⟨hb, q⟩
theorem Inv.pinned {pins : List (Addr × Obj)} {σ : St} {H : Hp} {s : Shared} {fp : List Addr} (I : Inv X pins σ H s) (hf : ∀ b ∈ fp, FpOk X pins H b) (ho : ∀ b ∈ fp, ∃ o, s.heap.get? b = some o ∧ ∀ v, o.data ≠ .cell v) : Inv X (pins ++ pinsAt fp s.heap) σ H s :=
  I.pins_of fun p hp => (List.mem_append.mp hp).elim (fun z => I.pin p (List.mem_append_right _ z)) fun z => by
    obtain ⟨hb, e⟩ := of_pinsAt z
    obtain ⟨f0, f1, f2, _⟩ := hf p.1 hb
    obtain ⟨o, e', d⟩ := ho p.1 hb
    rw [e] at e'; cases e'
    exact ⟨e, f0, f1, f2, d⟩
theorem Inv.unpinned {pins pl : List (Addr × Obj)} {σ : St} {H : Hp} {s : Shared} (I : Inv X (pins ++ pl) σ H s) : Inv X pins σ H s := I.pins_of fun p hp => I.pin p (List.mem_append_right _ (List.mem_append_left _ hp))
theorem ps_for {iter : Expr} {body : List Stmt} {wi : TI} {g : TG} {tb : TS} {pos : Pos} (hp : PassesOwn (model X.prog X.w) X.A X.env X.xe) (hc : X.calm = true) (hi : PI X tg iter wi) (hg : PG X tg g) (hb : PSs X body tb)
    (hs : ∀ x, foldedSetIterable iter X.env x = pure x := by intro _; rfl) : PS X (.For tg iter body [] pos) (tFor wi g tb) := by
  intro pins s σ H D I h
  refine wpAny_For (thn (hi pins s σ H _ I h) fun v s1 h1 => thn h1 fun itv s2 h2 => ?_) hs
  obtain ⟨it, fp, tn, J, H2, e, I2, T, st2, f2, W, ⟨m0, w0⟩, turn⟩ := h2
  subst e
  -- what stays true of the iterator's objects through the loop
  have stat : ∀ {H' : Hp}, (∀ b ∈ fp, H' b = none) → ∀ b ∈ fp, FpOk X pins H' b := fun hn b hb => ⟨hn b hb, (f2 b hb).2⟩
  refine codeAny_forLoop_any (fun n s' => ∃ i σ' H', Inv X pins σ' H' s' ∧ tn i s'.heap ∧ (∀ b ∈ fp, H' b = none) ∧ W i n σ' H') ?_ m0 ⟨0, σ, H2, I2, st2, fun b hb => (f2 b hb).1, w0⟩
  rintro n s3 ⟨i, σ3, H3, I3, st3, fr3, w3⟩
  rcases turn i n σ3 H3 w3 with ⟨stop, qn⟩ | ⟨go, N, hN, step⟩
  · refine wpAny_passesOwn hp (thn (T.done X rfl rfl rfl hc i pins s3 σ3 H3 X.xe I3 (stat fr3) st3 stop) fun r s4 ⟨hr, I4⟩ => ?_)
    subst hr
    exact wpAny_execs_nil ⟨σ3, H3, I4, qn⟩
  · refine wpAny_passesOwn hp (thn (T.item X rfl rfl rfl hc i pins s3 σ3 H3 X.xe I3 (stat fr3) st3 go) fun r s4 ⟨u, hr, h4⟩ => ?_)
    subst hr
    refine wpAny_passesOwn hp (thn h4 fun _ s5 ⟨x, H5, I5, r5, y5, st5, fr5⟩ => ?_)
    have I5' := I5.pinned (stat fr5) (T.obj _ _ st5)
    refine wpAny_passesOwn hp (thn (hg _ s5 σ3 H5 x u _ I5' r5 (step x H5 y5)) fun _ s6 ⟨σ6, H6, I6, q6⟩ => ?_)
    refine wpAny_passesOwn hp (thn (hb _ s6 σ6 H6 _ I6 q6) fun f s7 q7 => ?_)
    have again : ∀ {σ7 : St} {H7 : Hp}, Inv X (pins ++ pinsAt fp s5.heap) σ7 H7 s7 → N σ7 H7 → ∃ m, m < n ∧ ∃ i σ' H', Inv X pins σ' H' s7 ∧ tn i s7.heap ∧ (∀ b ∈ fp, H' b = none) ∧ W i m σ' H' := fun {σ7 H7} I7 n7 => by
      obtain ⟨m', hm, w7⟩ := hN σ7 H7 n7
      refine ⟨m', hm, i + 1, σ7, H7, I7.unpinned, T.keep _ _ _ st5 fun b hb o e => (I7.pin (b, o) (List.mem_append_right _ (List.mem_append_right _ (mem_pinsAt hb e)))).1, fun b hb => ?_, w7⟩
      obtain ⟨o, e, d⟩ := T.obj _ _ st5 b hb
      exact (I7.pin (b, o) (List.mem_append_right _ (List.mem_append_right _ (mem_pinsAt hb e)))).2.1
    cases f with
    | next => obtain ⟨σ7, H7, I7, n7⟩ := q7; exact again I7 n7
    | cont => obtain ⟨σ7, H7, I7, n7⟩ := q7; exact again I7 n7
    | brk => obtain ⟨σ7, H7, I7, q7⟩ := q7; exact ⟨σ7, H7, I7.unpinned, q7⟩
    | ret v => obtain ⟨x7, σ7, H7, I7, r7, q7⟩ := q7; exact ⟨x7, σ7, H7, I7.unpinned, r7, q7⟩
end

/-! ### the forms one uses -/
end L2

namespace L2
open PySem PySem.Spec PyProof.Rows

abbrev R2 := V → V → Hp → VK → Prop
/-- a two-place operation on values: f is binaryOp op, inplaceOp op or compareOp op -/
def OpR (X : Cx) (f : Value → Value → Sem Value) (r : R2) : Prop :=
  ∀ (pins : List (Addr × Obj)) (s : Shared) (σ : St) (H : Hp) (x y : V) (v u : Value) (Q : VK), Inv X pins σ H s → RelV x v → RelV y u → r x y H Q →
    wpAny (model X.prog X.w) X.A (f v u) (EP X pins σ Q) X.xe s
/-- a one-place operation -/
def UnR (X : Cx) (f : Value → Sem Value) (r : V → Hp → VK → Prop) : Prop :=
  ∀ (pins : List (Addr × Obj)) (s : Shared) (σ : St) (H : Hp) (x : V) (v : Value) (Q : VK), Inv X pins σ H s → RelV x v → r x H Q →
    wpAny (model X.prog X.w) X.A (f v) (EP X pins σ Q) X.xe s
/-- a call of a value that is known (a builtin, a type) with values -/
def CallR (X : Cx) (f : Value) (r : List V → Hp → VK → Prop) : Prop :=
  ∀ (pins : List (Addr × Obj)) (s : Shared) (σ : St) (H : Hp) (xs : List V) (us : List Value) (Q : VK), Inv X pins σ H s → Vals xs us → r xs H Q →
    wpAny (model X.prog X.w) X.A (call f us) (EP X pins σ Q) X.xe s
/-- a value's truth -/
def TruR (X : Cx) (r : V → Hp → (Bool → Hp → Prop) → Prop) : Prop :=
  ∀ (pins : List (Addr × Obj)) (s : Shared) (σ : St) (H : Hp) (x : V) (v : Value) (Q : Bool → Hp → Prop), Inv X pins σ H s → RelV x v → r x H Q →
    wpAny (model X.prog X.w) X.A (truthy v) (TP X pins σ Q) X.xe s

def tOp (r : R2) (ta tb : TE) : TE := fun σ H Q => ta σ H fun x H1 => tb σ H1 fun y H2 => r x y H2 Q
def tUn (r : V → Hp → VK → Prop) (ta : TE) : TE := fun σ H Q => ta σ H fun x H1 => r x H1 Q
/-- ints in, under C, and a value out -/
def rI (C : Int → Int → Prop) (g : Int → Int → V) : R2 := fun x y H Q => ∃ i j, x = .int i ∧ y = .int j ∧ C i j ∧ Q (g i j) H
def rI0 (g : Int → Int → V) : R2 := fun x y H Q => ∃ i j, x = .int i ∧ y = .int j ∧ Q (g i j) H
def rU (g : Int → V) : V → Hp → VK → Prop := fun x H Q => ∃ i, x = .int i ∧ Q (g i) H

section
variable {X : Cx} {a b c : Expr} {ta tb tc : TE} {pos : Pos}

theorem binT (ha : PE X a ta) (hb : PE X b tb) {pins : List (Addr × Obj)} {s : Shared} {σ : St} {H : Hp} {R : V → V → Hp → Prop} (I : Inv X pins σ H s)
    (h : ta σ H fun x H1 => tb σ H1 fun y H2 => R x y H2) {Q : Value → Shared → Prop} {f : Value → Value → Sem Value}
    (hf : ∀ v u s2 x y H2, Inv X pins σ H2 s2 → RelV x v → RelV y u → R x y H2 → wpAny (model X.prog X.w) X.A (f v u) Q X.xe s2) :
    wpAny (model X.prog X.w) X.A (eval a X.env) (fun v s₁ => wpAny (model X.prog X.w) X.A (eval b X.env) (fun u s₂ => wpAny (model X.prog X.w) X.A (f v u) Q X.xe s₂) X.xe s₁) X.xe s := by
  refine thn (ha pins s σ H _ I h) fun v s1 ⟨x, H1, I1, r1, q1⟩ => ?_
  refine thn (hb pins s1 σ H1 _ I1 q1) fun u s2 ⟨y, H2, I2, r2, q2⟩ => ?_
  exact hf v u s2 x y H2 I2 r1 r2 q2

theorem pe_op {op : Operator} {r : R2} (ho : OpR X (binaryOp op) r) (ha : PE X a ta) (hb : PE X b tb) : PE X (.BinOp a op b pos) (tOp r ta tb) := by
  intro pins s σ H Q I h
  exact wpAny_BinOp (binT ha hb I h fun v u s2 x y H2 I2 rx ry q => ho pins s2 σ H2 x y v u Q I2 rx ry q)
theorem pe_un {op : UnaryOp} {r : V → Hp → VK → Prop} (ho : UnR X (unaryOp op) r) (ha : PE X a ta) : PE X (.UnaryOp op a pos) (tUn r ta) := by
  intro pins s σ H Q I h
  exact UnaryOp_ (thn (ha pins s σ H _ I h) fun v s1 ⟨x, H1, I1, r1, q1⟩ => ho pins s1 σ H1 x v Q I1 r1 q1)
/-! ### ints -/
theorem opI {f : Value → Value → Sem Value} {C : Int → Int → Prop} {g : Int → Int → Int}
    (rule : ∀ (i j : Int) (t u : Tok) (s : Shared) (Q : Value → Shared → Prop) (E : Value → Shared → Prop), C i j → Q (.int (g i j) s.toks) { s with toks := s.toks + 1 } → wpAny (model X.prog X.w) X.A (f (.int i t) (.int j u)) Q E s) :
    OpR X f (rI C fun i j => .int (g i j)) := by
  intro pins s σ H x y v u Q I rx ry h
  obtain ⟨i, j, rfl, rfl, hc, q⟩ := h
  obtain ⟨t, rfl⟩ := rx
  obtain ⟨t', rfl⟩ := ry
  exact rule i j t t' s _ _ hc ⟨.int (g i j), H, I.tok _, ⟨_, rfl⟩, q⟩
theorem opI0 {f : Value → Value → Sem Value} {g : Int → Int → Int}
    (rule : ∀ (i j : Int) (t u : Tok) (s : Shared) (Q : Value → Shared → Prop) (E : Value → Shared → Prop), Q (.int (g i j) s.toks) { s with toks := s.toks + 1 } → wpAny (model X.prog X.w) X.A (f (.int i t) (.int j u)) Q E s) :
    OpR X f (rI0 fun i j => .int (g i j)) := by
  intro pins s σ H x y v u Q I rx ry h
  obtain ⟨i, j, rfl, rfl, q⟩ := h
  obtain ⟨t, rfl⟩ := rx
  obtain ⟨t', rfl⟩ := ry
  exact rule i j t t' s _ _ ⟨.int (g i j), H, I.tok _, ⟨_, rfl⟩, q⟩
theorem opB0 {f : Value → Value → Sem Value} {g : Int → Int → Bool}
    (rule : ∀ (i j : Int) (t u : Tok) (s : Shared) (Q : Value → Shared → Prop) (E : Value → Shared → Prop), Q (.bool (g i j)) s → wpAny (model X.prog X.w) X.A (f (.int i t) (.int j u)) Q E s) :
    OpR X f (rI0 fun i j => .bl (g i j)) := by
  intro pins s σ H x y v u Q I rx ry h
  obtain ⟨i, j, rfl, rfl, q⟩ := h
  obtain ⟨t, rfl⟩ := rx
  obtain ⟨t', rfl⟩ := ry
  exact rule i j t t' s _ _ ⟨.bl (g i j), H, I, rfl, q⟩

def CDiv (i j : Int) : Prop := 0 < j ∧ j < 1073741824
def CDivN (i j : Int) : Prop := j ≠ 0 ∧ j.natAbs < 1073741824
def CPow (i j : Int) : Prop := 0 ≤ j ∧ j ≤ 1000000 ∧ i.natAbs < 2 ^ 64
def CMul (i j : Int) : Prop := (-(2 ^ 64) < i ∧ i < 2 ^ 64) ∨ (-(2 ^ 64) < j ∧ j < 2 ^ 64)
theorem CMul.ok {i j : Int} (h : CMul i j) : IntMulOk i j := by
  rcases h with ⟨h1, h2⟩ | ⟨h1, h2⟩
  · exact .of_left (intBits_le_64 h1 h2)
  · exact .of_right (intBits_le_64 h1 h2)
theorem op_add : OpR X (binaryOp .Add) (rI0 fun i j => .int (i + j)) := opI0 fun _ _ _ _ _ _ _ q => add_int q
theorem op_sub : OpR X (binaryOp .Sub) (rI0 fun i j => .int (i - j)) := opI0 fun _ _ _ _ _ _ _ q => sub_int q
/-- // by a positive divisor -/
theorem op_fdiv : OpR X (binaryOp .FloorDiv) (rI CDiv fun i j => .int (i / j)) := opI fun i j _ _ _ _ _ hc q => by
  have h1 : (0 : Int) < j := hc.1
  have h2 : j < 1073741824 := hc.2
  exact floordiv_int (by omega) (by rw [Int.fdiv_eq_ediv_of_nonneg i (by omega)]; exact q) (.inl (PyProof.noPylong_small (by omega)))
/-- % by a positive divisor of any size -/
theorem op_mod : OpR X (binaryOp .Mod) (rI (fun _ j => 0 < j) fun i j => .int (i % j)) := opI fun i j _ _ _ _ _ hc q => by
  have h1 : (0 : Int) < j := hc
  exact mod_int' (by omega) (by rw [Int.fmod_eq_emod_of_nonneg i (by omega)]; exact q)
theorem op_pow : OpR X (binaryOp .Pow) (rI CPow fun i j => .int (i ^ j.toNat)) := opI fun _ _ _ _ _ _ _ hc q => pow_int_small hc.1 hc.2.1 hc.2.2 q
theorem unI {f : Value → Sem Value} {g : Int → Int}
    (rule : ∀ (i : Int) (t : Tok) (s : Shared) (Q : Value → Shared → Prop) (E : Value → Shared → Prop), Q (.int (g i) s.toks) { s with toks := s.toks + 1 } → wpAny (model X.prog X.w) X.A (f (.int i t)) Q E s) :
    UnR X f (rU fun i => .int (g i)) := by
  intro pins s σ H x v Q I rx h
  obtain ⟨i, rfl, q⟩ := h
  obtain ⟨t, rfl⟩ := rx
  exact rule i t s _ _ ⟨.int (g i), H, I.tok _, ⟨_, rfl⟩, q⟩
theorem un_neg : UnR X (unaryOp .USub) (rU fun i => .int (-i)) := unI fun _ _ _ _ _ q => neg_int q
/-! ### bools among ints: n += (a < b) -/
end

/-! ### comparisons -/
/-- the scalars that == tells apart as data does -/
def scal : V → V → Bool
  | .non, .non => true | .non, .int _ => true | .int _, .non => true | .non, .bl _ => true | .bl _, .non => true | .non, .str _ => true | .str _, .non => true
  | .int _, .int _ => true | .bl _, .bl _ => true | .str _, .str _ => true | .byt _, .byt _ => true
  | .int _, .str _ => true | .str _, .int _ => true | .bl _, .str _ => true | .str _, .bl _ => true
  | _, _ => false
def rEq : R2 := fun x y H Q => scal x y = true ∧ Q (.bl (decide (x = y))) H
def rNe : R2 := fun x y H Q => scal x y = true ∧ Q (.bl (!decide (x = y))) H

section
variable {X : Cx} {a b c : Expr} {ta tb tc : TE} {pos : Pos}
theorem fin_bl {pins : List (Addr × Obj)} {σ : St} {H : Hp} {s : Shared} {Q : VK} {k k' : Bool} (I : Inv X pins σ H s) (q : Q (.bl k) H) (e : k = k') : EP X pins σ Q (.bool k') s := by
  subst e
  exact ⟨.bl k, H, I, rfl, q⟩
theorem op_lt : OpR X (compareOp .Lt) (rI0 fun i j => .bl (decide (i < j))) := opB0 fun _ _ _ _ _ _ _ q => lt_int q
theorem op_le : OpR X (compareOp .LtE) (rI0 fun i j => .bl (decide (i ≤ j))) := opB0 fun _ _ _ _ _ _ _ q => le_int q
theorem op_gt : OpR X (compareOp .Gt) (rI0 fun i j => .bl (decide (j < i))) := opB0 fun _ _ _ _ _ _ _ q => gt_int q
theorem op_ge : OpR X (compareOp .GtE) (rI0 fun i j => .bl (decide (j ≤ i))) := opB0 fun _ _ _ _ _ _ _ q => ge_int q
/-- is None, is not None: the right side a value none -/
theorem op_isN : OpR X (compareOp .Is) (fun x y H Q => y = .non ∧ Q (.bl (decide (x = .non))) H) := by
  intro pins s σ H x y v u Q I rx ry h
  obtain ⟨rfl, q⟩ := h
  cases ry
  refine is_none_gen (fin_bl I q ?_)
  cases x <;> first
    | (cases rx; rfl)
    | (obtain ⟨t, rfl⟩ := rx; rfl)
/-- is, is not of two objects that are tracked lists or instances -/
def isObj : HO → Bool
  | .lst _ => true
  | .ins _ _ _ => true
  | _ => false
/-- two rules for one operation: by cases -/
theorem OpR.or {f : Value → Value → Sem Value} {r r' : R2} (h : OpR X f r) (h' : OpR X f r') : OpR X f (fun x y H Q => r x y H Q ∨ r' x y H Q) := by
  intro pins s σ H x y v u Q I rx ry q
  rcases q with q | q
  · exact h pins s σ H x y v u Q I rx ry q
  · exact h' pins s σ H x y v u Q I rx ry q

theorem nomark (b : Expr) {op : CmpOp} (h : op ≠ .In := by decide) (h2 : op ≠ .NotIn := by decide) : behindInMarks op b = false := by
  have e1 : (op == CmpOp.In) = false := by cases op <;> first | rfl | exact absurd rfl h
  have e2 : (op == CmpOp.NotIn) = false := by cases op <;> first | rfl | exact absurd rfl h2
  cases b <;> simp [behindInMarks, e1, e2]
/-- a comparison as a value; hm: nomark b, or (for in, not in) by with_unfolding_all rfl -/
theorem pe_cmpR {op : CmpOp} {r : R2} (ho : OpR X (compareOp op) r) (ha : PE X a ta) (hb : PE X b tb) (hm : behindInMarks op b = false) : PE X (.Compare a [op] [b] pos) (tOp r ta tb) := by
  intro pins s σ H Q I h
  exact wpAny_Compare1 (binT ha hb I h fun v u s2 x y H2 I2 rx ry q => ho pins s2 σ H2 x y v u Q I2 rx ry q) hm
/-- a reading of a value as a test -/
def tTest (t : TE) : TT := fun σ H Q => t σ H fun x H' => ∃ k, x = .bl k ∧ Q k H'
theorem pt_cmpR {op : CmpOp} {r : R2} (ho : OpR X (compareOp op) r) (ha : PE X a ta) (hb : PE X b tb) (hm : behindInMarks op b = false) : PT X (.Compare a [op] [b] pos) (tTest (tOp r ta tb)) := by
  intro pins s σ H Q I h
  refine wpAny_isTrue_Compare1 (thn (ha pins s σ H _ I h) fun v s1 ⟨x, H1, I1, r1, q1⟩ => thn (hb pins s1 σ H1 _ I1 q1) fun u s2 ⟨y, H2, I2, r2, q2⟩ =>
    thn (ho pins s2 σ H2 x y v u _ I2 r1 r2 q2) fun c s3 ⟨z, H3, I3, r3, k, e, q3⟩ => ?_) hm
  subst e
  cases r3
  exact wpAny_truthy_bool ⟨H3, I3, q3⟩
/-- a op1 b op2 c -/
def tChain (r r' : R2) (ta tb tc : TE) : TE := fun σ H Q => ta σ H fun x H1 => tb σ H1 fun y H2 => r x y H2 fun z H3 => ∃ k, z = .bl k ∧
  (if k = true then tc σ H3 fun w' H4 => r' y w' H4 Q else Q (.bl false) H3)
theorem pe_chain {op op' : CmpOp} {r r' : R2} (ho : OpR X (compareOp op) r) (ho' : OpR X (compareOp op') r') (ha : PE X a ta) (hb : PE X b tb) (hc : PE X c tc)
    (hm : lastMarks [op, op'] [b, c] = false := by with_unfolding_all rfl) : PE X (.Compare a [op, op'] [b, c] pos) (tChain r r' ta tb tc) := by
  intro pins s σ H Q I h
  refine Compare_chain (thn (ha pins s σ H _ I h) fun v s1 ⟨x, H1, I1, r1, q1⟩ => chain_link (thn (hb pins s1 σ H1 _ I1 q1) fun u s2 ⟨y, H2, I2, r2, q2⟩ =>
    thn (ho pins s2 σ H2 x y v u _ I2 r1 r2 q2) fun d s3 ⟨z, H3, I3, r3, k, e, q3⟩ => ?_)) hm
  subst e
  cases r3
  refine wpAny_truthy_bool ?_
  cases k with
  | false => exact ite_ff ⟨.bl false, H3, I3, rfl, q3⟩
  | true => exact ite_tt (chain_last (thn (hc pins s3 σ H3 _ I3 q3) fun w' s4 ⟨z', H4, I4, r4, q4⟩ => ho' pins s4 σ H4 y z' u w' Q I4 r2 r4 q4))
theorem pt_chain {op op' : CmpOp} {r r' : R2} (ho : OpR X (compareOp op) r) (ho' : OpR X (compareOp op') r') (ha : PE X a ta) (hb : PE X b tb) (hc : PE X c tc)
    (hm : lastMarks [op, op'] [b, c] = false := by with_unfolding_all rfl) : PT X (.Compare a [op, op'] [b, c] pos) (tTest (tChain r r' ta tb tc)) := by
  intro pins s σ H Q I h
  refine isTrue_chain (thn (ha pins s σ H _ I h) fun v s1 ⟨x, H1, I1, r1, q1⟩ => test_link (thn (hb pins s1 σ H1 _ I1 q1) fun u s2 ⟨y, H2, I2, r2, q2⟩ =>
    thn (ho pins s2 σ H2 x y v u _ I2 r1 r2 q2) fun d s3 ⟨z, H3, I3, r3, k, e, q3⟩ => ?_)) hm
  subst e
  cases r3
  refine wpAny_truthy_bool ?_
  cases k with
  | false =>
    obtain ⟨k', e', q'⟩ := q3
    cases e'
    exact ite_ff ⟨H3, I3, q'⟩
  | true =>
    refine ite_tt (test_last (thn (hc pins s3 σ H3 _ I3 q3) fun w' s4 ⟨z', H4, I4, r4, q4⟩ => thn (ho' pins s4 σ H4 y z' u w' _ I4 r2 r4 q4) fun d' s5 ⟨z2, H5, I5, r5, k2, e2, q5⟩ => ?_))
    subst e2
    cases r5
    exact wpAny_truthy_bool ⟨H5, I5, q5⟩

/-! ### truth -/
/-- a value's truth by the abstract heap -/
def TruV (K : PySem.W.Frag) (x : V) (H : Hp) (k : Bool) : Prop :=
  match x with
  | .non => k = false
  | .bl b => k = b
  | .int i => k = (i != 0)
  | .str y => y.length ≤ sizeLine ∧ k = ((y.length : Int) != 0)
  | .byt y => y.size ≤ sizeLine ∧ k = ((y.size : Int) != 0)
  | .ref p => (∃ xs, SqL K H p xs ∧ k = !xs.isEmpty) ∨ (∃ xs, SqT K H p xs ∧ k = !xs.isEmpty) ∨ ∃ kvs, H p = some (.dK kvs) ∧ k = !kvs.isEmpty
  | _ => False
theorem line63 : (sizeLine : Nat) < 2 ^ 63 := by rw [sizeLine_eq]; decide
/-! ### strs and bytes -/
def PlainIxT (b : Expr) : Prop := ∀ o i, subscripted b false o i = operate [o, i] (getItem o i)
/-! ### scalar builtins, by CallR -/
theorem vals1 {x : V} {us : List Value} (r : Vals [x] us) : ∃ u, us = [u] ∧ RelV x u := by
  cases r with
  | cons r1 r2 => cases r2; exact ⟨_, rfl, r1⟩
theorem vals2 {x y : V} {us : List Value} (r : Vals [x, y] us) : ∃ u w', us = [u, w'] ∧ RelV x u ∧ RelV y w' := by
  cases r with
  | cons r1 r2 =>
    cases r2 with
    | cons r3 r4 => cases r4; exact ⟨_, _, rfl, r1, r3⟩
theorem call_abs : CallR X (.builtin "abs") (fun xs H Q => ∃ i, xs = [.int i] ∧ Q (.int (if i < 0 then -i else i)) H) := by
  intro pins s σ H xs us Q I r h
  obtain ⟨i, rfl, q⟩ := h
  obtain ⟨u, rfl, t, rfl⟩ := vals1 r
  exact call_abs_int fun u tk => ⟨.int (if i < 0 then -i else i), H, I.tok _, ⟨_, rfl⟩, q⟩
theorem call_max2 (hc : X.calm = true) : CallR X (.builtin "max") (fun xs H Q => ∃ i j, xs = [.int i, .int j] ∧ Q (.int (if j > i then j else i)) H) := by
  intro pins s σ H xs us Q I r h
  obtain ⟨i, j, rfl, q⟩ := h
  obtain ⟨u, w', rfl, ⟨t, rfl⟩, ⟨t', rfl⟩⟩ := vals2 r
  refine max_two_ints (I.ok.hd hc) fun h' tk k => ⟨_, H, I.kept k, ?_, q⟩
  by_cases hj : j > i
  · rw [if_pos hj, if_pos hj]; exact ⟨_, rfl⟩
  · rw [if_neg hj, if_neg hj]; exact ⟨_, rfl⟩
/-- len of a str, a bytes, a list, a tuple -/
def LenV (K : PySem.W.Frag) (x : V) (H : Hp) (n : Nat) : Prop :=
  match x with
  | .str y => y.length ≤ sizeLine ∧ n = y.length
  | .byt y => y.size ≤ sizeLine ∧ n = y.size
  | .ref p => (∃ xs, SqL K H p xs ∧ n = xs.length) ∨ ∃ xs, SqT K H p xs ∧ n = xs.length
  | _ => False
end
end L2

namespace L2
open PySem PySem.Spec PyProof.Rows

/-! ### an instance, its attributes a map -/
structure ObjM (h : Heap) (x dx C : Addr) (mA : Str → Option Value) : Prop where
  obj : h.get? x = some (PySem.W.instObj C dx)
  ns : h.Ns1 dx mA
  ne : dx ≠ x

theorem lookIn_ns {h : Heap} {dx : Addr} {mA : Str → Option Value} (n : h.Ns1 dx mA) : ∃ od, h.get? dx = some od ∧ ∀ name, PySem.W.lookIn name od = some (mA name) := by
  obtain ⟨o, es, ep, ho, hd, hk, _, hm⟩ := n
  refine ⟨o, ho, fun name => ?_⟩
  have e := hm name
  unfold nsFind findBy at e
  rw [← Array.find?_toList] at e
  unfold PySem.W.lookIn
  rw [hd]
  dsimp only
  split
  · rename_i y q
    rw [q] at e
    exact congrArg some e
  · rename_i q
    rw [q] at e
    have a : es.toList.any (·.refKey) = false := by
      rw [List.any_eq_false]
      intro y hy
      obtain ⟨z, t, hkey⟩ := hk y (Array.mem_toList_iff.mp hy)
      simp [DictEntry.refKey, hkey]
    have a' : ¬ es.toList.any (·.refKey) = true := by rw [a]; exact Bool.false_ne_true
    rw [if_neg a']
    exact congrArg some e

theorem ObjM.look {h : Heap} {x dx C : Addr} {mA : Str → Option Value} (I : ObjM h x dx C mA) : ∃ od, PySem.W.InstAt h x (PySem.W.instObj C dx) C (some od) ∧ ∀ name, PySem.W.lookIn name od = some (mA name) :=
  let ⟨od, ho, hl⟩ := lookIn_ns I.ns
  ⟨od, ⟨I.obj, rfl, rfl, ho⟩, hl⟩

section
variable {prog : Program} {w : World} {A : Around} {E : Value → Shared → Prop} {s : Shared} {K : PySem.W.Frag} {x dx C f : Addr} {mA : Str → Option Value} {name : Str} {v : Value}

theorem get_map {expr : Bool} {Q : Value → Shared → Prop} (X : K.In s.heap) (I : ObjM s.heap x dx C mA) (hg : PySem.W.plainGet K C name = true) (hh : PySem.W.hasDictIn K C = true)
    (ha : PySem.W.findIn K (.ref C) name = some none) (hv : mA name = some v) (hv' : PySem.W.handedIn v = true) (h : Q v { s with toks := s.toks + 1 }) :
    wpAny (model prog w) A (getAttr (.ref x) name expr) Q E s := by
  obtain ⟨od, J, hl⟩ := I.look
  exact PySem.W.get_value X J (PySem.W.plainGet_of hg).1 (PySem.W.findObj_own hh ha rfl (by rw [hl, hv])) hv' h

theorem get_meth {pl : Sem Bool} {Q : Value × List Value → Shared → Prop} (X : K.In s.heap) (I : ObjM s.heap x dx C mA) (hg : PySem.W.plainGet K C name = true)
    (hf : PySem.W.findIn K (.ref C) name = some (some (.ref f))) (ht : PySem.W.isFn K (.ref f) = true) (hv : mA name = none) (h : Q (.ref f, [.ref x]) s) :
    wpAny (model prog w) A (getMethod (.ref x) name pl) Q E s := by
  obtain ⟨od, J, hl⟩ := I.look
  exact PySem.W.method_fn X J (PySem.W.plainGet_of hg).1 (PySem.W.plainGet_of hg).2 hf (beq_iff_eq.mp ht) (by show (PySem.W.lookIn name od).map (·.isSome) = some false; rw [hl, hv]; rfl) h

theorem set_map {ns : List Str} {Q : Unit → Shared → Prop} (X : K.In s.heap) (I : ObjM s.heap x dx C mA)
    (hs : PySem.W.findIn K (.ref C) "__setattr__" = some (some (.builtin "object.__setattr__"))) (hp : PySem.W.plainOver K C = true) (ht : PySem.W.takerIn K C name = some none) (hh : PySem.W.hasDictIn K C = true)
    (hw : PySem.Within mA ns) (hsz : ns.length ≤ sizeLine)
    (h : ∀ h', ObjM h' x dx C (fun y => if y = name then some v else mA y) → Heap.SameBut dx s.heap h' → Q () { s with heap := h', toks := s.toks + 2 }) :
    wpAny (model prog w) A (setAttr (.ref x) name v) Q E s := by
  obtain ⟨od, J, hl⟩ := I.look
  refine PySem.W.set_plain X J hs (PySem.W.osa_open (s := { s with toks := s.toks + 1 }) (r := none) X J hp ht fun b => ?_)
  obtain ⟨cd, hc, hd'⟩ := PySem.W.any_some hh
  have hx : s.heap.get? x = some ⟨.ref C, some dx, .plain, #[]⟩ := I.obj
  refine wpAny_bind (wpAny_pure (wpAny_bind (wpAny_bind (wpAny_loadPart hx (wpAny_bind (PySem.W.Looks.here (s := { s with toks := s.toks + 1 }) (PySem.W.looks_clsIn X hc) ?_))))))
  rw [hd']
  refine wpAny_pure (a := some dx) (wpAny_bind (wpAny_pure (wpAny_bind ?_)))
  refine wpAny_nsSet1 (s := { s with toks := s.toks + 1 }) I.ns fun h' hn2 hs2 => ?_
  obtain ⟨oD, esD, epD, hoD, hdD, hcD⟩ := hn2.count (PySem.Within.cons name v hw)
  refine wpAny_bind (wpAny_lookBehind hoD (by rw [hdD]; exact pastItsLine_dict (Nat.le_trans hcD (by rw [List.length_cons]; omega))) ?_)
  exact wpAny_pure (h _ ⟨(hs2.2 _ (Ne.symm I.ne)).trans I.obj, hn2, I.ne⟩ hs2)

/-- C(..): the dict at the heap's end, the instance behind it; then its __init__ -/
theorem make_map {R : Result → Shared → Prop} {vs : List Value} {kw : List (Str × Value)} (X : K.In s.heap) (hm : PySem.W.makesIn K C = true)
    (hi : PySem.W.findIn K (.ref C) "__init__" = some (some (.ref f))) (hf : PySem.W.typeIn K (.ref f) = some (.type "function"))
    (h : codeAny (model prog w) (A.under (.builtin "type.__call__" ⟨.ref C :: vs, kw⟩)) (.call (.ref f) ⟨.ref (s.heap.objs.size + 1) :: vs, kw⟩) (PySem.W.InitBack (s.heap.objs.size + 1) R)
      { s with heap := (s.heap.push PySem.W.emptyDict).push (PySem.W.instObj C s.heap.objs.size) }) :
    codeAny (model prog w) A (.call (.ref C) ⟨vs, kw⟩) R s := by
  obtain ⟨hh, g, d, t, os⟩ := s
  exact PySem.W.make_core (PySem.W.makes_of X hm) (PySem.W.looks_findIn X hi) (fun self => PySem.W.bind_fn X self hf) (.inl rfl) h
end

/-! ### the attributes as a list of pairs -/
def putF (f : Str) (v : V) : List (Str × V) → List (Str × V)
  | [] => [(f, v)]
  | (g, x) :: r => if g = f then (g, v) :: r else (g, x) :: putF f v r
theorem lookup_putF (f g : Str) (v : V) : ∀ fs : List (Str × V), (putF f v fs).lookup g = if g = f then some v else fs.lookup g
  | [] => by
    show List.lookup g [(f, v)] = _
    by_cases h : g = f
    · have hb : (g == f) = true := beq_iff_eq.mpr h
      simp only [List.lookup, hb, if_pos h]
    · have hb : (g == f) = false := beq_eq_false_iff_ne.mpr h
      simp only [List.lookup, hb, if_neg h]
  | (k, x) :: r => by
    have ih := lookup_putF f g v r
    rw [show putF f v ((k, x) :: r) = (if k = f then (k, v) :: r else (k, x) :: putF f v r) from rfl]
    by_cases hk : k = f
    · rw [if_pos hk]
      by_cases h : g = k
      · have hb : (g == k) = true := beq_iff_eq.mpr h
        simp only [List.lookup, hb, if_pos (h.trans hk)]
      · have hb : (g == k) = false := beq_eq_false_iff_ne.mpr h
        simp only [List.lookup, hb, if_neg (fun e : g = f => h (e.trans hk.symm))]
    · rw [if_neg hk]
      by_cases h : g = k
      · have hb : (g == k) = true := beq_iff_eq.mpr h
        simp only [List.lookup, hb, if_neg (fun e : g = f => hk (h.symm.trans e))]
      · have hb : (g == k) = false := beq_eq_false_iff_ne.mpr h
        simp only [List.lookup, hb]
        exact ih
theorem keys_putF (f : Str) (v : V) : ∀ fs : List (Str × V), f ∈ (putF f v fs).map (·.1) ∧ ∀ g, g ∈ fs.map (·.1) → g ∈ (putF f v fs).map (·.1)
  | [] => ⟨by simp [putF], fun g h => by simp at h⟩
  | (k, x) :: r => by
    obtain ⟨i1, i2⟩ := keys_putF f v r
    rw [show putF f v ((k, x) :: r) = (if k = f then (k, v) :: r else (k, x) :: putF f v r) from rfl]
    by_cases hk : k = f
    · rw [if_pos hk]
      subst hk
      exact ⟨by simp, fun g h => by simpa using h⟩
    · rw [if_neg hk]
      refine ⟨?_, fun g h => ?_⟩
      · rw [List.map_cons]
        exact List.mem_cons_of_mem _ i1
      · rw [List.map_cons] at h ⊢
        rcases List.mem_cons.mp h with e | e
        · exact List.mem_cons.mpr (.inl e)
        · exact List.mem_cons_of_mem _ (i2 g e)
theorem length_putF (f : Str) (v : V) : ∀ fs : List (Str × V), (putF f v fs).length ≤ fs.length + 1
  | [] => by simp [putF]
  | (k, x) :: r => by
    have ih := length_putF f v r
    rw [show putF f v ((k, x) :: r) = (if k = f then (k, v) :: r else (k, x) :: putF f v r) from rfl]
    by_cases hk : k = f
    · rw [if_pos hk, List.length_cons, List.length_cons]; omega
    · rw [if_neg hk, List.length_cons, List.length_cons]; omega

theorem RelO.some_of {v : V} {o : Option Value} (r : RelO (some v) o) : ∃ u, o = some u ∧ RelV v u := by
  cases o with
  | none => exact (show False from r).elim
  | some u => exact ⟨u, rfl, r⟩
theorem RelO.none_of {o : Option Value} (r : RelO none o) : o = none := by
  cases o with
  | none => rfl
  | some u => exact (show False from r).elim
theorem handed_of {v : V} {u : Value} (r : RelV v u) : PySem.W.handedIn u = true := by
  cases v with
  | non => cases (show u = Value.none from r); rfl
  | bl b => cases (show u = Value.bool b from r); rfl
  | int i => obtain ⟨t, e⟩ := (show ∃ t, u = Value.int i t from r); cases e; rfl
  | str x => obtain ⟨t, e⟩ := (show ∃ t, u = Value.str x t from r); cases e; rfl
  | byt b => obtain ⟨t, e⟩ := (show ∃ t, u = Value.bytes b t from r); cases e; rfl
  | flt b => obtain ⟨t, e⟩ := (show ∃ t, u = Value.float b t from r); cases e; rfl
  | ref a => cases (show u = Value.ref a from r); rfl
  | ty n => cases (show u = Value.type n from r); rfl

section
variable {P : Program} {w : World} {H H' : Hp} {h h' : Heap} {a C dx : Addr} {fs fs' : List (Str × V)}
theorem ins_get (hok : HOk P w H h) (e : H a = some (.ins C dx fs)) : ∃ mA, ObjM h a dx C mA ∧ (∀ f, RelO (fs.lookup f) (mA f)) ∧ PySem.Within mA (fs.map (·.1)) ∧ fs.length ≤ 1000 ∧ H dx = some (.own a) := by
  obtain ⟨d, z, ne, ob, mA, n, r, q⟩ := (show ObjOk P w H h a (.ins C dx fs) from hok a _ e)
  exact ⟨mA, ⟨ob, n, ne⟩, r, q, z, d⟩
end

/-! ### what of the text a class must have -/
structure Cls (K : PySem.W.Frag) (C : Addr) : Prop where
  pg : PySem.W.plainGet K C Str.empty = true
  hd : PySem.W.hasDictIn K C = true
  po : PySem.W.plainOver K C = true
  sa : PySem.W.findIn K (.ref C) "__setattr__" = some (some (.builtin "object.__setattr__"))
theorem Cls.get {K : PySem.W.Frag} {C : Addr} (c : Cls K C) (f : Str) : PySem.W.plainGet K C f = true := c.pg
/-- no class of it has the name -/
def NoAttr (K : PySem.W.Frag) (C : Addr) (f : Str) : Prop := PySem.W.findIn K (.ref C) f = some none
theorem NoAttr.taker {K : PySem.W.Frag} {C : Addr} {f : Str} (n : NoAttr K C f) : PySem.W.takerIn K C f = some none := by
  unfold PySem.W.takerIn
  rw [show PySem.W.findIn K (.ref C) f = some none from n]
  rfl
/-- a constant of the class -/
structure Con (K : PySem.W.Frag) (C : Addr) (f : Str) (v : V) (u : Value) : Prop where
  at_ : PySem.W.findIn K (.ref C) f = some (some u)
  rel : RelV v u
  get : PySem.W.specialIn K u "__get__" = some none
  cp : PySem.W.copiedNames.contains f = false
/-- a method: a plain def of the class or of one above it -/
structure Meth (K : PySem.W.Frag) (C : Addr) (m : Str) (f : Addr) : Prop where
  at_ : PySem.W.findIn K (.ref C) m = some (some (.ref f))
  fn : PySem.W.isFn K (.ref f) = true
  kp : PySem.W.keepIn K (.ref f) = true

section
variable {X : Cx} {pins : List (Addr × Obj)} {σ : St} {H : Hp} {s : Shared} {a C dx : Addr} {fs : List (Str × V)} {f : Str} {v : V} {A : Around} {E : Value → Shared → Prop}

theorem getattr_ok {b : Bool} {Q : Value → Shared → Prop} (I : Inv X pins σ H s) (e : H a = some (.ins C dx fs)) (c : Cls X.K C) (n : NoAttr X.K C f) (l : fs.lookup f = some v)
    (h : ∀ u s', Inv X pins σ H s' → RelV v u → Q u s') : wpAny (model X.prog X.w) A (getAttr (.ref a) f b) Q E s := by
  obtain ⟨mA, O, r, _, _, _⟩ := ins_get I.hok e
  obtain ⟨u, hu, ru⟩ := RelO.some_of (v := v) (o := mA f) (by rw [← l]; exact r f)
  exact get_map I.kIn O (c.get f) c.hd n hu (handed_of ru) (h u _ (I.tok _) ru)

theorem getmeth_ok {m : Str} {g : Addr} {pl : Sem Bool} {Q : Value × List Value → Shared → Prop} (I : Inv X pins σ H s) (e : H a = some (.ins C dx fs)) (c : Cls X.K C) (k : Meth X.K C m g) (l : fs.lookup m = none)
    (h : Q (.ref g, [.ref a]) s) : wpAny (model X.prog X.w) A (getMethod (.ref a) m pl) Q E s := by
  obtain ⟨mA, O, r, _, _, _⟩ := ins_get I.hok e
  have hn : mA m = none := RelO.none_of (by rw [← l]; exact r m)
  exact get_meth I.kIn O (c.get m) k.at_ k.fn hn h

theorem setattr_ok {y : V} {u : Value} {Q : Unit → Shared → Prop} (I : Inv X pins σ H s) (e : H a = some (.ins C dx fs)) (c : Cls X.K C) (n : NoAttr X.K C f) (hl : fs.length < 1000) (ry : RelV y u)
    (h : ∀ s', Inv X pins σ (upd H a (.ins C dx (putF f y fs))) s' → Q () s') : wpAny (model X.prog X.w) A (setAttr (.ref a) f u) Q E s := by
  obtain ⟨mA, O, r, wi, _, ho⟩ := ins_get I.hok e
  have hz : (fs.map (·.1)).length ≤ sizeLine := by rw [List.length_map, sizeLine_eq]; omega
  refine set_map I.kIn O c.sa c.po n.taker c.hd wi hz fun h' O' sb => h _ ?_
  have hd : ∃ o, h'.get? dx = some o := let ⟨o, _, _, e', _⟩ := O'.ns; ⟨o, e'⟩
  refine I.write (x := a) (e := dx) (by rw [e]; exact True.intro) (.inr ho) (fun b q hb z => (sb.2 b hb).trans z) hd ?_
  refine ⟨by rw [upd_ne O.ne]; exact ho, ?_, O.ne, O'.obj, _, O'.ns, fun g => ?_, fun g hg => ?_⟩
  · have := length_putF f y fs; omega
  · show RelO ((putF f y fs).lookup g) (if g = f then some u else mA g)
    rw [lookup_putF]
    by_cases q : g = f
    · rw [if_pos q, if_pos q]; exact ry
    · rw [if_neg q, if_neg q]; exact r g
  · by_cases q : g = f
    · rw [q]; exact (keys_putF f y fs).1
    · refine (keys_putF f y fs).2 g (wi g fun z => hg ?_)
      show (if g = f then some u else mA g) = none
      rw [if_neg q]; exact z

/-- a new instance, tracked, without attributes -/
theorem Inv.made (I : Inv X pins σ H s) : Inv X pins σ (upd (upd H s.heap.objs.size (.own (s.heap.objs.size + 1))) (s.heap.objs.size + 1) (.ins C s.heap.objs.size []))
    { s with heap := (s.heap.push PySem.W.emptyDict).push (PySem.W.instObj C s.heap.objs.size) } := by
  have e1 : (s.heap.push PySem.W.emptyDict).get? s.heap.objs.size = some PySem.W.emptyDict := Heap.get?_push_size s.heap rfl
  have e2 : ((s.heap.push PySem.W.emptyDict).push (PySem.W.instObj C s.heap.objs.size)).get? (s.heap.objs.size + 1) = some (PySem.W.instObj C s.heap.objs.size) := by
    have := Heap.get?_push_size (s.heap.push PySem.W.emptyDict) (o := PySem.W.instObj C s.heap.objs.size) rfl
    rwa [Heap.size_push] at this
  have e3 : (s.heap.push PySem.W.emptyDict).Ns s.heap.objs.size (fun _ => none) := ⟨PySem.W.emptyDict, #[], _, e1, rfl, (fun e he => absurd he (by simp)), fun _ => rfl⟩
  have I1 := I.laid (a := s.heap.objs.size) (o := .own (s.heap.objs.size + 1)) (h' := s.heap.push PySem.W.emptyDict) (t' := s.toks) (fun b u q => Heap.get?_push_of_some _ q) (Nat.le_refl _) ⟨_, e1⟩
  refine I1.laid (a := s.heap.objs.size + 1) (o := .ins C s.heap.objs.size []) (t' := s.toks) (fun b u q => Heap.get?_push_of_some _ q) (Nat.le_of_eq (Heap.size_push _ _)) ?_
  have ne : s.heap.objs.size ≠ s.heap.objs.size + 1 := Nat.ne_of_lt (Nat.lt_succ_self _)
  refine ⟨by rw [upd_ne ne, upd_same], Nat.zero_le _, ne, e2, fun _ => none, (Heap.Ns1.of_empty e3).at fun o q => Heap.get?_push_of_some _ q, fun _ => True.intro, fun y hy => absurd rfl hy⟩

/-- e.f where nothing but the object is asked: through attributeBase (super) and the last hold -/
theorem attr_of {prog : Program} {w : World} {env : Env} {e : Expr} {f : Str} {pos : Pos} {s : Shared} {Q : Value → Shared → Prop} (hb : attributeBase e f env (eval e env) = eval e env)
    (h : wpAny (model prog w) A (eval e env) (fun o s₁ => wpAny (model prog w) A (getAttr o f true) Q E s₁) E s) : wpAny (model prog w) A (eval (.Attribute e f pos) env) Q E s :=
  Attribute_any_ h (by rw [arm_eval_Attribute, hb])
end

/-! ### readings and rules -/
/-- e.f, an attribute of the instance -/
def tFld (K : PySem.W.Frag) (ta : TE) (f : Str) : TE := fun σ H Q => ta σ H fun x H1 => ∃ a C dx fs v, x = .ref a ∧ H1 a = some (.ins C dx fs) ∧ Cls K C ∧ NoAttr K C f ∧ fs.lookup f = some v ∧ Q v H1
/-- e.f, a constant of the class -/
def tCon (K : PySem.W.Frag) (ta : TE) (f : Str) : TE := fun σ H Q => ta σ H fun x H1 => ∃ a C dx fs v u, x = .ref a ∧ H1 a = some (.ins C dx fs) ∧ Cls K C ∧ Con K C f v u ∧ fs.lookup f = none ∧ Q v H1
/-- e.f = value -/
def sFld (K : PySem.W.Frag) (ta tv : TE) (f : Str) : TS := fun D σ H => tv σ H fun y H1 => ta σ H1 fun x H2 => ∃ a C dx fs, x = .ref a ∧ H2 a = some (.ins C dx fs) ∧ Cls K C ∧ NoAttr K C f ∧ fs.length < 1000 ∧
  D.nx σ (upd H2 a (.ins C dx (putF f y fs)))
/-- an augmented operator on two values -/
def InOp (X : Cx) (op : Operator) (rd : V → V → Hp → VK → Prop) : Prop :=
  ∀ (pins : List (Addr × Obj)) (s : Shared) (σ : St) (H : Hp) (x y : V) (u v : Value) (Q : VK), Inv X pins σ H s → RelV x u → RelV y v → rd x y H Q → wpAny (model X.prog X.w) X.A (inplaceOp op u v) (EP X pins σ Q) X.xe s
/-- e.f op= value -/
def sFldAug (K : PySem.W.Frag) (ta tv : TE) (rd : V → V → Hp → VK → Prop) (f : Str) : TS := fun D σ H => ta σ H fun x H1 => ∃ a C dx fs v, x = .ref a ∧ H1 a = some (.ins C dx fs) ∧ Cls K C ∧ NoAttr K C f ∧ fs.lookup f = some v ∧
  tv σ H1 fun y H2 => rd v y H2 fun z H3 => ∃ dx' fs', H3 a = some (.ins C dx' fs') ∧ fs'.length < 1000 ∧ D.nx σ (upd H3 a (.ins C dx' (putF f z fs')))

section
variable {X : Cx} {o e value : Expr} {f : Str} {pos pos' tpos : Pos} {ta tv : TE}
theorem pe_fld (he : PE X e ta) (hb : attributeBase e f X.env (eval e X.env) = eval e X.env) : PE X (.Attribute e f pos) (tFld X.K ta f) := by
  intro pins s σ H Q I h
  refine attr_of hb (thn (he pins s σ H _ I h) fun u s1 ⟨x, H1, I1, rx, a, C, dx, fs, v, ex, ea, c, n, l, q⟩ => ?_)
  subst ex
  obtain rfl : u = Value.ref a := rx
  exact getattr_ok I1 ea c n l fun u' s2 I2 ru => ⟨v, H1, I2, ru, q⟩
theorem ps_fld (ha : PE X o ta) (hv : PE X value tv) (hs : swapsWith value (some (.Attribute o f pos')) pos.line X.env = pure false) : PS X (.Assign [.Attribute o f pos'] value pos) (sFld X.K ta tv f) := by
  intro pins s σ H D I h
  refine plainObj_wpAny_Assign_Attribute (thn (hv pins s σ H _ I h) fun u s1 ⟨y, H1, I1, ry, q⟩ => thn (ha pins s1 σ H1 _ I1 q) fun ov s2 ⟨x, H2, I2, rx, a, C, dx, fs, ex, ea, c, n, l, q2⟩ => ?_) hs
  subst ex
  obtain rfl : ov = Value.ref a := rx
  exact setattr_ok I2 ea c n l ry fun s3 I3 => ⟨σ, _, I3, q2⟩
def rAdd : V → V → Hp → VK → Prop := fun x y H Q => ∃ i j, x = .int i ∧ y = .int j ∧ Q (.int (i + j)) H
def rSub : V → V → Hp → VK → Prop := fun x y H Q => ∃ i j, x = .int i ∧ y = .int j ∧ Q (.int (i - j)) H
end

/-! ### isinstance -/
section
variable {X : Cx} {pins : List (Addr × Obj)} {σ : St} {H : Hp} {s : Shared} {A : Around} {E : Value → Shared → Prop} {Q : Value → Shared → Prop} {c : Value} {b : Bool}
/-- the type of a value, as the fragment's deciders take it; for an instance its class -/
inductive TyOf (K : PySem.W.Frag) (H : Hp) : V → Value → Prop where
  | non : TyOf K H .non (.type "NoneType")
  | bl (x : Bool) : TyOf K H (.bl x) (.type "bool")
  | int (i : Int) : TyOf K H (.int i) (.type "int")
  | str (x : Str) : TyOf K H (.str x) (.type "str")
  | flt (x : UInt64) : TyOf K H (.flt x) (.type "float")
  | lst {a : Addr} {xs : List V} (e : H a = some (.lst xs)) : TyOf K H (.ref a) (.type "list")
  | frz {a : Addr} {o : Obj} {xs : List V} (e : H a = some (.frz o (.lst xs))) : TyOf K H (.ref a) (.type "list")
  | tup {a : Addr} {xs : List V} (e : H a = some (.tup xs)) : TyOf K H (.ref a) (.type "tuple")
  | dK {a : Addr} {kvs : List (Key × V)} (e : H a = some (.dK kvs)) : TyOf K H (.ref a) (.type "dict")
  | dT {a : Addr} {kvs : List (List Key × V)} (e : H a = some (.dT kvs)) : TyOf K H (.ref a) (.type "dict")
  | ins {a C dx : Addr} {fs : List (Str × V)} (e : H a = some (.ins C dx fs)) (cl : Cls K C) (ha : PySem.W.findIn K (.ref C) "__class__" = some (some (.builtin "object.__class__")))
      (hn : PySem.W.specialIn K (.builtin "object.__class__") "__get__" = some (some (.builtin "getset_descriptor.__get__"))) (htk : PySem.W.takesIn K (.builtin "object.__class__") = some true)
      (hm : PySem.W.mroIn K C (.type "object") = some true) : TyOf K H (.ref a) (.ref C)
end
end L2

namespace L2
open PySem PySem.Spec PyProof.Rows

/-! ### room -/
structure Room (k : Nat) (A : Around) : Prop where
  hd : A.handled = none
  dp : A.depth + 3 * k + 5 < recursionLimit
  un : A.units + 16 * k + 200 < cLine
theorem Room.mono {j k : Nat} {A : Around} (r : Room k A) (h : j ≤ k) : Room j A := ⟨r.hd, by have := r.dp; omega, by have := r.un; omega⟩
theorem Room.deeper {k : Nat} {A : Around} (r : Room (k + 1) A) (env : Env) : Room k (A.deeper env) :=
  ⟨r.hd, by have := r.dp; show A.depth + 1 + 3 * k + 5 < _; omega, by have := r.un; show A.units + 3 + 16 * k + 200 < _; omega⟩
theorem Room.in1 {k : Nat} {A : Around} (r : Room (k + 1) A) : Room k A.in1 :=
  ⟨r.hd, by have := r.dp; show A.depth + 3 * k + 5 < _; omega, by have := r.un; show A.units + 1 + 16 * k + 200 < _; omega⟩
theorem make_depth {A : Around} {C : Addr} {us : List Value} {kw : List (Str × Value)} : (A.under (.builtin "type.__call__" ⟨.ref C :: us, kw⟩)).depth = A.depth + 1 := by
  first | rfl | simp [Around.under, Code.weight, Code.isCreation, Code.isGuard, Code.isCaller, Code.frames, Code.isFrame, guardIds]
theorem make_units {A : Around} {C : Addr} {us : List Value} {kw : List (Str × Value)} : (A.under (.builtin "type.__call__" ⟨.ref C :: us, kw⟩)).units = A.units + 1 := by
  first | rfl | simp [Around.under, Code.cUnits, Code.frames, Code.isFrame]
theorem Room.make {k : Nat} {A : Around} (r : Room (k + 1) A) (C : Addr) (us : List Value) (kw : List (Str × Value)) : Room k (A.under (.builtin "type.__call__" ⟨.ref C :: us, kw⟩)) :=
  ⟨r.hd, by have := r.dp; rw [make_depth]; omega, by have := r.un; rw [make_units]; omega⟩
theorem Room.depth {k : Nat} {A : Around} (r : Room k A) : A.depth < recursionLimit := by have := r.dp; omega
theorem Room.units {k : Nat} {A : Around} (r : Room k A) : A.units + 64 < cLine := by have := r.un; omega
/-! ### argument lists and displays -/
def tNil : TA := fun _ H Q => Q [] H
def tCons (ta : TE) (tr : TA) : TA := fun σ H Q => ta σ H fun x H1 => tr σ H1 fun xs H2 => Q (x :: xs) H2
section
variable {X : Cx} {e : Expr} {es : List Expr} {te : TE} {t : TA} {pos : Pos}
theorem pa_nil : PA X [] tNil := fun _ _ _ _ H Q I h => Calls.spliced_nil ⟨[], H, I, .nil, h⟩
theorem pa_cons (ha : PE X e te) (hr : PA X es t) (hs : starEach (e :: es) X.env = (false, eval e X.env) :: starEach es X.env := by rfl) : PA X (e :: es) (tCons te t) := by
  intro pos pins s σ H Q I h
  rw [hs]
  show wpAny _ _ (spliced ((false, eval e X.env) :: backTo pos (starEach es X.env))) _ _ s
  refine Calls.spliced_cons (thn (ha pins s σ H _ I h) fun u s1 ⟨x, H1, I1, r1, q1⟩ => ?_)
  exact thn (hr pos pins s1 σ H1 _ I1 q1) fun us s2 ⟨xs, H2, I2, r2, q2⟩ => ⟨x :: xs, H2, I2, .cons r1 r2, q2⟩

/-- a tuple, a list of written items -/
def tTup (t : TA) : TE := fun σ H Q => t σ H fun xs H1 => xs.length ≤ sizeLine ∧ ∀ p, H1 p = none → Q (.ref p) (upd H1 p (.tup xs))
def tLst (t : TA) : TE := fun σ H Q => t σ H fun xs H1 => xs.length ≤ sizeLine ∧ ∀ p, H1 p = none → Q (.ref p) (upd H1 p (.lst xs))
theorem pe_tup {x1} (h : PA X es t) : PE X (.Tuple es x1 pos) (tTup t) := by
  intro pins s σ H Q I hq
  refine wpAny_Tuple_spliced (thn (h pos pins s σ H _ I hq) fun us s1 ⟨xs, H1, I1, r, z, q⟩ => ⟨by rw [← r.length]; exact z, ?_⟩)
  have hf : H1 s1.heap.objs.size = none := I1.hok.fresh (Nat.le_refl _)
  refine ⟨.ref s1.heap.objs.size, upd H1 s1.heap.objs.size (.tup xs), I1.laid (t' := s1.toks) (fun b u e => Heap.get?_push_of_some _ e) (Nat.le_refl _) ?_, rfl, q _ hf⟩
  exact ⟨z, us, r, ⟨_, Heap.get?_push_size _ rfl, rfl, _, rfl⟩⟩
theorem pe_lst (h : PA X es t) : PE X (.List es pos) (tLst t) := by
  intro pins s σ H Q I hq
  refine wpAny_List_spliced (thn (h pos pins s σ H _ I hq) fun us s1 ⟨xs, H1, I1, r, z, q⟩ => ⟨by rw [← r.length]; exact z, ?_⟩)
  have hf : H1 s1.heap.objs.size = none := I1.hok.fresh (Nat.le_refl _)
  refine ⟨.ref s1.heap.objs.size, upd H1 s1.heap.objs.size (.lst xs), I1.laid (t' := s1.toks) (fun b u e => Heap.get?_push_of_some _ e) (Nat.le_refl _) ?_, rfl, q _ hf⟩
  exact ⟨z, us, 0, r, Heap.get?_push_size _ rfl⟩
end

/-! ### what a def promises -/
/-- a def's promise: the bound arguments in the parameters' order, the heap, the wanted end, the wanted exception -/
abbrev Sp := List V → Hp → VK → XK → Prop
/-- how an exception lies behind a call (file 08 gives it): the callers' frames, abstract heap and state ahead of the call, the wish, the exception, the state -/
abbrev CXT := List Env → Hp → Shared → XK → Value → Shared → Prop

/-- the state at a call -/
structure Env0 (P : Program) (w : World) (K : PySem.W.Frag) (mg : Str → Option Value) (base : Heap) (A : Around) (outer : List Env) (s : Shared) (H : Hp) : Prop where
  frames : A.frames = some outer
  mod : Mod K mg base
  bs : ∀ b o, base.get? b = some o → s.heap.get? b = some o ∧ H b = none
  bsz : base.objs.size ≤ s.heap.objs.size
  funs : s.heap.FunFrames base outer
  frf : ∀ b ∈ frs outer, H b = none
  hok : HOk P w H s.heap
  bare : AllBare s.gens
/-- a call's end -/
def CE (outer : List Env) (P : Program) (w : World) (H : Hp) (s : Shared) (Q : VK) (u : Value) (s' : Shared) : Prop :=
  ∃ v H', s'.os = s.os ∧ AllBare s'.gens ∧ Un (frs outer) [] H H' s.heap s'.heap ∧ HOk P w H' s'.heap ∧ RelV v u ∧ Q v H'
def CR (CX : CXT) (outer : List Env) (P : Program) (w : World) (H : Hp) (s : Shared) (Q : VK) (E : XK) (r : Result) (s' : Shared) : Prop :=
  match r with
  | .ok (.ret u) => CE outer P w H s Q u s'
  | .ok _ => False
  | .error e => CX outer H s E e s'
structure FnOk (P : Program) (w : World) (K : PySem.W.Frag) (mg : Str → Option Value) (base : Heap) (CX : CXT) (k : Nat) (f : Addr) (fd : FuncData) (ps : List Str) (sp : Sp) : Prop where
  len : ∀ vs H Q E, sp vs H Q E → vs.length = ps.length
  run : ∀ (A : Around) (outer : List Env) (s : Shared) (H : Hp) (args : Args) (us : List Value) (vs : List V) (Q : VK) (E : XK), Room k A → Env0 P w K mg base A outer s H → BindsTo s fd args (ps.zip us) → Vals vs us → sp vs H Q E →
    codeAny (model P w) A (.call (.ref f) args) (CR CX outer P w H s Q E) s
theorem FnOk.mono {P : Program} {w : World} {K : PySem.W.Frag} {mg : Str → Option Value} {base : Heap} {CX : CXT} {j k : Nat} {f : Addr} {fd : FuncData} {ps : List Str} {sp : Sp} (F : FnOk P w K mg base CX j f fd ps sp) (h : j ≤ k) :
    FnOk P w K mg base CX k f fd ps sp := ⟨F.len, fun A outer s H args us vs Q E hr => F.run A outer s H args us vs Q E (hr.mono h)⟩
/-- a weaker promise -/
theorem FnOk.imp {P : Program} {w : World} {K : PySem.W.Frag} {mg : Str → Option Value} {base : Heap} {CX : CXT} {k : Nat} {f : Addr} {fd : FuncData} {ps : List Str} {sp sp' : Sp} (F : FnOk P w K mg base CX k f fd ps sp)
    (h : ∀ vs H Q E, sp' vs H Q E → sp vs H Q E) : FnOk P w K mg base CX k f fd ps sp' :=
  ⟨fun vs H Q E q => F.len vs H Q E (h _ _ _ _ q), fun A outer s H args us vs Q E hr he hb hv hs => F.run A outer s H args us vs Q E hr he hb hv (h _ _ _ _ hs)⟩

theorem Env0.make {P : Program} {w : World} {K : PySem.W.Frag} {mg : Str → Option Value} {base : Heap} {A : Around} {outer : List Env} {s : Shared} {H : Hp} (e : Env0 P w K mg base A outer s H) (C : Addr) (us : List Value) (kw : List (Str × Value)) :
    Env0 P w K mg base (A.under (.builtin "type.__call__" ⟨.ref C :: us, kw⟩)) outer s H := ⟨by first | exact e.frames | (simpa [Around.under, Code.envs, Code.isFrame, pushEnvs] using e.frames), e.mod, e.bs, e.bsz, e.funs, e.frf, e.hok, e.bare⟩
theorem Env0.in1 {P : Program} {w : World} {K : PySem.W.Frag} {mg : Str → Option Value} {base : Heap} {A : Around} {outer : List Env} {s : Shared} {H : Hp} (e : Env0 P w K mg base A outer s H) :
    Env0 P w K mg base A.in1 outer s H := ⟨e.frames, e.mod, e.bs, e.bsz, e.funs, e.frf, e.hok, e.bare⟩

section
variable {X : Cx} {pins : List (Addr × Obj)} {σ : St} {H : Hp} {s s' : Shared}
/-- from a body: what a callee wants -/
theorem Inv.env0 (I : Inv X pins σ H s) : Env0 X.prog X.w X.K X.mg X.base X.A X.stack s H :=
  ⟨I.ok.frames, I.ok.mod, I.bs, Nat.le_trans I.ok.bsz I.sz, I.stack, I.stkFree, I.hok, I.bare⟩
/-- behind a call -/
theorem Inv.after {Q : VK} {u : Value} (I : Inv X pins σ H s) (h : CE X.stack X.prog X.w H s Q u s') : EP X pins σ Q u s' := by
  obtain ⟨v, H', os, bare, un, hok, r, q⟩ := h
  obtain ⟨hh, g, d, t, os'⟩ := s'
  obtain rfl : os' = s.os := os
  exact ⟨v, H', I.call (h' := hh) (g' := g) (d' := d) (t' := t) (ch := []) un hok bare (fun b z => absurd z (by simp)), r, q⟩
end

/-! ### calls -/
/-- f(..): the written arguments, then the defaults dvs; E: what is wanted of an exception -/
def tCall (sp : Sp) (dvs : List V) (E : XK) (t : TA) : TE := fun σ H Q => t σ H fun vs H1 => sp (vs ++ dvs) H1 Q E
/-- o.m(..) of an instance of the class at C -/
def tMeth (C : Addr) (m : Str) (sp : Sp) (dvs : List V) (E : XK) (ta : TE) (t : TA) : TE := fun σ H Q => ta σ H fun x H1 => ∃ a dx fs, x = .ref a ∧ H1 a = some (.ins C dx fs) ∧ fs.lookup m = none ∧
  t σ H1 fun vs H2 => sp (x :: (vs ++ dvs)) H2 Q E
/-- C(..): a new instance and its dict, then __init__ -/
def tMake (C : Addr) (sp : Sp) (dvs : List V) (E : XK) (t : TA) : TE := fun σ H Q => t σ H fun vs H1 => ∀ x dx, H1 x = none → H1 dx = none → dx ≠ x →
  sp (.ref x :: (vs ++ dvs)) (upd (upd H1 dx (.own x)) x (.ins C dx [])) (fun v H2 => v = .non ∧ Q (.ref x) H2) E

/-- how the parameters are bound: us the positional arguments, kw the keywords' values by name, ds the defaults that fill up -/
def Binds (K : PySem.W.Frag) (fd : FuncData) (ps : List Str) (ds : List Value) : Prop :=
  ∀ (s : Shared) (us : List Value), K.In s.heap → (us ++ ds).length = ps.length → BindsTo s fd ⟨us, []⟩ (ps.zip (us ++ ds))
/-- every parameter is given -/
theorem Binds.all {K : PySem.W.Frag} {fd : FuncData} {ps : List Str} (h : ∀ us : List Value, us.length = ps.length → bindArgs fd ⟨us, []⟩ = pure (ps.zip us)) : Binds K fd ps [] := fun s us _ hl => by
  rw [List.append_nil] at hl ⊢
  exact .of_eq (h us hl)

/-- an exception of a callee reaches what this body wants of exceptions -/
def Passes (CX : CXT) (X : Cx) (E : XK) : Prop := ∀ (pins : List (Addr × Obj)) (σ : St) (H : Hp) (s : Shared) (e : Value) (s' : Shared), Inv X pins σ H s → CX X.stack H s E e s' → X.xe e s'

section
variable {X : Cx} {CX : CXT} {k : Nat} {f C : Addr} {fd : FuncData} {ps : List Str} {sp : Sp} {dvs : List V} {ds : List Value} {E : XK} {x m : Str} {p pos apos : Pos} {e o : Expr} {es : List Expr} {ta : TE} {t : TA}

/-- the callee runs -/
theorem run_fn {pins : List (Addr × Obj)} {σ : St} {H : Hp} {s : Shared} {Q : VK} {us : List Value} {vs : List V} (F : FnOk X.prog X.w X.K X.mg X.base CX k f fd ps sp) (hr : Room k X.A) (hb : Binds X.K fd ps ds) (hd : Vals dvs ds) (hx : Passes CX X E)
    (I : Inv X pins σ H s) (r : Vals vs us) (h : sp (vs ++ dvs) H Q E) : wpAny (model X.prog X.w) X.A (call (.ref f) us) (EP X pins σ Q) X.xe s := by
  have r2 : Vals (vs ++ dvs) (us ++ ds) := r.append hd
  have hl : (us ++ ds).length = ps.length := by rw [← r2.length]; exact F.len _ _ _ _ h
  refine wpAny_call (codeAny_mono (F.run X.A X.stack s H ⟨us, []⟩ (us ++ ds) (vs ++ dvs) Q E hr I.env0 (hb s us I.kIn hl) r2 h) fun r s' hq => ?_)
  cases r with
  | error e => exact hx pins σ H s e s' I hq
  | ok fl =>
    cases fl with
    | ret u => exact I.after hq
    | next => exact False.elim hq
    | brk => exact False.elim hq
    | cont => exact False.elim hq

theorem pe_call (F : FnOk X.prog X.w X.K X.mg X.base CX k f fd ps sp) (hr : Room k X.A) (hg : Gl X x) (hm : X.mg x = some (.ref f)) (hk : PySem.W.keepIn X.K (.ref f) = true) (hb : Binds X.K fd ps ds) (hd : Vals dvs ds) (hx : Passes CX X E)
    (ha : PA X (e :: es) t) (hdb : (x == ("__debug__" : Str)) = false := by decide) (he : starEach (e :: es) X.env = (false, eval e X.env) :: starEach es X.env := by rfl) (hpl : (backTo pos (starEach es X.env)).any (·.1) = false := by rfl) :
    PE X (.Call (.Name x p) (e :: es) [] pos) (tCall sp dvs E t) := by
  intro pins s σ H Q I h
  refine wpAny_Call_Name_kw (ld_glob I hg hm ?_ hdb)
  refine PySem.W.callWith_K (h₀ := X.base) I.ok.mod.kin hk (thn (ha pos pins s σ H _ I h) fun us s1 ⟨vs, H1, I1, r, q⟩ => ⟨I1.kIn, ?_⟩) he hpl
  exact run_fn F hr hb hd hx I1 r q
/-- o.m(e, ..) -/
theorem pe_meth {pl : Sem Bool} (he : PE X o ta) (c : Cls X.K C) (hm : Meth X.K C m f) (F : FnOk X.prog X.w X.K X.mg X.base CX k f fd ps sp) (hr : Room k X.A) (hb : Binds X.K fd ps ds) (hd : Vals dvs ds) (hx : Passes CX X E) (ha : PA X (e :: es) t)
    (hst : starEach (e :: es) X.env = (false, eval e X.env) :: starEach es X.env := by rfl) (hpl : (backTo pos (starEach es X.env)).any (·.1) = false := by rfl)
    (ht : eval (.Call (.Attribute o m apos) (e :: es) [] pos) X.env = (do
      let ov ← eval o X.env
      standAt apos.atName
      let (f, first) ← holding [ov] (getMethod ov m pl)
      callWith pos f first (backTo pos (starEach (e :: es) X.env)) (backToKw pos (keywordEach [] X.env))) := by rfl) :
    PE X (.Call (.Attribute o m apos) (e :: es) [] pos) (tMeth C m sp dvs E ta t) := by
  intro pins s σ H Q I h
  refine PySem.W.methodCall_KW (pl := pl) (thn (he pins s σ H _ I h) fun u s1 ⟨x, H1, I1, rx, a, dx, fs, ex, ea, l, q⟩ => ?_) ht
  subst ex
  obtain rfl : u = Value.ref a := rx
  refine getmeth_ok I1 ea c hm l ?_
  refine PySem.W.callWith_K (first := [.ref a]) (h₀ := X.base) I.ok.mod.kin hm.kp (thn (ha pos pins s1 σ H1 _ I1 q) fun us s2 ⟨vs, H2, I2, r, q2⟩ => ⟨I2.kIn, ?_⟩) hst hpl
  exact run_fn (us := .ref a :: us) (vs := .ref a :: vs) F hr hb hd hx I2 (.cons rfl r) q2
/-- what a class must have to be made -/
structure Mk (K : PySem.W.Frag) (C f : Addr) : Prop where
  makes : PySem.W.makesIn K C = true
  init : PySem.W.findIn K (.ref C) "__init__" = some (some (.ref f))
  fn : PySem.W.isFn K (.ref f) = true
  kp : PySem.W.keepIn K (.ref C) = true

theorem run_make {pins : List (Addr × Obj)} {σ : St} {H : Hp} {s : Shared} {Q : VK} {us : List Value} {vs : List V} (M : Mk X.K C f) (F : FnOk X.prog X.w X.K X.mg X.base CX k f fd ps sp) (hr : Room (k + 1) X.A) (hb : Binds X.K fd ps ds) (hd : Vals dvs ds)
    (hx : Passes CX X E) (I : Inv X pins σ H s) (r : Vals vs us)
    (h : ∀ x dx, H x = none → H dx = none → dx ≠ x → sp (.ref x :: (vs ++ dvs)) (upd (upd H dx (.own x)) x (.ins C dx [])) (fun v H2 => v = .non ∧ Q (.ref x) H2) E) :
    wpAny (model X.prog X.w) X.A (call (.ref C) us) (EP X pins σ Q) X.xe s := by
  have hq := h (s.heap.objs.size + 1) s.heap.objs.size (I.hok.fresh (Nat.le_succ _)) (I.hok.fresh (Nat.le_refl _)) (Nat.ne_of_lt (Nat.lt_succ_self _))
  have I2 := Inv.made (C := C) I
  have r2 : Vals (V.ref (s.heap.objs.size + 1) :: (vs ++ dvs)) (Value.ref (s.heap.objs.size + 1) :: (us ++ ds)) := .cons rfl (r.append hd)
  have hl : (Value.ref (s.heap.objs.size + 1) :: us ++ ds).length = ps.length := by
    have e := r2.length
    rw [F.len _ _ _ _ hq] at e
    exact e.symm
  refine wpAny_call (make_map (f := f) I.kIn M.makes M.init (beq_iff_eq.mp M.fn) (codeAny_mono (F.run _ X.stack _ _ ⟨Value.ref (s.heap.objs.size + 1) :: us, []⟩ (Value.ref (s.heap.objs.size + 1) :: (us ++ ds)) _ _ E (hr.make C us [])
    (I2.env0.make C us []) (hb _ (Value.ref (s.heap.objs.size + 1) :: us) I2.kIn hl) r2 hq) fun r s' hq' => ?_))
  cases r with
  | error e => exact hx pins σ _ _ e s' I2 hq'
  | ok fl =>
    cases fl with
    | ret u =>
      obtain ⟨v, H', I3, rv, ev, q3⟩ := I2.after hq'
      subst ev
      exact ⟨rv, ⟨V.ref (s.heap.objs.size + 1), H', I3, rfl, q3⟩⟩
    | next => exact False.elim hq'
    | brk => exact False.elim hq'
    | cont => exact False.elim hq'
theorem pe_make (M : Mk X.K C f) (F : FnOk X.prog X.w X.K X.mg X.base CX k f fd ps sp) (hr : Room (k + 1) X.A) (hg : Gl X x) (hm : X.mg x = some (.ref C)) (hb : Binds X.K fd ps ds) (hd : Vals dvs ds) (hx : Passes CX X E)
    (ha : PA X (e :: es) t) (hdb : (x == ("__debug__" : Str)) = false := by decide) (he : starEach (e :: es) X.env = (false, eval e X.env) :: starEach es X.env := by rfl) (hpl : (backTo pos (starEach es X.env)).any (·.1) = false := by rfl) :
    PE X (.Call (.Name x p) (e :: es) [] pos) (tMake C sp dvs E t) := by
  intro pins s σ H Q I h
  refine wpAny_Call_Name_kw (ld_glob I hg hm ?_ hdb)
  refine PySem.W.callWith_K (h₀ := X.base) I.ok.mod.kin M.kp (thn (ha pos pins s σ H _ I h) fun us s1 ⟨vs, H1, I1, r, q⟩ => ⟨I1.kIn, ?_⟩) he hpl
  exact run_make M F hr hb hd hx I1 r q
end

/-! ### keywords -/
/-- the values of the keywords, from the left -/
def PK (X : Cx) (kws : List Keyword) (t : TA) : Prop :=
  ∀ (pos : Pos) (pins : List (Addr × Obj)) (s : Shared) (σ : St) (H : Hp) (Q : List V → Hp → Prop), Inv X pins σ H s → t σ H Q → wpAny (model X.prog X.w) X.A (evalAll ((backToKw pos (keywordEach kws X.env)).map (·.2))) (AP X pins σ Q) X.xe s
section
variable {X : Cx} {CX : CXT} {k : Nat} {f C : Addr} {fd : FuncData} {ps ks : List Str} {sp : Sp} {E : XK} {x m : Str} {p pos apos kpos : Pos} {e o : Expr} {es : List Expr} {kws : List Keyword} {te ta : TE} {t tk : TA} {nm : Option Str}
/-- how a call with keywords binds: g puts the positional values us and the keywords' values ws (names ks) in the parameters' order, defaults among them -/
structure KBinds (K : PySem.W.Frag) (fd : FuncData) (ps ks : List Str) (g : List Value → List Value → List Value) (gV : List V → List V → List V) : Prop where
  to : ∀ (s : Shared) (us ws : List Value), K.In s.heap → (g us ws).length = ps.length → BindsTo s fd ⟨us, ks.zip ws⟩ (ps.zip (g us ws))
  rel : ∀ {vs : List V} {us : List Value} {zs : List V} {ws : List Value}, Vals vs us → Vals zs ws → Vals (gV vs zs) (g us ws)
def tCallK (sp : Sp) (gV : List V → List V → List V) (E : XK) (t tk : TA) : TE := fun σ H Q => t σ H fun vs H1 => tk σ H1 fun zs H2 => sp (gV vs zs) H2 Q E
variable {g : List Value → List Value → List Value} {gV : List V → List V → List V}
end

/-! ### a def's body keeps its promise -/
/-- names: the parameters first -/
structure FnScope (N P : List Str) (sc : Scope) : Prop where
  kind : sc.kind = .function
  co : sc.isCoroutine = false
  gen : sc.isGenerator = false
  nd : N.Nodup
  pre : N.take P.length = P
  par : ∀ x ∈ P, sc.names.lookup x = some .local ∨ sc.names.lookup x = some .cell
  nofree : ∀ y ∈ sc.names, y.2 ≠ .free

theorem bindL_out {kindOf : Str → Option NameKind} {x : Str} : ∀ {binds : List (Str × Value)} {m : Str → Option Value}, (∀ v, (x, v) ∉ binds) → bindL kindOf binds m x = m x
  | [], _, _ => rfl
  | (n, v) :: r, m, h => by
    unfold bindL
    rw [bindL_out fun w hw => h w (List.mem_cons_of_mem _ hw)]
    split
    · have : x ≠ n := by rintro rfl; exact h v List.mem_cons_self
      simp [this]
    · rfl
theorem bindC_out {kindOf : Str → Option NameKind} {x : Str} : ∀ {binds : List (Str × Value)} {m : Str → Option Value}, (∀ v, (x, v) ∉ binds) → bindC kindOf binds m x = m x
  | [], _, _ => rfl
  | (n, v) :: r, m, h => by
    unfold bindC
    rw [bindC_out fun w hw => h w (List.mem_cons_of_mem _ hw)]
    split
    · rfl
    · have : x ≠ n := by rintro rfl; exact h v List.mem_cons_self
      simp [this]
theorem bindL_get {kindOf : Str → Option NameKind} {x : Str} {v : Value} : ∀ {P : List Str} {vs : List Value} {i : Nat} {m : Str → Option Value}, P.Nodup → P[i]? = some x → vs[i]? = some v → kindOf x = some .local →
    bindL kindOf (P.zip vs) m x = some v
  | [], _, _, _, _, h, _, _ => by simp at h
  | _ :: _, [], _, _, _, _, h, _ => by simp at h
  | p :: P, w :: vs, 0, m, nd, h1, h2, hk => by
    simp at h1 h2; subst h1; subst h2
    show bindL kindOf ((p, w) :: P.zip vs) m p = _
    unfold bindL
    rw [bindL_out fun v hv => (List.nodup_cons.mp nd).1 (List.of_mem_zip hv).1, if_pos hk]
    simp
  | p :: P, w :: vs, i + 1, m, nd, h1, h2, hk => by
    show bindL kindOf ((p, w) :: P.zip vs) m x = _
    unfold bindL
    exact bindL_get (i := i) (List.nodup_cons.mp nd).2 (by simpa using h1) (by simpa using h2) hk
theorem bindC_get {kindOf : Str → Option NameKind} {x : Str} {v : Value} : ∀ {P : List Str} {vs : List Value} {i : Nat} {m : Str → Option Value}, P.Nodup → P[i]? = some x → vs[i]? = some v → kindOf x ≠ some .local →
    bindC kindOf (P.zip vs) m x = some v
  | [], _, _, _, _, h, _, _ => by simp at h
  | _ :: _, [], _, _, _, _, h, _ => by simp at h
  | p :: P, w :: vs, 0, m, nd, h1, h2, hk => by
    simp at h1 h2; subst h1; subst h2
    show bindC kindOf ((p, w) :: P.zip vs) m p = _
    unfold bindC
    rw [bindC_out fun v hv => (List.nodup_cons.mp nd).1 (List.of_mem_zip hv).1, if_neg hk]
    simp
  | p :: P, w :: vs, i + 1, m, nd, h1, h2, hk => by
    show bindC kindOf ((p, w) :: P.zip vs) m x = _
    unfold bindC
    exact bindC_get (i := i) (List.nodup_cons.mp nd).2 (by simpa using h1) (by simpa using h2) hk

/-- the names' values at the entry -/
def start (N : List Str) (vs : List V) : St := vs.map some ++ List.replicate (N.length - vs.length) none

/-- the context of a def's body, at its entry; an exception leaves the frame, then lies as CX says -/
def cxOf (CX : CXT) (P : Program) (w : World) (K : PySem.W.Frag) (mg : Str → Option Value) (base : Heap) (N : List Str) (qual : Str) (scope : Scope) (f : Addr) (cd : Value) (A : Around) (outer : List Env) (s : Shared) (H : Hp) (E : XK) : Cx where
  prog := P
  w := w
  K := K
  mg := mg
  base := base
  A := A.deeper (envOfC qual scope s.heap.objs.size f cd)
  N := N
  s_0 := s
  H_0 := H
  env := envOfC qual scope s.heap.objs.size f cd
  outer := outer
  stack := envOfC qual scope s.heap.objs.size f cd :: outer
  ex := []
  calm := true
  fn := fun _ => true
  pn := []
  xe := fun e s' => wpAny (model P w) (A.deeper (envOfC qual scope s.heap.objs.size f cd)) (leaving (envOfC qual scope s.heap.objs.size f cd) e) (fun _ s'' => CX outer H s E e s'') (fun e' s'' => CX outer H s E e' s'') s'

theorem cell_has {sc : Scope} {n : Nat} {x : Str} (h : sc.names.lookup x = some .cell) : ∃ c, (cellsFrom n sc.names []).lookup x = some c := by
  have q := PySem.W.cellsFrom_some sc.names n [] (.inl h)
  exact Option.isSome_iff_exists.mp q

theorem inv_start {CX : CXT} {P : Program} {w : World} {K : PySem.W.Frag} {mg : Str → Option Value} {base : Heap} {N ps : List Str} {qual : Str} {scope : Scope} {f : Addr} {cd : Value} {A : Around} {outer : List Env} {s s1 : Shared} {H : Hp} {E : XK} {us : List Value} {vs : List V}
    (S : FnScope N ps scope) (hd : A.handled = none) (e0 : Env0 P w K mg base A outer s H) (hl : vs.length = ps.length) (r : Vals vs us)
    (x : InCallC s s.heap.objs.size (bindL (envOfC qual scope s.heap.objs.size f cd).kindOf (ps.zip us) fun _ => none) (cellsFrom (s.heap.objs.size + 1) scope.names []) (bindC (envOfC qual scope s.heap.objs.size f cd).kindOf (ps.zip us) fun _ => none) s1) :
    Inv (cxOf CX P w K mg base N qual scope f cd A outer s H E) [] (start N vs) H s1 := by
  have hpl : ps.length ≤ N.length := by have := congrArg List.length S.pre; rw [List.length_take] at this; omega
  obtain ⟨h1, tk, rfl, hk⟩ := x.done
  have noA : ∀ b : Addr, b ∉ (cxOf CX P w K mg base N qual scope f cd A outer s H E).ex := fun b z => absurd (show b ∈ ([] : List Addr) from z) (by simp)
  refine ⟨⟨e0.mod, S.kind, rfl, rfl, Nat.le_refl _, fun y z c h1 h2 => ?_, fun y hy => ?_, fun y c _ h => ?_, fun _ => hd, Around.frames_deeper e0.frames, .inr ⟨rfl, rfl⟩, fun b z => absurd z (noA b), e0.bs, e0.bsz, fun b _ _ => noA b, fun b z => absurd z (noA b), e0.funs, e0.frf⟩,
    rfl, e0.bare, Un.kept hk, ⟨_, x.toInCall.ns, fun i y v h1 h2 h3 => ?_⟩, fun y c h => ⟨_, x.cell y c h⟩, e0.hok.fresh (Nat.le_refl _), fun y c h => ?_, fun p hp => absurd (show p ∈ ([] : List (Addr × Obj)) from hp) (by simp), e0.hok.kept hk, ?_⟩
  · exact name_of_addr x.apart (PySem.mem_of_lookup h1) (PySem.mem_of_lookup h2)
  · have hy : scope.names.lookup y = some .cell ∨ scope.names.lookup y = some .free := hy
    rcases hy with hy | hy
    · exact cell_has hy
    · exact absurd rfl (S.nofree _ (PySem.mem_of_lookup hy))
  · exact Nat.le_of_lt (x.above y c (PySem.mem_of_lookup h))
  · have hi : i < vs.length := by
      unfold start at h2
      by_cases hi : i < vs.length
      · exact hi
      · rw [List.getElem?_append_right (by simpa using hi)] at h2
        rw [List.getElem?_replicate] at h2
        split at h2 <;> cases h2
    have ha : vs[i]? = some v := by
      unfold start at h2
      rw [List.getElem?_append_left (by simpa using hi), List.getElem?_map] at h2
      cases e : vs[i]? with
      | none => rw [e] at h2; cases h2
      | some a => rw [e] at h2; cases h2; rfl
    obtain ⟨u, hu, rv⟩ := r.get ha
    have hp : ps[i]? = some y := by
      rw [← S.pre, List.getElem?_take_of_lt (by omega)]; exact h1
    have ndP : ps.Nodup := by rw [← S.pre]; exact S.nd.sublist (List.take_sublist _ _)
    refine ⟨u, rv, ?_⟩
    rcases S.par y (List.mem_of_getElem? hp) with k | k
    · exact .inl ⟨k, bindL_get ndP hp hu k⟩
    · obtain ⟨c, e⟩ := cell_has (n := s.heap.objs.size + 1) k
      refine .inr ⟨.inl k, c, e, ?_⟩
      have q := x.cell y c e
      rw [bindC_get ndP hp hu (by show scope.names.lookup y ≠ _; rw [k]; decide)] at q
      exact q
  · exact e0.hok.fresh (Nat.le_of_lt (x.above y c (PySem.mem_of_lookup h)))
  · unfold start
    show _ = N.length
    rw [List.length_append, List.length_map, List.length_replicate]
    omega

/-- THE RULE: a def (or a method) of the text, by its body. The body's reading t is chosen for each entry; it is run at the parameters' values -/
theorem fn_of {CX : CXT} {P : Program} {w : World} {K : PySem.W.Frag} {mg : Str → Option Value} {base : Heap} {k : Nat} {f : Addr} {name qual : Str} {params : Arguments} {body : List Stmt} {scope : Scope} {dV kV doc pm cdv ct oc : Value} {an od : Option Addr}
    {osl : Array (Option Value)} {N ps : List Str} {sp : Sp} (lk : K.lookup f = some ⟨oc, od, .func (PySem.W.fnOf name qual params body scope dV kV doc pm an cdv ct), osl⟩) (hcd : PySem.W.codeIn K cdv qual = true) (S : FnScope N ps scope)
    (len : ∀ vs H Q E, sp vs H Q E → vs.length = ps.length)
    (hbody : ∀ (A : Around) (outer : List Env) (s : Shared) (H : Hp) (vs : List V) (Q : VK) (E : XK), Room k (A.deeper (envOfC qual scope s.heap.objs.size f cdv)) → sp vs H Q E →
      ∃ t, PSs (cxOf CX P w K mg base N qual scope f cdv A outer s H E) body t ∧ t { nx := fun _ H' => Q .non H', rt := Q } (start N vs) H) :
    FnOk P w K mg base CX (k + 1) f (PySem.W.fnOf name qual params body scope dV kV doc pm an cdv ct) ps sp := by
  refine ⟨len, fun A outer s H args us vs Q E hr e0 hb r hsp => ?_⟩
  have hl := len _ _ _ _ hsp
  have KX : K.In s.heap := e0.mod.kin.keeps fun b o e => (e0.bs b o e).1
  have lim : s.heap.NoLimit := e0.mod.nolimit.keeps fun b o e => (e0.bs b o e).1
  have hkind : ∀ y ∈ ps.zip us, scope.names.lookup y.1 = some .local ∨ (scope.names.lookup y.1 = some .cell ∧ ((cellsFrom (s.heap.objs.size + 1) scope.names []).lookup y.1).isSome = true) := fun ⟨n, v⟩ hy => by
    rcases S.par n (List.of_mem_zip hy).1 with q | q
    · exact .inl q
    · exact .inr ⟨q, PySem.W.cellsFrom_some _ _ _ (.inl q)⟩
  refine codeAny_call_function hr.depth (KX _ _ lk) rfl S.co S.gen rfl (PySem.W.codeRec_of KX hcd) (hb _ _ _ _ ?_)
  refine wpAny_newFunctionEnv_cells S.kind hkind fun env he s1 x => ?_
  subst he
  refine ⟨lim.keeps x.toInCall.keep, codeAny_func ?_⟩
  obtain ⟨t, ht, hq⟩ := hbody A outer s H vs Q E (hr.deeper _) hsp
  have I : Inv (cxOf CX P w K mg base N qual scope f cdv A outer s H E) [] (start N vs) H s1 := inv_start S hr.hd e0 hl r x
  refine wpAny_mono (ht [] s1 (start N vs) H _ I hq) (fun fl s' hs => ?_) fun e s' hs => hs
  have fin : ∀ {σ' : St} {H' : Hp} {v : V} {u : Value}, Inv (cxOf CX P w K mg base N qual scope f cdv A outer s H E) [] σ' H' s' → RelV v u → Q v H' → CE outer P w H s Q u s' :=
    fun {σ' H' v u} J rv q => ⟨v, H', J.os, J.bare, J.base, J.hok, rv, q⟩
  cases fl with
  | ret u =>
    obtain ⟨v, σ', H', J, rv, q⟩ := hs
    exact fin J rv q
  | next =>
    obtain ⟨σ', H', J, q⟩ := hs
    exact fin (v := V.non) (u := Value.none) J rfl q
  | brk =>
    obtain ⟨_, _, _, q⟩ := hs
    exact False.elim q
  | cont =>
    obtain ⟨_, _, _, q⟩ := hs
    exact False.elim q
end L2

namespace L2
open PySem PySem.Spec PyProof.Rows
section
variable {X : Cx} {x : Str} {p pos : Pos} {e : Expr} {es : List Expr} {t : TA} {id T : String} {r : List V → Hp → VK → Prop}

def tCB (r : List V → Hp → VK → Prop) (t : TA) : TE := fun σ H Q => t σ H fun vs H1 => r vs H1 Q
/-- f(e, ..), f a built-in function -/
theorem pe_callB (hc : CallR X (.builtin id) r) (hg : Gl X x) (hm : X.mg x = none) (hv : bootBuiltins x = some (.builtin id)) (ha : PA X (e :: es) t) (hn : x ≠ "__name__" := by decide) (hdb : (x == ("__debug__" : Str)) = false := by decide)
    (he : starEach (e :: es) X.env = (false, eval e X.env) :: starEach es X.env := by rfl) (hpl : (backTo pos (starEach es X.env)).any (·.1) = false := by rfl) : PE X (.Call (.Name x p) (e :: es) [] pos) (tCB r t) := by
  intro pins s σ H Q I h
  refine wpAny_Call_Name_kw (ld_blt I hg hm hv ?_ hn hdb)
  exact PyProof.Rows.callWith_builtin1 (thn (ha pos pins s σ H _ I h) fun us s1 ⟨vs, H1, I1, r1, q1⟩ => hc pins s1 σ H1 vs us Q I1 r1 q1) he hpl
/-- T(e, ..), T a built-in type -/
theorem pe_callTy (hc : CallR X (.type T) r) (hg : Gl X x) (hm : X.mg x = none) (hv : bootBuiltins x = some (.type T)) (ha : PA X (e :: es) t) (hn : x ≠ "__name__" := by decide) (hdb : (x == ("__debug__" : Str)) = false := by decide)
    (he : starEach (e :: es) X.env = (false, eval e X.env) :: starEach es X.env := by rfl) (hpl : (backTo pos (starEach es X.env)).any (·.1) = false := by rfl) : PE X (.Call (.Name x p) (e :: es) [] pos) (tCB r t) := by
  intro pins s σ H Q I h
  refine wpAny_Call_Name_kw (ld_blt I hg hm hv ?_ hn hdb)
  exact PyProof.Rows.callWith_type1 (thn (ha pos pins s σ H _ I h) fun us s1 ⟨vs, H1, I1, r1, q1⟩ => hc pins s1 σ H1 vs us Q I1 r1 q1) he hpl
end
end L2

namespace HT
open PySem PyProof.Rows

/-- t < u of tuples of ints -/
def lexLt : List Int → List Int → Bool
  | [], [] => false
  | [], _ :: _ => true
  | _ :: _, [] => false
  | x :: xs, y :: ys => if x = y then lexLt xs ys else decide (x < y)
theorem lexLt_cons (x y : Int) (xs ys : List Int) : lexLt (x :: xs) (y :: ys) = if x = y then lexLt xs ys else decide (x < y) := rfl
theorem lexLt_nil_nil : lexLt [] [] = false := rfl
theorem lexLt_nil_cons (y : Int) (ys : List Int) : lexLt [] (y :: ys) = true := rfl
theorem lexLt_cons_nil (x : Int) (xs : List Int) : lexLt (x :: xs) [] = false := rfl

section
open PySem.SeqAt
open PySem.AutoSeq1 (wpAny_loadPart')
open PySem.MeetsSeq PySem.MeetsSeq2 PySem.MeetsSeq3

end

section
variable {prog : Program} {w : World} {A : Around} {E : Value → Shared → Prop} {s : Shared}

/-! ### t[a:b], not the whole -/
/-- a slice's bound as a place among n (d where it is left out) -/
def sIx (n d : Nat) : Option Int → Nat
  | none => d
  | some v => if v < 0 then (v + (n : Int)).toNat else min v.toNat n
theorem sIx_none (n d : Nat) : sIx n d none = d := rfl
theorem sIx_nat (n d k : Nat) : sIx n d (some (k : Int)) = min k n := by
  show (if (k : Int) < 0 then ((k : Int) + (n : Int)).toNat else min (k : Int).toNat n) = min k n
  rw [if_neg (by omega), Int.toNat_natCast]
end
end HT

namespace L2
open PySem PySem.Spec PyProof.Rows

/-! ### the parts of a slice -/
abbrev TO := St → Hp → (Option Int → Hp → Prop) → Prop
/-- a slice's part (left out, or an int) -/
def PO (X : Cx) (e : Option Expr) (t : TO) : Prop :=
  ∀ (pins : List (Addr × Obj)) (s : Shared) (σ : St) (H : Hp) (Q : Option Int → Hp → Prop), Inv X pins σ H s → t σ H Q →
    wpAny (model X.prog X.w) X.A (evalPart e X.env) (fun u s' => ∃ o H', Inv X pins σ H' s' ∧ IsPart u o ∧ Q o H') X.xe s
def tNoPart : TO := fun _ H Q => Q none H
def tPart (t : TE) : TO := fun σ H Q => t σ H fun x H1 => ∃ i, x = .int i ∧ Q (some i) H1

section
variable {X : Cx} {e : Expr} {te : TE} {lo hi : Option Expr} {tl th : TO} {pos p2 : Pos}

theorem po_none : PO X none tNoPart := by
  intro pins s σ H Q I h
  rw [evalPart_none]
  exact wpAny_pure ⟨none, H, I, .none, h⟩
theorem po_some (h : PE X e te) : PO X (some e) (tPart te) := by
  intro pins s σ H Q I hw
  rw [evalPart_some]
  refine thn (h pins s σ H _ I hw) fun u s1 ⟨x, H1, I1, r1, q1⟩ => ?_
  obtain ⟨i, rfl, q⟩ := q1
  obtain ⟨t, rfl⟩ := r1
  exact ⟨some i, H1, I1, .int i t, q⟩

/-- what a slice of a value is, by values: the slice object stands at sl -/
def SlR (X : Cx) (r : V → Option Int → Option Int → Hp → VK → Prop) : Prop :=
  ∀ (pins : List (Addr × Obj)) (s : Shared) (σ : St) (H : Hp) (x : V) (v vl vu : Value) (lo hi : Option Int) (sl : Addr) (Q : VK), Inv X pins σ H s → RelV x v → s.heap.IsSliceOf sl vl vu .none → IsPart vl lo → IsPart vu hi → r x lo hi H Q →
    ∃ T id, typeLookup (.type T) "__getitem__" = pure (some (.builtin id)) ∧ s.TypeIs v T ∧ wpAny (model X.prog X.w) X.A (getItem v (.ref sl)) (EP X pins σ Q) X.xe s
theorem SlR.or {r r' : V → Option Int → Option Int → Hp → VK → Prop} (h : SlR X r) (h' : SlR X r') : SlR X (fun x lo hi H Q => r x lo hi H Q ∨ r' x lo hi H Q) := by
  intro pins s σ H x v vl vu lo hi sl Q I rx hs pl pu q
  rcases q with q | q
  · exact h pins s σ H x v vl vu lo hi sl Q I rx hs pl pu q
  · exact h' pins s σ H x v vl vu lo hi sl Q I rx hs pl pu q
def tSl (r : V → Option Int → Option Int → Hp → VK → Prop) (te : TE) (tl th : TO) : TE := fun σ H Q => te σ H fun x H1 => tl σ H1 fun l H2 => th σ H2 fun u H3 => r x l u H3 Q
/-- a[lo:hi], any a -/
theorem pe_slice {r : V → Option Int → Option Int → Hp → VK → Prop} (hr : SlR X r) (he : PE X e te) (hl : PO X lo tl) (hu : PO X hi th) : PE X (.Subscript e (.Slice lo hi none p2) pos) (tSl r te tl th) := by
  intro pins s σ H Q I h
  refine Subscript_ (thn (he pins s σ H _ I h) fun v s1 ⟨x, H1, I1, r1, q1⟩ => ?_)
  refine wpAny_Slice (thn (hl pins s1 σ H1 _ I1 q1) fun vl s2 ⟨l, H2, I2, pl, q2⟩ => thn (hu pins s2 σ H2 _ I2 q2) fun vu s3 ⟨u, H3, I3, pu, q3⟩ => ?_)
  rw [evalPart_none]
  refine wpAny_pure ?_
  have I4 : Inv X pins σ H3 { s3 with heap := s3.heap.push { cls := .type "slice", data := .fields #[vl, vu, .none] } } := I3.kept (t' := s3.toks) fun b ob q => Heap.get?_push_of_some _ q
  obtain ⟨T, id, hT, ht, hg⟩ := hr pins { s3 with heap := s3.heap.push { cls := .type "slice", data := .fields #[vl, vu, .none] } } σ H3 x v vl vu l u s3.heap.objs.size Q I4 r1 (Heap.IsSliceOf.new ..) pl pu q3
  show wpAny (model X.prog X.w) X.A (subscriptTail e (.Slice lo hi none p2) v (.ref s3.heap.objs.size)) (EP X pins σ Q) X.xe { s3 with heap := s3.heap.push { cls := .type "slice", data := .fields #[vl, vu, .none] } }
  exact tail_any (ops := [.ref s3.heap.objs.size, v]) ht hT hg (by with_unfolding_all rfl)

/-- the items of xs[lo:hi] -/
def cutV (xs : List V) (lo hi : Option Int) : List V := (xs.drop (HT.sIx xs.length 0 lo)).take (HT.sIx xs.length xs.length hi - HT.sIx xs.length 0 lo)
theorem cutV_length (xs : List V) (lo hi : Option Int) : (cutV xs lo hi).length ≤ xs.length := by
  unfold cutV
  rw [List.length_take, List.length_drop]
  omega
/-- t[lo:hi], not the whole of it (the whole would be t itself) -/
def rSlT (K : PySem.W.Frag) : V → Option Int → Option Int → Hp → VK → Prop := fun x lo hi H Q => ∃ a xs, x = .ref a ∧ SqT K H a xs ∧
  ¬ (HT.sIx xs.length 0 lo = 0 ∧ HT.sIx xs.length xs.length hi = xs.length) ∧ ∀ p, H p = none → Q (.ref p) (upd H p (.tup (cutV xs lo hi)))
/-! ### t < u, t + u -/
def rLtT (K : PySem.W.Frag) : R2 := fun x y H Q => ∃ a b ns ms, x = .ref a ∧ y = .ref b ∧ SqT K H a (ns.map V.int) ∧ SqT K H b (ms.map V.int) ∧ Q (.bl (HT.lexLt ns ms)) H
/-- t + u, t not empty: u empty gives t itself -/
def rCatT (K : PySem.W.Frag) : R2 := fun x y H Q => ∃ a b xs ys, x = .ref a ∧ y = .ref b ∧ SqT K H a xs ∧ SqT K H b ys ∧ xs ≠ [] ∧ xs.length + ys.length ≤ sizeLine ∧
  (ys = [] → Q (.ref a) H) ∧ (ys ≠ [] → ∀ p, H p = none → Q (.ref p) (upd H p (.tup (xs ++ ys))))
end
end L2

namespace L2
open PySem PySem.Spec PyProof.Rows

/-! ### places -/
/-- the place that an index of any sign means -/
def ixN (n : Nat) (i : Int) : Option Nat := if 0 ≤ i then (if i < n then some i.toNat else none) else if -(n : Int) ≤ i then some (i + n).toNat else none
def atI {α : Type} (xs : List α) (i : Int) : Option α := (ixN xs.length i).bind fun j => xs[j]?
theorem ixN_seq {n : Nat} {i : Int} {j : Nat} (h : ixN n i = some j) : seqIndex? i n = some j ∧ j < n ∧ -(n : Int) ≤ i ∧ i < n := by
  unfold ixN at h
  by_cases h0 : 0 ≤ i
  · rw [if_pos h0] at h
    by_cases h1 : i < n
    · rw [if_pos h1] at h
      have e : i.toNat = j := Option.some.inj h
      exact ⟨by rw [seqIndex_of h0 h1, e], by omega, by omega, h1⟩
    · rw [if_neg h1] at h; cases h
  · rw [if_neg h0] at h
    by_cases h1 : -(n : Int) ≤ i
    · rw [if_pos h1] at h
      have e : (i + n).toNat = j := Option.some.inj h
      exact ⟨by rw [seqIndex_neg (by omega) h1, e], by omega, h1, by omega⟩
    · rw [if_neg h1] at h; cases h
theorem atI_get {α : Type} {xs : List α} {i : Int} {v : α} (h : atI xs i = some v) : ∃ j, seqIndex? i xs.length = some j ∧ xs[j]? = some v ∧ j < xs.length ∧ -(xs.length : Int) ≤ i ∧ i < xs.length := by
  unfold atI at h
  cases e : ixN xs.length i with
  | none => rw [e] at h; cases h
  | some j =>
    rw [e] at h
    obtain ⟨h1, h2, h3, h4⟩ := ixN_seq e
    exact ⟨j, h1, h, h2, h3, h4⟩
/-! ### what may be subscripted -/
/-- what stands as an index of a plain subscript -/
def PlainIx (b : Expr) : Prop := ∀ o i, subscripted b false o i = operate [o, i] (getItem o i)
/-- a subscript by values -/
def IxR (X : Cx) (r : R2) : Prop :=
  ∀ (value slice : Expr) (pins : List (Addr × Obj)) (s : Shared) (σ : St) (H : Hp) (x y : V) (v u : Value) (Q : VK), Inv X pins σ H s → RelV x v → RelV y u → r x y H Q →
    subscripted slice false v u = operate [v, u] (getItem v u) → wpAny (model X.prog X.w) X.A (subscriptTail value slice v u) (EP X pins σ Q) X.xe s
/-- a call of a builtin's method by values: the receiver, the arguments -/
def MtR (X : Cx) (id : String) (r : V → List V → Hp → VK → Prop) : Prop :=
  ∀ (pins : List (Addr × Obj)) (s : Shared) (σ : St) (H : Hp) (x : V) (xs : List V) (v : Value) (us : List Value) (Q : VK), Inv X pins σ H s → RelV x v → Vals xs us → r x xs H Q →
    wpAny (model X.prog X.w) X.A (call (.builtin id) (v :: us)) (EP X pins σ Q) X.xe s
section
variable {X : Cx} {a b : Expr} {ta tb : TE} {pos : Pos}
theorem IxR.or {r r' : R2} (h : IxR X r) (h' : IxR X r') : IxR X (fun x y H Q => r x y H Q ∨ r' x y H Q) := by
  intro value slice pins s σ H x y v u Q I rx ry q hs
  rcases q with q | q
  · exact h value slice pins s σ H x y v u Q I rx ry q hs
  · exact h' value slice pins s σ H x y v u Q I rx ry q hs
theorem MtR.or {id : String} {r r' : V → List V → Hp → VK → Prop} (h : MtR X id r) (h' : MtR X id r') : MtR X id (fun x xs H Q => r x xs H Q ∨ r' x xs H Q) := by
  intro pins s σ H x xs v us Q I rx rs q
  rcases q with q | q
  · exact h pins s σ H x xs v us Q I rx rs q
  · exact h' pins s σ H x xs v us Q I rx rs q
/-- a[b] -/
theorem pe_ix {r : R2} (hr : IxR X r) (ha : PE X a ta) (hb : PE X b tb) (hs : PlainIx b) : PE X (.Subscript a b pos) (tOp r ta tb) := by
  intro pins s σ H Q I h
  exact Subscript_ (binT ha hb I h fun v u s2 x y H2 I2 rx ry q => hr a b pins s2 σ H2 x y v u Q I2 rx ry q (hs _ _))

def rIxL (K : PySem.W.Frag) : R2 := fun x y H Q => ∃ p xs i v, x = .ref p ∧ y = .int i ∧ SqL K H p xs ∧ atI xs i = some v ∧ Q v H
def rIxT (K : PySem.W.Frag) : R2 := fun x y H Q => ∃ p xs i v, x = .ref p ∧ y = .int i ∧ SqT K H p xs ∧ atI xs i = some v ∧ Q v H
def rIxS : R2 := fun x y H Q => ∃ z i c, x = .str z ∧ y = .int i ∧ z.length ≤ sizeLine ∧ atI z.cps.toList i = some c ∧ Q (.str ⟨#[c]⟩) H
theorem ix_list : IxR X (rIxL X.K) := by
  intro value slice pins s σ H x y v u Q I rx ry h hs
  obtain ⟨p, xs, i, z, rfl, rfl, hq, he, q⟩ := h
  cases rx
  obtain ⟨t, rfl⟩ := ry
  obtain ⟨its, r, pl, hz⟩ := I.list hq
  obtain ⟨j, h1, h2, h3, h4, h5⟩ := atI_get he
  obtain ⟨w, ew, rw'⟩ := r.get h2
  have hl := r.length
  have hn := line63
  have fin : EP X pins σ Q w s := ⟨z, H, I, rw', q⟩
  by_cases h0 : 0 ≤ i
  · have hj : i.toNat = j := by
      rw [seqIndex_of h0 h5] at h1
      exact Option.some.inj h1
    exact item_listR pl.isList h0 (by omega) (by rw [hj]; simpa using ew) fin hs
  · have hj : (i + (its.toArray.size : Int)).toNat = j := by
      rw [seqIndex_neg (by omega) h4] at h1
      rw [List.size_toArray, ← hl]
      exact Option.some.inj h1
    exact subscriptTail_builtinR (x := w) pl.isList.typeIs slot_list_getitem.lookup
      (wpAny_getItem_list_neg (Q := fun r s' => r = w ∧ EP X pins σ Q r s') pl.isList (by omega) (by rw [List.size_toArray] <;> omega) (by omega) (by rw [hj]; simpa using ew) ⟨rfl, fin⟩) hs
theorem ix_tup : IxR X (rIxT X.K) := by
  intro value slice pins s σ H x y v u Q I rx ry h hs
  obtain ⟨p, xs, i, z, rfl, rfl, hq, he, q⟩ := h
  cases rx
  obtain ⟨t, rfl⟩ := ry
  obtain ⟨its, r, pl, hz⟩ := I.tuple hq
  obtain ⟨j, h1, h2, h3, h4, h5⟩ := atI_get he
  obtain ⟨w, ew, rw'⟩ := r.get h2
  have hl := r.length
  have hn := line63
  have fin : EP X pins σ Q w s := ⟨z, H, I, rw', q⟩
  exact subscriptTail_builtinR (x := w) pl.typeIs slot_tuple_getitem.lookup
    (getItem_tuple (j := j) (Q := fun r s' => r = w ∧ EP X pins σ Q r s') pl (by omega) (by omega) (by rw [List.size_toArray, ← hl]; exact h1) (by simpa using ew) ⟨rfl, fin⟩) hs
/-- list, tuple or str -/
def rIx (K : PySem.W.Frag) : R2 := fun x y H Q => rIxL K x y H Q ∨ rIxT K x y H Q ∨ rIxS x y H Q
/-! ### xs[i] = v, any sign -/
/-- the list's object behind a store -/
theorem mapSeq_set (its : List Value) (n j : Nat) (u : Value) : Obj.mapSeq (·.setIfInBounds j u) { cls := .type "list", data := .seq its.toArray n } = { cls := .type "list", data := .seq (its.set j u).toArray n } := by
  simp [Obj.mapSeq]
theorem Inv.lst {pins : List (Addr × Obj)} {σ : St} {H : Hp} {s : Shared} {p : Addr} {xs : List V} (I : Inv X pins σ H s) (h : H p = some (.lst xs)) :
    ∃ (its : List Value) (n : Nat), Vals xs its ∧ s.heap.get? p = some { cls := .type "list", data := .seq its.toArray n } ∧ xs.length ≤ sizeLine := by
  obtain ⟨z, its, n, r, e⟩ := I.hok p _ h
  exact ⟨its, n, r, e, z⟩
/-- the list at p is written by an update of its object -/
theorem Inv.lstUpd {pins : List (Addr × Obj)} {σ : St} {H : Hp} {s : Shared} {p : Addr} {xs ys : List V} {its its' : List Value} {n n' : Nat} {f : Obj → Obj} (I : Inv X pins σ H s) (h : H p = some (.lst xs))
    (ho : s.heap.get? p = some { cls := .type "list", data := .seq its.toArray n }) (hf : f { cls := .type "list", data := .seq its.toArray n } = { cls := .type "list", data := .seq its'.toArray n' }) (r : Vals ys its') (hz : ys.length ≤ sizeLine) (t : Nat) :
    Inv X pins σ (upd H p (.lst ys)) { s with heap := s.heap.update p f, toks := t } := by
  have e : (s.heap.update p f).get? p = some { cls := .type "list", data := .seq its'.toArray n' } := by
    rw [Heap.get?_update_self f ho (by rw [hf] <;> rfl), hf]
  refine I.write (x := p) (e := p) (by rw [h]; trivial) (.inl rfl) (fun b u hb q => (Heap.get?_update_other _ _ (Ne.symm hb)).trans q) ⟨_, e⟩ ?_
  exact ⟨hz, its', n', r, e⟩
def rSetL : V → V → V → Hp → (Hp → Prop) → Prop := fun o i v H Q => ∃ p xs k j, o = .ref p ∧ i = .int k ∧ H p = some (.lst xs) ∧ ixN xs.length k = some j ∧ Q (upd H p (.lst (xs.set j v)))
theorem set_list : PSet X rSetL := by
  intro pins s σ H o i v ov iv u Q I ro ri rv h
  obtain ⟨p, xs, k, j, rfl, rfl, hp, hj, q⟩ := h
  cases ro
  obtain ⟨t, rfl⟩ := ri
  obtain ⟨its, n, r, ho, hz⟩ := I.lst hp
  obtain ⟨h1, h2, h3, h4⟩ := ixN_seq hj
  have hl := r.length
  have hn := line63
  have I' : Inv X pins σ (upd H p (.lst (xs.set j v))) { s with heap := s.heap.update p (Obj.mapSeq (·.setIfInBounds j u)) } :=
    I.lstUpd hp ho (mapSeq_set its n j u) (r.set rv j) (by rw [List.length_set]; exact hz) s.toks
  by_cases h0 : 0 ≤ k
  · have hk : k.toNat = j := by
      rw [seqIndex_of h0 h4] at h1
      exact Option.some.inj h1
    exact PySem.W.ki_setAt ho h0 (by omega) (by rw [List.size_toArray, ← hl]; exact h4) (by rw [hk]; exact ⟨_, I', q⟩)
  · have hk : (k + (its.toArray.size : Int)).toNat = j := by
      rw [seqIndex_neg (by omega) h3] at h1
      rw [List.size_toArray, ← hl]
      exact Option.some.inj h1
    exact PySem.W.ki_setBack ho (by omega) (by rw [List.size_toArray, ← hl]; exact h3) (by omega) (by rw [hk]; exact ⟨_, I', q⟩)

/-! ### slices -/
theorem slice_bounds (lo hi : Option Int) (n : Nat) : (sliceBounds lo hi none n).1 = ((HT.sIx n 0 lo : Nat) : Int) ∧ (sliceBounds lo hi none n).2.1 = ((HT.sIx n n hi : Nat) : Int) ∧ (sliceBounds lo hi none n).2.2 = 1 := by
  refine ⟨?_, ?_, rfl⟩
  · cases lo with
    | none => simp [sliceBounds, HT.sIx]
    | some i =>
      simp only [sliceBounds, HT.sIx, Option.getD_none, show (1 : Int) > 0 by decide, if_true]
      by_cases h : i < 0
      · simp only [h, if_true] <;> omega
      · simp only [h, if_false] <;> omega
  · cases hi with
    | none => simp [sliceBounds, HT.sIx]
    | some i =>
      simp only [sliceBounds, HT.sIx, Option.getD_none, show (1 : Int) > 0 by decide, if_true]
      by_cases h : i < 0
      · simp only [h, if_true] <;> omega
      · simp only [h, if_false] <;> omega
theorem slicePick_cut (its : List Value) (lo hi : Option Int) : slicePick its.toArray lo hi none = ((its.drop (HT.sIx its.length 0 lo)).take (HT.sIx its.length its.length hi - HT.sIx its.length 0 lo)).toArray := by
  obtain ⟨h1, h2, h3⟩ := slice_bounds lo hi its.toArray.size
  unfold slicePick
  rw [h1, h2, h3]
  simp only [sliceRange_one, pick_run, List.size_toArray] <;> rfl
/-- xs[lo:hi] of a list: a new list -/
def rSlL (K : PySem.W.Frag) : V → Option Int → Option Int → Hp → VK → Prop := fun x lo hi H Q => ∃ a xs, x = .ref a ∧ SqL K H a xs ∧ ∀ p, H p = none → Q (.ref p) (upd H p (.lst (cutV xs lo hi)))
theorem sl_list : SlR X (rSlL X.K) := by
  intro pins s σ H x v vl vu lo hi sl Q I rx hs pl pu h
  obtain ⟨a, xs, rfl, hx, q⟩ := h
  cases rx
  obtain ⟨its, r, ht, hz⟩ := I.list hx
  have hlen := r.length
  refine ⟨"list", _, slot_list_getitem.lookup, ht.isList.typeIs, ?_⟩
  refine wpAny_getItem_list_slice ht.isList hs pl pu .none (by simp) ?_ (by rw [List.size_toArray] <;> omega)
  rw [slicePick_cut, ← hlen]
  refine ⟨.ref s.heap.objs.size, _, I.laid (t' := s.toks) (o := .lst (cutV xs lo hi)) (fun b ob q => Heap.get?_push_of_some _ q) (Nat.le_refl _) ?_, rfl, q _ (I.hok.fresh (Nat.le_refl _))⟩
  exact ⟨Nat.le_trans (cutV_length xs lo hi) hz, _, 0, (r.drop (HT.sIx xs.length 0 lo)).take (HT.sIx xs.length xs.length hi - HT.sIx xs.length 0 lo), Heap.get?_push_size _ rfl⟩

/-! ### in, not in: flat items -/
def flatV : V → Bool
  | .non => true
  | .bl _ => true
  | .int _ => true
  | .str _ => true
  | _ => false
/-- == of flat values -/
def eqV : V → V → Bool
  | .non, .non => true
  | .bl a, .bl b => a == b
  | .bl a, .int b => (if a then 1 else 0) == b
  | .int a, .bl b => a == (if b then 1 else 0)
  | .int a, .int b => a == b
  | .str a, .str b => a == b
  | _, _ => false
/-- the items' answers, read off the values (a value's own answer does not lean on its token) -/
def eqU (x : V) (u : Value) : Bool := match u with
  | .none => eqV .non x
  | .bool b => eqV (.bl b) x
  | .int i _ => eqV (.int i) x
  | .str z _ => eqV (.str z) x
  | _ => false
def inV (x : V) (xs : List V) : Bool := xs.any fun y => eqV y x
/-- x in a list or tuple of flat items -/
def rIn (K : PySem.W.Frag) (neg : Bool) : R2 := fun x y H Q => ∃ p xs, y = .ref p ∧ (SqL K H p xs ∨ SqT K H p xs) ∧ flatV x = true ∧ xs.all flatV = true ∧ Q (.bl (if neg then !inV x xs else inV x xs)) H
/-! ### len, list(x), tuple(x) of any list or tuple that is read -/
theorem call_len_seq : CallR X (.builtin "len") (fun xs H Q => ∃ p ys, xs = [.ref p] ∧ (SqL X.K H p ys ∨ SqT X.K H p ys) ∧ Q (.int ys.length) H) := by
  intro pins s σ H xs us Q I r h
  obtain ⟨p, ys, rfl, hq, q⟩ := h
  obtain ⟨u, rfl, rx⟩ := vals1 r
  cases rx
  have hn := line63
  rcases hq with hq | hq
  · obtain ⟨its, r', pl, hz⟩ := I.list hq
    have hlen := r'.length
    exact Calls.call_len_list pl.isList (by simp only [List.size_toArray] <;> omega) ⟨.int ys.length, H, I.tok _, ⟨s.toks + 1, by rw [List.size_toArray, hlen]⟩, q⟩
  · obtain ⟨its, r', pl, hz⟩ := I.tuple hq
    have hlen := r'.length
    exact len_tuple pl (by simp only [List.size_toArray] <;> omega) ⟨.int ys.length, H, I.tok _, ⟨s.toks + 1, by rw [List.size_toArray, hlen]⟩, q⟩
theorem CallR.or {f : Value} {r r' : List V → Hp → VK → Prop} (h : CallR X f r) (h' : CallR X f r') : CallR X f (fun xs H Q => r xs H Q ∨ r' xs H Q) := by
  intro pins s σ H xs us Q I rs q
  rcases q with q | q
  · exact h pins s σ H xs us Q I rs q
  · exact h' pins s σ H xs us Q I rs q
theorem call_list_of : CallR X (.type "list") (fun xs H Q => ∃ p ys, xs = [.ref p] ∧ (SqL X.K H p ys ∨ SqT X.K H p ys) ∧ ∀ l, H l = none → Q (.ref l) (upd H l (.lst ys))) := by
  intro pins s σ H xs us Q I r h
  obtain ⟨p, ys, rfl, hq, q⟩ := h
  obtain ⟨u, rfl, rx⟩ := vals1 r
  cases rx
  have fin : ∀ (its : List Value), Vals ys its → ys.length ≤ sizeLine → ∀ (h' : Heap) (c' : Nat), (∀ b o', s.heap.get? b = some o' → h'.get? b = some o') →
      h'.get? s.heap.objs.size = some { cls := .type "list", dict := none, data := .seq its.toArray c', slots := #[] } → EP X pins σ Q (.ref s.heap.objs.size) { s with heap := h' } := fun its r' hz h' c' kp e =>
    ⟨.ref s.heap.objs.size, _, I.laid (t' := s.toks) kp (Nat.le_refl _) (show ObjOk X.prog X.w _ h' _ (.lst ys) from ⟨hz, its, c', r', e⟩), rfl, q _ (I.hok.fresh (Nat.le_refl _))⟩
  rcases hq with hq | hq
  · obtain ⟨its, r', pl, hz⟩ := I.list hq
    have hlen := r'.length
    obtain ⟨o, ho, hc, n, hd⟩ := pl.isList
    exact call_list_seq p (.inl rfl) ho hc hd (fun h' c' kp e => fin its r' hz h' c' kp e) (by simp only [List.size_toArray] <;> omega)
  · obtain ⟨its, r', pl, hz⟩ := I.tuple hq
    have hlen := r'.length
    obtain ⟨o, ho, hc, n, hd⟩ := pl
    exact call_list_seq p (.inr rfl) ho hc hd (fun h' c' kp e => fin its r' hz h' c' kp e) (by simp only [List.size_toArray] <;> omega)
/-! ### the call of a builtin's method: o.m(..) -/
/-- the value is of that builtin type -/
def tyV (K : PySem.W.Frag) (T : String) (x : V) (H : Hp) : Prop := match x with
  | .str _ => T = "str"
  | .int _ => T = "int"
  | .ref p => (T = "list" ∧ ∃ xs, SqL K H p xs) ∨ (T = "tuple" ∧ ∃ o, K.lookup p = some o ∧ o.cls = .type "tuple" ∧ o.dict = none) ∨
      (T = "dict" ∧ ((∃ kvs, H p = some (.dK kvs)) ∨ ∃ kvs, H p = some (.dT kvs))) ∨ (T = "set" ∧ ∃ S n, H p = some (.set S n))
  | _ => False
theorem tyV_is {pins : List (Addr × Obj)} {σ : St} {H : Hp} {s : Shared} {T : String} {x : V} {v : Value} (I : Inv X pins σ H s) (r : RelV x v) (ty : tyV X.K T x H) :
    s.TypeIs v T ∧ ∀ a, v = .ref a → ∃ ob, s.heap.get? a = some ob ∧ ob.dict = none := by
  cases x with
  | str z =>
    obtain ⟨t, rfl⟩ := r
    cases (show T = "str" from ty)
    exact ⟨typeIs_str s z t, fun _ e => nomatch e⟩
  | int i =>
    obtain ⟨t, rfl⟩ := r
    cases (show T = "int" from ty)
    exact ⟨typeIs_int s i t, fun _ e => nomatch e⟩
  | ref p =>
    cases r
    rcases ty with ⟨rfl, xs, hq⟩ | ⟨rfl, o, hk, hc, hd⟩ | ⟨rfl, hk⟩ | ⟨rfl, S, n, hk⟩
    · obtain ⟨its, _, pl, _⟩ := I.list hq
      refine ⟨pl.isList.typeIs, fun a e => ?_⟩
      cases e
      obtain ⟨o, n, e, c, hd, _⟩ := pl
      exact ⟨o, e, hd⟩
    · refine ⟨⟨o, I.kIn p o hk, hc⟩, fun a e => ?_⟩
      cases e
      exact ⟨o, I.kIn _ o hk, hd⟩
    · have z : ∃ o, s.heap.get? p = some o ∧ o.ExactDict := by
        rcases hk with ⟨kvs, hk⟩ | ⟨kvs, hk⟩
        · obtain ⟨_, _, _, _, o, _, _, e, ex, _⟩ := I.hok p _ hk
          exact ⟨o, e, ex⟩
        · obtain ⟨_, _, _, _, o, _, _, e, ex, _⟩ := I.hok p _ hk
          exact ⟨o, e, ex⟩
      obtain ⟨o, e, ex⟩ := z
      refine ⟨⟨o, e, ex.1⟩, fun a e2 => ?_⟩
      cases e2
      exact ⟨o, e, ex.2.1⟩
    · obtain ⟨o, _, _, _, e, ex, _⟩ := I.hok p _ hk
      refine ⟨⟨o, e, ex.1⟩, fun a e2 => ?_⟩
      cases e2
      exact ⟨o, e, ex.2.1⟩
  | _ => exact False.elim ty
def tBM0 (K : PySem.W.Frag) (T : String) (r : V → List V → Hp → VK → Prop) (to : TE) : TE := fun σ H Q => to σ H fun x H1 => tyV K T x H1 ∧ r x [] H1 Q
def tBM (K : PySem.W.Frag) (T : String) (r : V → List V → Hp → VK → Prop) (to : TE) (t : TA) : TE := fun σ H Q => to σ H fun x H1 => tyV K T x H1 ∧ t σ H1 fun xs H2 => r x xs H2 Q
variable {o e : Expr} {es : List Expr} {to : TE} {t : TA} {name : Str} {apos cpos : Pos} {T id : String} {r : V → List V → Hp → VK → Prop}
theorem pe_bm (pa : PlainAttrs T) (slot : Slot T name id) (hty : typeOf (.builtin id) = pure (.type "method_descriptor")) (hm : MtR X id r) (ho : PE X o to) (ha : PA X (e :: es) t)
    (hbase : attributeBase o name X.env (eval o X.env) = eval o X.env := by rfl)
    (hfew : ((backTo cpos (starEach (e :: es) X.env)).all (fun x => !x.1) && (backToKw cpos (keywordEach [] X.env)).all (fun x => x.1.isSome)
      && decide ((e :: es).length + ([] : List Keyword).length + (if ([] : List Keyword).isEmpty then 0 else 1) < 30)) = true := by rfl)
    (hline : (apos.endLine == cpos.line) = true := by rfl) (hs : starEach (e :: es) X.env = (false, eval e X.env) :: starEach es X.env := by rfl) (hplain : (backTo cpos (starEach es X.env)).any (·.1) = false := by rfl) :
    PE X (.Call (.Attribute o name apos) (e :: es) [] cpos) (tBM X.K T r to t) := by
  intro pins s σ H Q I h
  refine wpAny_Call_method_late hbase hfew hline rfl (thn (ho pins s σ H _ I h) fun v s1 ⟨x, H1, I1, r1, ty, q1⟩ => ?_)
  obtain ⟨h1, h2⟩ := tyV_is I1 r1 ty
  refine ⟨T, id, pa, slot, hty, h1, h2, ?_⟩
  have hA := ha cpos pins s1 σ H1 _ I1 q1
  rw [hs] at hA ⊢
  refine Calls.callWith_builtin (by show (false || (backTo cpos (starEach es X.env)).any (·.1)) = false; rw [hplain] <;> rfl) (Calls.evalArgs_plain ?_)
  exact thn hA fun us s2 ⟨vs, H2, I2, r2, q2⟩ => hm pins s2 σ H2 x vs v us Q I2 r1 r2 q2
/- xs.append(e), list.index on a module's tuple .. are MtR facts of 06m -/
end
end L2

namespace L2
open PySem PySem.Spec PyProof.Rows

def MtM (X : Cx) (id : String) (r : V → List V → Hp → VK → Prop) : Prop :=
  ∀ (pins : List (Addr × Obj)) (s : Shared) (σ : St) (H : Hp) (x : V) (xs : List V) (v : Value) (us : List Value) (Q : VK), Inv X pins σ H s → RelV x v → Vals xs us → r x xs H Q →
    wpAny (model X.prog X.w) X.A (call (.builtin id) (v :: us)) (EP X pins σ Q) X.xe s

/-! ### lists of values -/
theorem Vals.one : ∀ {x : V} {us : List Value}, Vals [x] us → ∃ u, us = [u] ∧ RelV x u
  | _, _, .cons r .nil => ⟨_, rfl, r⟩
theorem Vals.two : ∀ {x y : V} {us : List Value}, Vals [x, y] us → ∃ u v, us = [u, v] ∧ RelV x u ∧ RelV y v
  | _, _, _, .cons r (.cons q .nil) => ⟨_, _, rfl, r, q⟩
theorem Vals.zero : ∀ {us : List Value}, Vals [] us → us = []
  | _, .nil => rfl
theorem Vals.dropLast {xs : List V} {us : List Value} (h : Vals xs us) : Vals xs.dropLast us.dropLast := by
  induction h with
  | nil => exact .nil
  | cons r t ih =>
    cases t with
    | nil => exact .nil
    | cons q t' => exact .cons r ih
theorem Vals.eraseIdx : ∀ {xs : List V} {us : List Value} (i : Nat), Vals xs us → Vals (xs.eraseIdx i) (us.eraseIdx i)
  | _, _, _, .nil => .nil
  | _, _, 0, .cons _ t => t
  | _, _, i + 1, .cons r t => .cons r (Vals.eraseIdx i t)
theorem Vals.reverse {xs : List V} {us : List Value} (h : Vals xs us) : Vals xs.reverse us.reverse := by
  induction h with
  | nil => exact .nil
  | cons r t ih => rw [List.reverse_cons, List.reverse_cons]; exact Vals.append ih (.cons r .nil)
theorem Vals.rep {xs : List V} {us : List Value} (h : Vals xs us) : ∀ k : Nat, Vals (List.replicate k xs).flatten (List.replicate k us).flatten
  | 0 => .nil
  | k + 1 => by
    rw [List.replicate_succ, List.replicate_succ, List.flatten_cons, List.flatten_cons]
    exact Vals.append h (Vals.rep h k)
theorem foldl_rep (its : List Value) : ∀ (k : Nat) (acc : List Value),
    List.foldl (fun x1 x2 => x1 ++ x2) acc.toArray (List.replicate k its.toArray) = (acc ++ (List.replicate k its).flatten).toArray
  | 0, acc => by simp
  | k + 1, acc => by
    have e : acc.toArray ++ its.toArray = (acc ++ its).toArray := by simp
    have e2 : (acc ++ its) ++ (List.replicate k its).flatten = acc ++ (List.replicate (k + 1) its).flatten := by
      rw [List.replicate_succ, List.flatten_cons, List.append_assoc]
    rw [← e2, ← foldl_rep its k (acc ++ its), ← e, List.replicate_succ, List.foldl_cons]

section
variable {X : Cx} {pins : List (Addr × Obj)} {σ : St} {H : Hp} {s : Shared} {l b : Addr} {xs ys zs : List V}

/-! ### the two steps: a tracked list is rewritten, a new list is laid -/
theorem Inv.lset {its its' : List Value} {n : Nat} {f : Array Value → Array Value} {t' : Nat} (I : Inv X pins σ H s) (hH : H l = some (.lst xs))
    (e : s.heap.get? l = some { cls := .type "list", data := .seq its.toArray n }) (hf : f its.toArray = its'.toArray) (hv : Vals ys its') (hz : ys.length ≤ sizeLine) :
    Inv X pins σ (upd H l (.lst ys)) { s with heap := s.heap.update l (Obj.mapSeq f), toks := t' } := by
  have q := PySem.IsL.update e f
  rw [hf] at q
  refine I.write (x := l) (e := l) (by rw [hH]; exact trivial) (.inl rfl) (fun b' u hb hu => (Heap.get?_update_other s.heap (Obj.mapSeq f) (Ne.symm hb)).trans hu) ⟨_, q⟩ ?_
  exact ⟨hz, its', _, hv, q⟩
theorem Inv.lnew {its : List Value} {t' : Nat} (I : Inv X pins σ H s) (hv : Vals ys its) (hz : ys.length ≤ sizeLine) :
    Inv X pins σ (upd H s.heap.objs.size (.lst ys)) { s with heap := s.heap.push { cls := .type "list", data := .seq its.toArray }, toks := t' } :=
  I.laid (fun _ _ q => Heap.get?_push_of_some _ q) (Nat.le_refl _) ⟨hz, its, 0, hv, Heap.get?_push_size _ rfl⟩
theorem Inv.fresh (I : Inv X pins σ H s) : H s.heap.objs.size = none := I.hok.fresh (Nat.le_refl _)
theorem Inv.lstM (I : Inv X pins σ H s) (hH : H l = some (.lst xs)) : xs.length ≤ sizeLine ∧ ∃ (its : List Value) (n : Nat), Vals xs its ∧ xs.length = its.length ∧ s.heap.get? l = some { cls := .type "list", data := .seq its.toArray n } := by
  obtain ⟨z, its, n, r, e⟩ := I.hok l _ hH
  exact ⟨z, its, n, r, r.length, e⟩

theorem notLongL {n : Nat} (h : n ≤ sizeLine) : Builtin.List.listTooLong n = false := by
  unfold Builtin.List.listTooLong
  exact decide_eq_false (by omega)
end

section
variable {X : Cx}

/-! ### methods -/
def rAppend : V → List V → Hp → VK → Prop := fun x vs H Q => ∃ l xs y, x = .ref l ∧ vs = [y] ∧ H l = some (.lst xs) ∧ xs.length < sizeLine ∧ Q .non (upd H l (.lst (xs ++ [y])))
theorem mt_append : MtM X "list.append" rAppend := by
  intro pins s σ H x vs v us Q I rx rv h
  obtain ⟨l, xs, y, rfl, rfl, hH, hz, q⟩ := h
  cases rx
  obtain ⟨u, rfl, ru⟩ := rv.one
  obtain ⟨z, its, n, r, hl, e⟩ := I.lstM hH
  refine call_meets F.slot_list_append ⟨_, e, rfl⟩ F.entry_list_append (F.args_list_append_2 _ _) (PySem.list_append l its.toArray n u (by rw [List.size_toArray]; omega)) ⟨e, ?_⟩
  refine ⟨.non, _, I.lset (its' := its ++ [u]) hH e (by simp) (r.append (.cons ru .nil)) ?_, rfl, q⟩
  rw [List.length_append, List.length_singleton]
  omega

def rExtend : V → List V → Hp → VK → Prop := fun x vs H Q => ∃ l b xs zs, x = .ref l ∧ vs = [.ref b] ∧ H l = some (.lst xs) ∧ H b = some (.lst zs) ∧ xs.length + zs.length ≤ sizeLine ∧ Q .non (upd H l (.lst (xs ++ zs)))
theorem mt_extend : MtM X "list.extend" rExtend := by
  intro pins s σ H x vs v us Q I rx rv h
  obtain ⟨l, b, xs, zs, rfl, rfl, hH, hB, hz, q⟩ := h
  cases rx
  obtain ⟨u, rfl, ru⟩ := rv.one
  cases ru
  obtain ⟨z, its, n, r, hl, e⟩ := I.lstM hH
  obtain ⟨z2, its2, n2, r2, hl2, e2⟩ := I.lstM hB
  have hsz : its.toArray.size + its2.toArray.size ≤ sizeLine := by rw [List.size_toArray, List.size_toArray]; omega
  have hlong : ¬ (!its.toArray.isEmpty && Builtin.List.listTooLong (its.toArray.size + its2.toArray.size)) = true := by
    rw [notLongL hsz, Bool.and_false]
    exact Bool.false_ne_true
  refine call_meets F.slot_list_extend ⟨_, e, rfl⟩ F.entry_list_extend (F.args_list_extend_2 _ _)
    (AutoSeq1.list_extend_list_list_0 l its.toArray n b its2.toArray n2 hlong (by rw [List.size_toArray]; omega) (by omega)) ⟨e, e2, ?_⟩
  refine ⟨.non, _, I.lset (its' := its ++ its2) hH e (by simp) (r.append r2) ?_, rfl, q⟩
  rw [List.length_append]
  omega

def rPop : V → List V → Hp → VK → Prop := fun x vs H Q => ∃ l xs y, x = .ref l ∧ vs = [] ∧ H l = some (.lst xs) ∧ xs[xs.length - 1]? = some y ∧ Q y (upd H l (.lst xs.dropLast))
def rPopAt : V → List V → Hp → VK → Prop := fun x vs H Q => ∃ l xs i k y, x = .ref l ∧ vs = [.int i] ∧ H l = some (.lst xs) ∧ -(2 ^ 63) ≤ i ∧ i < 2 ^ 63 ∧ seqIndex? i xs.length = some k ∧ xs[k]? = some y ∧ Q y (upd H l (.lst (xs.eraseIdx k)))
def rReverse : V → List V → Hp → VK → Prop := fun x vs H Q => ∃ l xs, x = .ref l ∧ vs = [] ∧ H l = some (.lst xs) ∧ Q .non (upd H l (.lst xs.reverse))
def rClear : V → List V → Hp → VK → Prop := fun x vs H Q => ∃ l xs, x = .ref l ∧ vs = [] ∧ H l = some (.lst xs) ∧ Q .non (upd H l (.lst []))
/-! ### list + list, list += list, list * int -/
def rCat : R2 := fun x y H Q => ∃ l b xs zs, x = .ref l ∧ y = .ref b ∧ H l = some (.lst xs) ∧ H b = some (.lst zs) ∧ xs.length + zs.length ≤ sizeLine ∧ ∀ p, H p = none → Q (.ref p) (upd H p (.lst (xs ++ zs)))
/-- a list times an int (a negative one is nothing) -/
def rRep : R2 := fun x y H Q => ∃ l k xs, x = .ref l ∧ y = .int k ∧ H l = some (.lst xs) ∧ -(2 ^ 63) ≤ k ∧ k < 2 ^ 63 ∧ xs.length * k.toNat ≤ sizeLine ∧
  ∀ p, H p = none → Q (.ref p) (upd H p (.lst (List.replicate k.toNat xs).flatten))
theorem len_rep {α : Type} (xs : List α) (k : Nat) : (List.replicate k xs).flatten.length = k * xs.length := by
  induction k with
  | zero => simp
  | succ k ih => rw [List.replicate_succ, List.flatten_cons, List.length_append, ih, Nat.succ_mul, Nat.add_comm]
theorem op_rep : OpR X (binaryOp .Mult) rRep := by
  intro pins s σ H x y v u Q I rx ry h
  obtain ⟨l, k, xs, rfl, rfl, hH, h1, h2, hz, q⟩ := h
  cases rx
  obtain ⟨t, rfl⟩ := ry
  obtain ⟨z, its, n, r, hl, e⟩ := I.lstM hH
  have hlen : its.toArray.size * k.toNat ≤ sizeLine := by rw [List.size_toArray, ← hl]; exact hz
  have hcap : ¬ its.toArray.size * k.toNat > (2 ^ 63 - 1) / 8 := by
    have : (sizeLine : Nat) ≤ (2 ^ 63 - 1) / 8 := by decide
    omega
  have hfit : ¬ (!Builtin.List.listFitsIndex k) = true := by
    rw [fitsIndex_both h1 h2]
    exact Bool.false_ne_true
  have hlong : ¬ Builtin.List.listTooLong (its.toArray.size * k.toNat) = true := by
    rw [notLongL hlen]
    exact Bool.false_ne_true
  have hnew : List.foldl (fun x1 x2 => x1 ++ x2) #[] (List.replicate (if its.toArray.isEmpty = true then 0 else k.toNat) its.toArray) = (List.replicate k.toNat its).flatten.toArray := by
    have f0 : ∀ m : Nat, List.foldl (fun x1 x2 => x1 ++ x2) #[] (List.replicate m its.toArray) = (List.replicate m its).flatten.toArray := fun m => by
      have := foldl_rep its m []
      rw [List.nil_append] at this
      exact this
    rw [f0]
    cases its with
    | nil => simp
    | cons a r' => rw [if_neg (by simp)]
  refine wpAny_binaryOp_repeat_ref (T := "list") (U := "int") (by decide) ⟨_, e, rfl⟩ (fun s' => typeIs_int s' k t) noFill_list_mul F.fills_int_mul F.slot_int_rmul repeat_list F.slot_int_index.lookup
    (call_meets F.slot_int_rmul (typeIs_int s k t) F.entry_int_rmul (F.args_int_rmul_2 _ _) (int___rmul___int_list k t l its.toArray n)
      ⟨e, rfl, ⟨_, e, rfl⟩, call_meets F.slot_list_mul ⟨_, e, rfl⟩ F.entry_list_mul (F.args_list_mul_2 _ _) (AutoListH.list___mul___list_int_3 l its.toArray n k t hfit hcap hlong) ⟨e, ?_⟩⟩)
  rw [hnew]
  exact ⟨.ref _, _, I.lnew (t' := s.toks) (r.rep k.toNat) (by rw [len_rep, Nat.mul_comm]; exact hz), rfl, q _ I.fresh⟩

/-! ### del xs[i] -/
end

/-! ### xs[a:b] = ys -/
section
variable {prog : Program} {w : World} {A : Around} {E : Value → Shared → Prop} {s : Shared}
end

section
variable {X : Cx}
end
end L2

namespace L2
open PySem PySem.Spec PyProof.Rows

theorem Vals.ints : ∀ {ns : List Int} {us : List Value}, Vals (ns.map V.int) us → IntsAre us ns
  | [], us, h => by
    rw [List.map_nil] at h
    cases h
    exact IntsAre.nil
  | n :: ns, us, h => by
    rw [List.map_cons] at h
    cases h with
    | cons r t =>
      obtain ⟨k, rfl⟩ := r
      exact IntsAre.cons n k (Vals.ints t)
theorem Vals.strs : ∀ {xs : List Str} {us : List Value}, Vals (xs.map V.str) us → StrsAre us xs
  | [], us, h => by
    rw [List.map_nil] at h
    cases h
    exact StrsAre.nil
  | x :: xs, us, h => by
    rw [List.map_cons] at h
    cases h with
    | cons r t =>
      obtain ⟨k, rfl⟩ := r
      exact StrsAre.cons x k (Vals.strs t)
theorem Vals.bls : ∀ {bs : List Bool} {us : List Value}, Vals (bs.map V.bl) us → us = bs.map Value.bool
  | [], us, h => by
    rw [List.map_nil] at h
    cases h
    rfl
  | b :: bs, us, h => by
    rw [List.map_cons] at h
    cases h with
    | cons r t =>
      cases r
      rw [Vals.bls t, List.map_cons]
theorem Vals.ref1 {a : Addr} {us : List Value} (r : Vals [V.ref a] us) : us = [Value.ref a] := by
  cases r with
  | cons r t =>
    cases t
    cases r
    rfl
/-! ### the library's walks over a list of ints, kept objects alone -/
section
variable {prog : Program} {w : World} {A : Around} {E : Value → Shared → Prop} {s : Shared} {l : Addr} {its : List Value} {ns : List Int} {Q : Value → Shared → Prop}
theorem sum_raw (hh : A.handled = none) (hl : s.heap.IsList l its.toArray) (hi : IntsAre its ns)
    (h : ∀ h' tk t', (∀ b o, s.heap.get? b = some o → h'.get? b = some o) → Q (.int ns.sum t') { s with heap := h', toks := tk }) : wpAny (model prog w) A (call (.builtin "sum") [.ref l]) Q E s := by
  obtain ⟨xs, e⟩ := hi.allInts.items
  have hn : numsOf (intItems xs).toList = ns := by rw [← e]; exact hi.numsOf
  rw [nums_intItems] at hn
  rw [e] at hl
  refine PySem.sum_intListG hh hl fun h' tk t' hk => ?_
  have := h h' tk t' hk
  rw [preSum_eq, List.take_of_length_le (by simp), hn]; exact this
theorem max_raw (hh : A.handled = none) (hl : s.heap.IsList l its.toArray) (hi : IntsAre its ns) (hne : 0 < ns.length)
    (h : ∀ h' tk M t', (∀ b o, s.heap.get? b = some o → h'.get? b = some o) → M ∈ ns → (∀ a, a ∈ ns → a ≤ M) → Q (.int M t') { s with heap := h', toks := tk }) : wpAny (model prog w) A (call (.builtin "max") [.ref l]) Q E s := by
  obtain ⟨xs, e⟩ := hi.allInts.items
  have hn : numsOf (intItems xs).toList = ns := by rw [← e]; exact hi.numsOf
  rw [nums_intItems] at hn
  subst hn
  rw [e] at hl
  have hsz : 0 < xs.size := by simpa using hne
  refine PySem.max_intList hh hl hsz fun v h' tk hv hk => ?_
  obtain ⟨t, rfl⟩ := intItems_at hv
  obtain ⟨h1, h2⟩ := argBest_gt (numAt xs) (xs.size - 1)
  refine h h' tk _ t hk ?_ fun a ha => ?_
  · rw [numAt_eq]; exact PySem.getD_mem (by rw [List.length_map, Array.length_toList]; omega)
  · obtain ⟨j, hj, rfl⟩ := mem_getD ha
    rw [List.length_map, Array.length_toList] at hj
    rw [← numAt_eq]; exact h2 j (by omega)
end

/-! ### the calls, by values (CallR of 03t; MtR of 06l) -/
section
variable {X : Cx}
/-- sum(xs) of a list of ints -/
def rSum (K : PySem.W.Frag) : List V → Hp → VK → Prop := fun vs H Q => ∃ (a : Addr) (ns : List Int), vs = [V.ref a] ∧ SqL K H a (ns.map V.int) ∧ Q (.int ns.sum) H
/-- max(xs), min(xs) of a list of ints -/
def rMax (K : PySem.W.Frag) : List V → Hp → VK → Prop := fun vs H Q => ∃ (a : Addr) (ns : List Int), vs = [V.ref a] ∧ SqL K H a (ns.map V.int) ∧ 0 < ns.length ∧ ∀ m, m ∈ ns → (∀ y, y ∈ ns → y ≤ m) → Q (.int m) H
def rMin (K : PySem.W.Frag) : List V → Hp → VK → Prop := fun vs H Q => ∃ (a : Addr) (ns : List Int), vs = [V.ref a] ∧ SqL K H a (ns.map V.int) ∧ 0 < ns.length ∧ ∀ m, m ∈ ns → (∀ y, y ∈ ns → m ≤ y) → Q (.int m) H
theorem cr_sum (hc : X.calm = true) : CallR X (.builtin "sum") (rSum X.K) := by
  intro pins s σ H vs us Q I r h
  obtain ⟨a, ns, rfl, hs, q⟩ := h
  obtain ⟨its, rv, hl, _⟩ := I.list hs
  rw [Vals.ref1 r]
  exact sum_raw (I.ok.hd hc) hl.isList rv.ints fun h' tk t' hk => ⟨.int _, H, I.kept hk, ⟨_, rfl⟩, q⟩
theorem cr_max (hc : X.calm = true) : CallR X (.builtin "max") (rMax X.K) := by
  intro pins s σ H vs us Q I r h
  obtain ⟨a, ns, rfl, hs, hne, q⟩ := h
  obtain ⟨its, rv, hl, _⟩ := I.list hs
  rw [Vals.ref1 r]
  exact max_raw (I.ok.hd hc) hl.isList rv.ints hne fun h' tk m t' hk h1 h2 => ⟨.int _, H, I.kept hk, ⟨_, rfl⟩, q m h1 h2⟩
/-! sorted, sort (fewer than 64 items: the library's own bound) -/
def rSorted (K : PySem.W.Frag) : List V → Hp → VK → Prop := fun vs H Q => ∃ (a : Addr) (ns : List Int), vs = [V.ref a] ∧ SqL K H a (ns.map V.int) ∧ ns.length < 64 ∧
  ∀ (ns' : List Int) (p : Addr), ns'.Perm ns → ns'.Pairwise (· ≤ ·) → H p = none → Q (.ref p) (upd H p (.lst (ns'.map V.int)))
def rSortedS (K : PySem.W.Frag) : List V → Hp → VK → Prop := fun vs H Q => ∃ (a : Addr) (xs : List Str), vs = [V.ref a] ∧ SqL K H a (xs.map V.str) ∧ xs.length < 64 ∧
  ∀ (ys : List Str) (p : Addr), ys.Perm xs → sortedS ys = true → H p = none → Q (.ref p) (upd H p (.lst (ys.map V.str)))
/-- xs.sort(), ints -/
def rSort : V → List V → Hp → VK → Prop := fun x xs H Q => ∃ (a : Addr) (ns : List Int), x = V.ref a ∧ xs = [] ∧ H a = some (.lst (ns.map V.int)) ∧ ns.length < 64 ∧
  ∀ ns' : List Int, ns'.Perm ns → ns'.Pairwise (· ≤ ·) → Q .non (upd H a (.lst (ns'.map V.int)))
end

/-! ### list.index, flat items -/
section
variable {X : Cx}
def rIndex (K : PySem.W.Frag) : V → List V → Hp → VK → Prop := fun x xs H Q => ∃ (a : Addr) (ys : List V) (y : V) (j : Nat) (z : V), x = V.ref a ∧ xs = [y] ∧ SqL K H a ys ∧ flatV y = true ∧ ys.all flatV = true ∧ ys[j]? = some z ∧ eqV z y = true ∧
  (∀ (m : Nat) (z' : V), m < j → ys[m]? = some z' → eqV z' y = false) ∧ Q (.int (j : Nat)) H
end

/-! ### type(x) of an own instance; is, is not of a module's class -/
section
variable {X : Cx}
end

/-! ### any(xs), all(xs) of a list of bools -/
theorem iter_any {prog : Program} {w : World} {A : Around} {E : Value → Shared → Prop} {s : Shared} {l : Addr} {items : Array Value} {Q : Value → Shared → Prop} (hl : s.heap.IsList l items)
    (h : ∀ s₂ : Shared, s₂ = { s with heap := s.heap.push { cls := .type "list_iterator", data := .fields #[.ref l, .int 0 0] } } →
      (s₂.heap.IsListIter s.heap.objs.size l 0 ∧ s₂.heap.IsList l items) → l ≠ s.heap.objs.size → Q (.ref s.heap.objs.size) s₂) : wpAny (model prog w) A (pyIter (.ref l)) Q E s := by
  have hlt : l < s.heap.objs.size := by obtain ⟨_, e, _⟩ := hl; exact Heap.lt_size e
  exact wpAny_pyIter_list hl (h _ rfl ⟨⟨_, Heap.get?_push_size _ rfl, rfl, rfl⟩, hl.push _⟩ (Nat.ne_of_lt hlt))
theorem truth_bools {prog : Program} {w : World} {A : Around} {bs : List Bool} {its : List Value} (e : its = bs.map Value.bool) :
    TruthOf prog w A (fun i v => its.toArray[i]? = some v) (fun i => bs.getD i false) := fun i v s Q E hv hq => by
  have hv' : its[i]? = some v := by simpa using hv
  rw [e, List.getElem?_map] at hv'
  obtain ⟨b, hb, rfl⟩ := Option.map_eq_some_iff.mp hv'
  have hg : bs.getD i false = b := by rw [List.getD_eq_getElem?_getD, hb] <;> rfl
  have hq' : Q (bs.getD i false) s := hq
  rw [hg] at hq'
  exact wpAny_truthy_bool hq'
theorem any_range : ∀ bs : List Bool, (List.range bs.length).any (fun i => bs.getD i false) = bs.any id
  | [] => rfl
  | b :: bs => by
    rw [List.length_cons, List.range_succ_eq_map, List.any_cons, List.any_map, List.any_cons, ← any_range bs]
    all_goals rfl
theorem all_range : ∀ bs : List Bool, (List.range bs.length).all (fun i => bs.getD i false) = bs.all id
  | [] => rfl
  | b :: bs => by
    rw [List.length_cons, List.range_succ_eq_map, List.all_cons, List.all_map, List.all_cons, ← all_range bs]
    all_goals rfl
section
variable {X : Cx}
def rAny (K : PySem.W.Frag) : List V → Hp → VK → Prop := fun vs H Q => ∃ (a : Addr) (bs : List Bool), vs = [V.ref a] ∧ SqL K H a (bs.map V.bl) ∧ Q (.bl (bs.any id)) H
def rAll (K : PySem.W.Frag) : List V → Hp → VK → Prop := fun vs H Q => ∃ (a : Addr) (bs : List Bool), vs = [V.ref a] ∧ SqL K H a (bs.map V.bl) ∧ Q (.bl (bs.all id)) H
theorem cr_any (hc : X.calm = true) : CallR X (.builtin "any") (rAny X.K) := by
  intro pins s σ H vs us Q I r h
  obtain ⟨a, bs, rfl, hs, q⟩ := h
  obtain ⟨its, rv, hl, _⟩ := I.list hs
  rw [Vals.ref1 r]
  have hb := rv.bls
  refine call_any_walk (iter_any hl.isList fun s₂ e2 st hne => ?_)
  subst e2
  refine ⟨_, _, _, _, _, _, _, rfl, Walks.list (A := X.A.in1) (I.ok.hd hc) _ a hne its.toArray, st, truth_bools hb, fun h' tk hk => ?_⟩
  refine ⟨.bl _, H, I.kept fun b o eo => hk b o (fun hmem => ?_) (Heap.get?_push_of_some _ eo), ?_, q⟩
  · rcases List.mem_cons.mp hmem with e1 | hmem
    · exact absurd (e1 ▸ Heap.lt_size eo) (Nat.lt_irrefl _)
    · cases hmem
  · show Value.bool _ = Value.bool _
    rw [← any_range, hb, List.size_toArray, List.length_map]
theorem cr_all (hc : X.calm = true) : CallR X (.builtin "all") (rAll X.K) := by
  intro pins s σ H vs us Q I r h
  obtain ⟨a, bs, rfl, hs, q⟩ := h
  obtain ⟨its, rv, hl, _⟩ := I.list hs
  rw [Vals.ref1 r]
  have hb := rv.bls
  refine call_all_walk (iter_any hl.isList fun s₂ e2 st hne => ?_)
  subst e2
  refine ⟨_, _, _, _, _, _, _, rfl, Walks.list (A := X.A.in1) (I.ok.hd hc) _ a hne its.toArray, st, truth_bools hb, fun h' tk hk => ?_⟩
  refine ⟨.bl _, H, I.kept fun b o eo => hk b o (fun hmem => ?_) (Heap.get?_push_of_some _ eo), ?_, q⟩
  · rcases List.mem_cons.mp hmem with e1 | hmem
    · exact absurd (e1 ▸ Heap.lt_size eo) (Nat.lt_irrefl _)
    · cases hmem
  · show Value.bool _ = Value.bool _
    rw [← all_range, hb, List.size_toArray, List.length_map]
end

/-! ### == and != of data at any depth: none, bools, ints, texts, lists, tuples -/
mutual
inductive Dp (K : PySem.W.Frag) (H : Hp) : V → PyData → Prop
  | non : Dp K H .non .none
  | bl (b : Bool) : Dp K H (.bl b) (.bool b)
  | int (i : Int) : Dp K H (.int i) (.int i)
  | str (x : Str) : Dp K H (.str x) (.str x)
  | lst {a : Addr} {xs : List V} {ds : List PyData} : SqL K H a xs → DpAll K H xs ds → Dp K H (.ref a) (.list ds)
  | tup {a : Addr} {xs : List V} {ds : List PyData} : SqT K H a xs → DpAll K H xs ds → Dp K H (.ref a) (.tuple ds)
inductive DpAll (K : PySem.W.Frag) (H : Hp) : List V → List PyData → Prop
  | nil : DpAll K H [] []
  | cons {v : V} {vs : List V} {d : PyData} {ds : List PyData} : Dp K H v d → DpAll K H vs ds → DpAll K H (v :: vs) (d :: ds)
end
section
variable {X : Cx} {pins : List (Addr × Obj)} {σ : St} {H : Hp} {s : Shared}
mutual
theorem Dp.reads (I : Inv X pins σ H s) : ∀ (d : PyData) (v : V) (u : Value), Dp X.K H v d → RelV v u → ∃ as, Reads s.heap u d as
  | .none, _, _, h, r => by
    cases h
    cases r
    exact ⟨_, Reads.none⟩
  | .bool b, _, _, h, r => by
    cases h
    cases r
    exact ⟨_, Reads.bool b⟩
  | .int i, _, _, h, r => by
    cases h
    obtain ⟨t, rfl⟩ := r
    exact ⟨_, Reads.int i t⟩
  | .str x, _, _, h, r => by
    cases h
    obtain ⟨t, rfl⟩ := r
    exact ⟨_, Reads.str x t⟩
  | .list ds, _, _, h, r => by
    cases h with
    | lst hs ha =>
      cases r
      obtain ⟨its, rv, ⟨o, n, ho, hc, _, hd⟩, _⟩ := I.list hs
      obtain ⟨as, hr⟩ := Dp.readsAll I ds _ its ha rv
      exact ⟨_, Reads.list ho hc hd hr⟩
  | .tuple ds, _, _, h, r => by
    cases h with
    | tup hs ha =>
      cases r
      obtain ⟨its, rv, ⟨o, ho, hc, n, hd⟩, _⟩ := I.tuple hs
      obtain ⟨as, hr⟩ := Dp.readsAll I ds _ its ha rv
      exact ⟨_, Reads.tuple ho hc hd hr⟩
  | .dict _, _, _, h, _ => by cases h
theorem Dp.readsAll (I : Inv X pins σ H s) : ∀ (ds : List PyData) (vs : List V) (us : List Value), DpAll X.K H vs ds → Vals vs us → ∃ as, ReadsAll s.heap us ds as
  | [], _, _, h, r => by
    cases h
    cases r
    exact ⟨_, ReadsAll.nil⟩
  | d :: ds, _, _, h, r => by
    cases h with
    | cons h1 h2 =>
      cases r with
      | cons r1 r2 =>
        obtain ⟨as, q1⟩ := Dp.reads I d _ _ h1 r1
        obtain ⟨bs, q2⟩ := Dp.readsAll I ds _ _ h2 r2
        exact ⟨_, ReadsAll.cons q1 q2⟩
end
end
section
variable {X : Cx}
def rEqD (K : PySem.W.Frag) : R2 := fun x y H Q => ∃ d e, Dp K H x d ∧ Dp K H y e ∧ SeqAt.shaped d = true ∧ SeqAt.shaped e = true ∧ Q (.bl (PyData.eqv d e)) H
def rNeD (K : PySem.W.Frag) : R2 := fun x y H Q => ∃ d e, Dp K H x d ∧ Dp K H y e ∧ SeqAt.shaped d = true ∧ SeqAt.shaped e = true ∧ Q (.bl (!PyData.eqv d e)) H
theorem op_eqD (hu : X.A.units + 64 < cLine) : OpR X (compareOp .Eq) (rEqD X.K) := by
  intro pins s σ H x y v u Q I rx ry h
  obtain ⟨d, e, hd, he, sd, se, q⟩ := h
  obtain ⟨as, r1⟩ := Dp.reads I d x v hd rx
  obtain ⟨bs, r2⟩ := Dp.reads I e y u he ry
  exact SeqAt.compareEq_shaped r1 r2 sd se hu ⟨.bl _, H, I, rfl, q⟩
theorem op_neD (hu : X.A.units + 64 < cLine) : OpR X (compareOp .NotEq) (rNeD X.K) := by
  intro pins s σ H x y v u Q I rx ry h
  obtain ⟨d, e, hd, he, sd, se, q⟩ := h
  obtain ⟨as, r1⟩ := Dp.reads I d x v hd rx
  obtain ⟨bs, r2⟩ := Dp.reads I e y u he ry
  exact SeqAt.compareNe_shaped r1 r2 sd se hu ⟨.bl _, H, I, rfl, q⟩
end
end L2

namespace L2
open PySem PySem.Spec PyProof.Rows
abbrev CellAt (h : Heap) (c : Addr) (v : Option Value) : Prop := h.IsCell c v
def relS (scope sc : Scope) : Scope :=
  { scope with names := scope.names.map fun (n, k) => if (k == .free && sc.kind == .function && sc.names.lookup n == some .cell) then (n, .cell) else (n, k) }

def cloFrom (cells : List (Str × Addr)) : List (Str × NameKind) → List (Str × Addr) → List (Str × Addr)
  | [], acc => acc
  | (n, k) :: r, acc => if k == .free then cloFrom cells r ((n, (cells.lookup n).getD 0) :: acc) else cloFrom cells r acc

theorem closure_loop (env : Env) (f : Str × NameKind → List (Str × Addr) → Sem (ForInStep (List (Str × Addr))))
    (hf : ∀ n k c, f (n, k) c = if k == .free then (do let a ← cellOf env n; pure (.yield ((n, a) :: c))) else pure (.yield c)) :
    ∀ (names : List (Str × NameKind)) (acc : List (Str × Addr)), (∀ y ∈ names, y.2 = .free → ∃ c, env.cells.lookup y.1 = some c) → forIn names acc f = pure (cloFrom env.cells names acc)
  | [], acc, _ => by rw [List.forIn_nil]; rfl
  | (n, k) :: r, acc, h => by
    rw [List.forIn_cons, hf]
    have ih := fun acc => closure_loop env f hf r acc fun y hy => h y (List.mem_cons_of_mem _ hy)
    unfold cloFrom
    by_cases hk : (k == NameKind.free) = true
    · rw [if_pos hk, if_pos hk]
      obtain ⟨c, hc⟩ := h (n, k) List.mem_cons_self (by simpa using hk)
      have e : cellOf env n = pure c := by unfold cellOf; rw [hc]
      rw [e]
      have e2 : (env.cells.lookup n).getD 0 = c := by rw [hc]; rfl
      rw [e2]
      exact ih _
    · rw [if_neg hk, if_neg hk]
      exact ih _
theorem closure_ok {scope : Scope} {env : Env} (h : ∀ y ∈ scope.names, y.2 = .free → ∃ c, env.cells.lookup y.1 = some c) : closureFor scope env = pure (cloFrom env.cells scope.names []) := by
  simp only [closureFor]
  rw [closure_loop env _ (fun n k c => rfl) scope.names [] h]
  rfl

theorem mem_lookup {α : Type} : ∀ {l : List (Str × α)} {n : Str} {c : α}, (n, c) ∈ l → ∃ c', l.lookup n = some c'
  | (k, v) :: r, n, c, h => by
    rw [List.lookup_cons]
    cases hb : n == k with
    | true => exact ⟨_, rfl⟩
    | false =>
      rcases List.mem_cons.mp h with e | h
      · cases e; simp at hb
      · exact mem_lookup h

theorem cloFrom_mem {cells : List (Str × Addr)} : ∀ {names : List (Str × NameKind)} {acc : List (Str × Addr)} {n : Str} {c : Addr}, (n, c) ∈ cloFrom cells names acc → (n, c) ∈ acc ∨ ((n, .free) ∈ names ∧ c = (cells.lookup n).getD 0)
  | [], _, _, _, h => .inl h
  | (m, k) :: r, acc, n, c, h => by
    unfold cloFrom at h
    split at h
    · rename_i hk
      have hk : k = .free := by simpa using hk
      rcases cloFrom_mem h with h | ⟨h1, h2⟩
      · rcases List.mem_cons.mp h with e | h
        · cases e; exact .inr ⟨hk ▸ List.mem_cons_self, rfl⟩
        · exact .inl h
      · exact .inr ⟨List.mem_cons_of_mem _ h1, h2⟩
    · rcases cloFrom_mem h with h | ⟨h1, h2⟩
      · exact .inl h
      · exact .inr ⟨List.mem_cons_of_mem _ h1, h2⟩
theorem cloFrom_acc {cells : List (Str × Addr)} : ∀ {names : List (Str × NameKind)} {acc : List (Str × Addr)} {p : Str × Addr}, p ∈ acc → p ∈ cloFrom cells names acc
  | [], _, _, h => h
  | (m, k) :: r, acc, p, h => by
    unfold cloFrom
    split
    · exact cloFrom_acc (List.mem_cons_of_mem _ h)
    · exact cloFrom_acc h
theorem cloFrom_has {cells : List (Str × Addr)} : ∀ {names : List (Str × NameKind)} {acc : List (Str × Addr)} {n : Str}, (n, .free) ∈ names → (n, (cells.lookup n).getD 0) ∈ cloFrom cells names acc
  | (m, k) :: r, acc, n, h => by
    unfold cloFrom
    rcases List.mem_cons.mp h with e | h
    · cases e
      exact cloFrom_acc List.mem_cons_self
    · split
      · exact cloFrom_has h
      · exact cloFrom_has h

theorem cells_mem : ∀ {names : List (Str × NameKind)} {h : Heap} {acc : List (Str × Addr)} {x : Str} {c : Addr}, (x, c) ∈ cellsFrom h.objs.size names acc →
    (x, c) ∈ acc ∨ ((x, .cell) ∈ names ∧ h.objs.size ≤ c ∧ CellAt (pushCells h names) c none)
  | [], _, _, _, _, h => .inl h
  | (n, k) :: r, h, acc, x, c, hm => by
    unfold cellsFrom at hm
    unfold pushCells
    split at hm
    · rename_i hk
      rw [if_pos hk]
      have hk : k = .cell := by simpa using hk
      rw [← Heap.size_push h { cls := .type "cell", data := .cell none }] at hm
      rcases cells_mem hm with hm | ⟨h1, h2, h3⟩
      · rcases List.mem_cons.mp hm with e | hm
        · cases e
          exact .inr ⟨hk ▸ List.mem_cons_self, Nat.le_refl _, _, pushCells_keeps r _ _ _ (Heap.get?_push_size _ rfl), rfl⟩
        · exact .inl hm
      · rw [Heap.size_push] at h2
        exact .inr ⟨List.mem_cons_of_mem _ h1, Nat.le_of_succ_le h2, h3⟩
    · rename_i hk
      rw [if_neg hk]
      rcases cells_mem hm with hm | ⟨h1, h2, h3⟩
      · exact .inl hm
      · exact .inr ⟨List.mem_cons_of_mem _ h1, h2, h3⟩
theorem cells_acc : ∀ {names : List (Str × NameKind)} {n : Nat} {acc : List (Str × Addr)} {p : Str × Addr}, p ∈ acc → p ∈ cellsFrom n names acc
  | [], _, _, _, h => h
  | (m, k) :: r, n, acc, p, h => by
    unfold cellsFrom
    split
    · exact cells_acc (List.mem_cons_of_mem _ h)
    · exact cells_acc h
theorem cells_has : ∀ {names : List (Str × NameKind)} {n : Nat} {acc : List (Str × Addr)} {x : Str}, (x, .cell) ∈ names → ∃ c, (x, c) ∈ cellsFrom n names acc
  | (m, k) :: r, n, acc, x, h => by
    unfold cellsFrom
    rcases List.mem_cons.mp h with e | h
    · cases e
      exact ⟨n, cells_acc List.mem_cons_self⟩
    · split
      · exact cells_has h
      · exact cells_has h
theorem cells_inj : ∀ {names : List (Str × NameKind)} {h : Heap} {acc : List (Str × Addr)} {x y : Str} {c : Addr}, (∀ p ∈ acc, p.2 < h.objs.size) → (∀ x y c, (x, c) ∈ acc → (y, c) ∈ acc → x = y) →
    (x, c) ∈ cellsFrom h.objs.size names acc → (y, c) ∈ cellsFrom h.objs.size names acc → x = y
  | [], _, _, _, _, _, _, hi, h1, h2 => hi _ _ _ h1 h2
  | (n, k) :: r, h, acc, x, y, c, hl, hi, h1, h2 => by
    unfold cellsFrom at h1 h2
    split at h1
    · rename_i hk
      rw [if_pos hk] at h2
      rw [← Heap.size_push h { cls := .type "cell", data := .cell none }] at h1 h2
      refine cells_inj (h := h.push _) (fun p hp => ?_) (fun x y c a b => ?_) h1 h2
      · rw [Heap.size_push]
        rcases List.mem_cons.mp hp with rfl | hp
        · exact Nat.lt_succ_self _
        · exact Nat.lt_succ_of_lt (hl p hp)
      · rcases List.mem_cons.mp a with e | a <;> rcases List.mem_cons.mp b with e' | b
        · cases e; cases e'; rfl
        · cases e; exact absurd (hl _ b) (Nat.lt_irrefl _)
        · cases e'; exact absurd (hl _ a) (Nat.lt_irrefl _)
        · exact hi _ _ _ a b
    · rename_i hk
      rw [if_neg hk] at h2
      exact cells_inj hl hi h1 h2

theorem newEnv_comp {M : Model} {A : Around} {E : Value → Shared → Prop} {s : Shared} {scope : Scope} {globals : Addr} {closure : List (Str × Addr)} {qual : Str} {func : Option Addr} {code : Value} {around : Env} {builtins : Addr} {Q : Env → Shared → Prop}
    (h : Q (newEnv scope s.heap.objs.size globals (cellsFrom (s.heap.objs.size + 1) scope.names closure) qual func code (some around) builtins)
      { s with heap := pushCells (s.heap.push { cls := .type "dict", data := .dict #[] }) scope.names }) :
    wpAny M A (newFunctionEnv scope globals closure [] qual func code (some around) builtins) Q E s := by
  simp only [newFunctionEnv, Option.isSome_some, if_true]
  refine wpAny_bind (wpAny_alloc ?_)
  refine wpAny_bind (wpAny_layCells _ (fun n k c => rfl) scope.names closure _ _ ?_)
  rw [show ({ s with heap := s.heap.push { cls := .type "dict", data := .dict #[] } } : Shared).heap.objs.size = s.heap.objs.size + 1 from Heap.size_push ..]
  rw [List.forIn_nil]
  exact wpAny_bind (wpAny_pure (wpAny_pure h))

/-- every name of the written scope, in the scope that runs -/
theorem lookup_relS {sc : Scope} : ∀ {names : List (Str × NameKind)} {x : Str} {k : NameKind},
    (names.map fun (n, k) => if (k == NameKind.free && sc.kind == .function && sc.names.lookup n == some .cell) then (n, NameKind.cell) else (n, k)).lookup x = some k →
    ∃ k', names.lookup x = some k' ∧ (k = k' ∨ (k' = .free ∧ k = .cell))
  | [], _, _, h => by simp at h
  | (n, k₀) :: r, x, k, h => by
    have ih := @lookup_relS sc r x k
    have h' : List.lookup x ((if (k₀ == NameKind.free && sc.kind == .function && sc.names.lookup n == some .cell) = true then (n, NameKind.cell) else (n, k₀)) :: (r.map _)) = some k := h
    cases hx : x == n with
    | true =>
      simp only [List.lookup_cons, hx]
      by_cases hc : (k₀ == NameKind.free && sc.kind == .function && sc.names.lookup n == some .cell) = true
      · rw [if_pos hc] at h'
        simp only [List.lookup_cons, hx] at h'
        cases h'
        simp only [Bool.and_eq_true, beq_iff_eq] at hc
        exact ⟨k₀, rfl, .inr ⟨hc.1.1, rfl⟩⟩
      · rw [if_neg hc] at h'
        simp only [List.lookup_cons, hx] at h'
        cases h'
        exact ⟨_, rfl, .inl rfl⟩
    | false =>
      simp only [List.lookup_cons, hx]
      by_cases hc : (k₀ == NameKind.free && sc.kind == .function && sc.names.lookup n == some .cell) = true
      · rw [if_pos hc] at h'
        simp only [List.lookup_cons, hx] at h'
        exact ih h'
      · rw [if_neg hc] at h'
        simp only [List.lookup_cons, hx] at h'
        exact ih h'
/-- the names of a comprehension's block: its own (with their places in N), or captured -/
structure BlkOk (N : List Str) (sc scope : Scope) (own : List (Str × Nat)) : Prop where
  kind : scope.kind = .function
  uniq : ∀ y ∈ scope.names, scope.names.lookup y.1 = some y.2
  ix : ∀ p ∈ own, N[p.2]? = some p.1
  free : ∀ y ∈ scope.names, y.2 = .free → sc.names.lookup y.1 = some .cell ∨ sc.names.lookup y.1 = some .free
  own : ∀ y ∈ scope.names, y.2 = .local ∨ y.2 = .cell → y.1 ∈ own.map (·.1) ∨ y.1 ∉ N
/-- the slots of the block's own names forgotten -/
def wipe (σ : St) : List Nat → St
  | [] => σ
  | v :: vs => (wipe σ vs).set v none
theorem wipe_length (σ : St) : ∀ vs : List Nat, (wipe σ vs).length = σ.length
  | [] => rfl
  | v :: vs => by unfold wipe; rw [List.length_set, wipe_length σ vs]
theorem wipe_some {σ : St} {i : Nat} {x : V} : ∀ {vs : List Nat}, (wipe σ vs)[i]? = some (some x) → σ[i]? = some (some x) ∧ i ∉ vs
  | [], h => ⟨h, by simp⟩
  | v :: vs, h => by
    unfold wipe at h
    by_cases hi : v = i
    · subst hi
      by_cases hv : v < (wipe σ vs).length
      · rw [List.getElem?_set_self hv] at h; cases h
      · rw [List.getElem?_eq_none (by simpa using hv)] at h; cases h
    · rw [List.getElem?_set_ne hi] at h
      obtain ⟨h1, h2⟩ := wipe_some h
      exact ⟨h1, by simp only [List.mem_cons, not_or]; exact ⟨fun e => hi e.symm, h2⟩⟩

/-- the context of a block that starts at s, its iterator's objects at fp -/
abbrev Cx.blk (X : Cx) (s : Shared) (H : Hp) (scope : Scope) (cenv : Env) (fp : List Addr) : Cx := { X with s_0 := s, H_0 := H, env := cenv, outer := X.stack, ex := fp, fn := fun x => scope.names.lookup x == some .cell, pn := [], xe := fun _ _ => False }
section
variable {X : Cx} {pins : List (Addr × Obj)} {σ : St} {H : Hp} {s : Shared}
theorem block_start {scope : Scope} {own : List (Str × Nat)} {fp : List Addr} (I : Inv X pins σ H s) (ok : BlkOk X.N X.env.scope scope own) (hN : X.N.Nodup) (hfp : ∀ b ∈ fp, FpOk X pins H b ∧ b < s.heap.objs.size) :
    Inv (X.blk s H scope (compEnvC scope (cellsFrom (s.heap.objs.size + 1) scope.names (cloFrom X.env.cells scope.names [])) s.heap.objs.size X.env) fp) [] (wipe σ (own.map (·.2))) H { s with heap := pushCells (s.heap.push { cls := .type "dict", data := .dict #[] }) scope.names } := by
  have hfree : ∀ y ∈ scope.names, y.2 = .free → ∃ c, X.env.cells.lookup y.1 = some c := fun y hy e => by
    rcases ok.free y hy e with k | k
    · exact I.ok.has _ (.inl k)
    · exact I.ok.has _ (.inr k)
  generalize hcenv : compEnvC scope (cellsFrom (s.heap.objs.size + 1) scope.names (cloFrom X.env.cells scope.names [])) s.heap.objs.size X.env = cenv
  have kp : ∀ b o, s.heap.get? b = some o → (pushCells (s.heap.push { cls := .type "dict", data := .dict #[] }) scope.names).get? b = some o := fun b o e => pushCells_keeps _ _ _ _ (Heap.get?_push_of_some _ e)
  have hL : cenv.locals = s.heap.objs.size := by rw [← hcenv]; rfl
  have hcl : cenv.cells = cellsFrom (s.heap.objs.size + 1) scope.names (cloFrom X.env.cells scope.names []) := by rw [← hcenv]; rfl
  have hsc : cenv.scope = relS scope X.env.scope := by rw [← hcenv]; rfl
  rw [← Heap.size_push s.heap { cls := .type "dict", data := .dict #[] }] at hcl
  have cm : ∀ {y c}, (y, c) ∈ cloFrom X.env.cells scope.names [] → X.env.cells.lookup y = some c ∧ c < s.heap.objs.size := fun {y c} hm => by
    rcases cloFrom_mem hm with hm | ⟨h1, rfl⟩
    · cases hm
    · obtain ⟨c, hc⟩ := hfree _ h1 rfl
      rw [hc]
      obtain ⟨w, z⟩ := I.cell _ _ hc
      exact ⟨rfl, z.lt⟩
  have mem : ∀ {y c}, cenv.cells.lookup y = some c → (X.env.cells.lookup y = some c ∧ c < s.heap.objs.size) ∨ (s.heap.objs.size + 1 ≤ c ∧ CellAt (pushCells (s.heap.push { cls := .type "dict", data := .dict #[] }) scope.names) c none) := fun {y c} e => by
    rw [hcl] at e
    rcases cells_mem (PySem.mem_of_lookup e) with hm | ⟨_, h2, h3⟩
    · exact .inl (cm hm)
    · rw [Heap.size_push] at h2; exact .inr ⟨h2, h3⟩
  have look : ∀ {y}, scope.names.lookup y = some .free → ∃ c, cenv.cells.lookup y = some c ∧ X.env.cells.lookup y = some c := fun {y} hl => by
    have hy : (y, NameKind.free) ∈ scope.names := PySem.mem_of_lookup hl
    obtain ⟨c', e'⟩ := mem_lookup (cells_acc (names := scope.names) (n := (s.heap.push { cls := .type "dict", data := .dict #[] }).objs.size) (cloFrom_has (cells := X.env.cells) (acc := []) hy))
    rw [← hcl] at e'
    refine ⟨c', e', ?_⟩
    rw [hcl] at e'
    rcases cells_mem (PySem.mem_of_lookup e') with hm | ⟨h1, _, _⟩
    · exact (cm hm).1
    · have := ok.uniq _ h1
      rw [hl] at this; cases this
  have okB : (X.blk s H scope cenv fp).Ok := by
    refine ⟨I.ok.mod, by show cenv.scope.kind = _; rw [hsc]; exact ok.kind, by show cenv.globals = _; rw [← hcenv]; exact I.ok.glob, by show cenv.builtins = _; rw [← hcenv]; exact I.ok.blt, by show s.heap.objs.size ≤ cenv.locals; rw [hL]; exact Nat.le_refl _,
      fun y z c e1 e2 => ?_, fun y hy => ?_, fun y c z e => ?_, I.ok.hd, I.ok.frames, .inl rfl, fun b hb => ⟨?_, fun y c e z => ?_⟩, I.bs, Nat.le_trans I.ok.bsz I.sz, fun b o e hb => ?_, fun b hb z => ?_, I.stack, I.stkFree⟩
    · have e1 : cenv.cells.lookup y = some c := e1
      have e2 : cenv.cells.lookup z = some c := e2
      rw [hcl] at e1 e2
      refine cells_inj (fun p hp => ?_) (fun y z c a b => I.ok.inj y z c (cm a).1 (cm b).1) (PySem.mem_of_lookup e1) (PySem.mem_of_lookup e2)
      rw [Heap.size_push]
      exact Nat.lt_succ_of_lt (cm (y := p.1) (c := p.2) hp).2
    · show ∃ c, cenv.cells.lookup y = some c
      have key : ∀ k, cenv.kindOf y = some k → (k = .cell ∨ k = .free) → ∃ c, cenv.cells.lookup y = some c := fun k hk hk' => by
        unfold Env.kindOf at hk
        rw [hsc] at hk
        obtain ⟨k', e, r⟩ := lookup_relS hk
        have : k' = .cell ∨ k' = .free := by
          rcases r with rfl | ⟨rfl, _⟩
          · exact hk'
          · exact .inr rfl
        rcases this with rfl | rfl
        · obtain ⟨c, hm⟩ := cells_has (n := (s.heap.push { cls := .type "dict", data := .dict #[] }).objs.size) (acc := cloFrom X.env.cells scope.names []) (PySem.mem_of_lookup e)
          obtain ⟨c', e'⟩ := mem_lookup hm
          exact ⟨c', by rw [hcl]; exact e'⟩
        · obtain ⟨c, h1, _⟩ := look e
          exact ⟨c, h1⟩
      rcases hy with hy | hy
      · exact key _ hy (.inl rfl)
      · exact key _ hy (.inr rfl)
    · have z : (scope.names.lookup y == some NameKind.cell) = true := z
      have z : scope.names.lookup y = some .cell := by simpa using z
      have e : cenv.cells.lookup y = some c := e
      rw [hcl] at e
      rcases cells_mem (PySem.mem_of_lookup e) with hm | ⟨_, h2, _⟩
      · rcases cloFrom_mem hm with hm | ⟨h1, _⟩
        · cases hm
        · have q := ok.uniq _ h1
          rw [z] at q; cases q
      · rw [Heap.size_push] at h2
        exact Nat.le_of_succ_le h2
    · show b ≠ cenv.locals
      rw [hL]; exact Nat.ne_of_lt (hfp b hb).2
    · have e : cenv.cells.lookup y = some c := e
      rcases mem e with ⟨h1, _⟩ | ⟨h1, _⟩
      · exact (hfp b hb).1.2.2.2.2.1 y c h1 z
      · have h2 : s.heap.objs.size + 1 ≤ b := by rw [← z]; exact h1
        exact absurd (Nat.lt_of_lt_of_le (hfp b hb).2 (Nat.le_of_succ_le h2)) (Nat.lt_irrefl _)
    · rcases (hfp b hb).1.2.2.2.1 with z | z
      · exact I.ok.noex b o e z
      · exact absurd (Nat.lt_of_lt_of_le (Heap.lt_size e) (Nat.le_trans I.ok.bsz z)) (Nat.lt_irrefl _)
    · rcases List.mem_cons.mp (I.stkSub b z) with z | z
      · exact (hfp b hb).1.2.1 z
      · exact (hfp b hb).1.2.2.1 z
  refine ⟨okB, rfl, I.bare, Un.kept kp, ⟨fun _ => none, ?_, fun i y av e1 e2 e3 => ?_⟩, fun y c e => ?_, ?_, fun y c e => ?_, fun p hp => ?_, I.hok.kept kp, by rw [wipe_length]; exact I.len⟩
  · show Heap.Ns _ cenv.locals _
    rw [hL]
    exact Heap.Ns.keeps (Heap.Ns.new ..) fun b o e => pushCells_keeps _ _ _ _ e
  · obtain ⟨e2, hne⟩ := wipe_some e2
    have hfr : scope.names.lookup y = some .free ∧ (cenv.kindOf y = some .cell ∨ cenv.kindOf y = some .free) := by
      have key : ∀ k, cenv.scope.names.lookup y = some k → k = .local ∨ k = .cell ∨ k = .free → scope.names.lookup y = some .free ∧ (cenv.kindOf y = some .cell ∨ cenv.kindOf y = some .free) := fun k hk hk' => by
        have hk0 := hk
        rw [hsc] at hk
        obtain ⟨k', e, r⟩ := lookup_relS hk
        have no : ¬ (k' = .local ∨ k' = .cell) := fun hh => by
          rcases ok.own _ (PySem.mem_of_lookup e) hh with e' | e'
          · obtain ⟨p, hp, hpy⟩ := List.mem_map.mp e'
            have e3 := ok.ix p hp
            have : p.1 = y := hpy
            rw [this] at e3
            exact hne (List.mem_map.mpr ⟨p, hp, nodup_ix hN e3 e1⟩)
          · exact e' (List.mem_of_getElem? e1)
        rcases r with rfl | ⟨rfl, rfl⟩
        · rcases hk' with rfl | rfl | rfl
          · exact absurd (.inl rfl) no
          · exact absurd (.inr rfl) no
          · exact ⟨e, .inr hk0⟩
        · exact ⟨e, .inl hk0⟩
      have e3 : Vis cenv.scope y := e3
      rcases e3 with e3 | e3 | e3
      · exact key _ e3 (.inl rfl)
      · exact key _ e3 (.inr (.inl rfl))
      · exact key _ e3 (.inr (.inr rfl))
    obtain ⟨m, hn, hl⟩ := I.loc
    have hvis : Vis X.env.scope y := (ok.free _ (PySem.mem_of_lookup hfr.1) rfl).elim (fun k => .inr (.inl k)) (fun k => .inr (.inr k))
    obtain ⟨w, r, q⟩ := hl i y av e1 e2 hvis
    refine ⟨w, r, .inr ⟨hfr.2, ?_⟩⟩
    obtain ⟨c, h1, h2⟩ := look hfr.1
    rcases q with ⟨k, _⟩ | ⟨_, c', e', z⟩
    · have k : X.env.scope.names.lookup y = some .local := k
      rcases ok.free _ (PySem.mem_of_lookup hfr.1) rfl with k' | k' <;> rw [show X.env.scope.names.lookup y = _ from k'] at k <;> cases k
    · rw [h2] at e'; cases e'
      exact ⟨c, h1, z.keeps kp⟩
  · have e : cenv.cells.lookup y = some c := e
    rcases mem e with ⟨h1, _⟩ | ⟨_, z⟩
    · obtain ⟨w, z⟩ := I.cell y c h1
      exact ⟨w, z.keeps kp⟩
    · exact ⟨_, z⟩
  · show H cenv.locals = none
    rw [hL]; exact I.hok.fresh (Nat.le_refl _)
  · have e : cenv.cells.lookup y = some c := e
    rcases mem e with ⟨h1, _⟩ | ⟨h1, _⟩
    · exact I.freeC y c h1
    · exact I.hok.fresh (Nat.le_of_succ_le h1)
  · exact absurd (show p ∈ ([] : List (Addr × Obj)) ++ [] from hp) (by simp)

/-- an item appended to a tracked list -/
theorem app_ok {E : Value → Shared → Prop} {D : Addr} {xs : List V} {y : V} {v : Value} {Q : Value → Shared → Prop} (I : Inv X pins σ H s) (hD : H D = some (.lst xs)) (hz : xs.length < sizeLine) (r : RelV y v)
    (h : ∀ s', Inv X pins σ (upd H D (.lst (xs ++ [y]))) s' → Q .none s') : wpAny (model X.prog X.w) X.A (call (.builtin "list.append") [.ref D, v]) Q E s := by
  obtain ⟨hz', its, n, ri, e⟩ := I.hok D _ hD
  have hl := ri.length
  refine append_at (hsz := by rw [List.size_toArray]; omega) e fun h' sb ho' => ?_
  refine h { s with heap := h' } (I.write (t' := s.toks) (by rw [hD]; trivial) (.inl rfl) (fun b u hb q => (sb.2 b hb).trans q) ⟨_, ho'⟩ ⟨by rw [List.length_append]; exact hz, its ++ [v], n + 1, ri.append (.cons r .nil), ?_⟩)
  rw [ho']
  simp

/-- a clause's tests -/
def PTs (X : Cx) (ifs : List Expr) (t : TT) : Prop :=
  ∀ (pins : List (Addr × Obj)) (s : Shared) (σ : St) (H : Hp) (Q : Bool → Hp → Prop), Inv X pins σ H s → t σ H Q →
    wpAny (model X.prog X.w) X.A (forIn ifs true fun c r => if r = true then do let ok ← isTrue c X.env (eval c X.env); pure (ForInStep.yield ok) else pure (ForInStep.yield r)) (TP X pins σ Q) X.xe s
def tYes : TT := fun _ H Q => Q true H
theorem pts_nil : PTs X [] tYes := fun _ _ _ H _ I h => wpAny_tests_nil ⟨H, I, h⟩
theorem pts_one {c : Expr} {t : TT} (h : PT X c t) : PTs X [c] t := fun pins s σ H Q I hw => wpAny_tests_one (h pins s σ H Q I hw)
end

theorem thnF {α : Type} {t : Sem α} {Q Q' : α → Shared → Prop} {M : Model} {A : Around} {E : Value → Shared → Prop} {s : Shared} (h : wpAny M A t Q (fun _ _ => False) s) (hQ : ∀ a s, Q a s → Q' a s) : wpAny M A t Q' E s := wpAny_mono h hQ fun _ _ z => False.elim z

/-- the loop of a list comprehension's block, the target of any form (codeAny_compLoop_tests asks a target that no tuple goes to; statement and proof follow it, PyProof/CompMap.lean:41-61, with the step letOwnedTupleGo kept) -/
theorem compLoop_any {prog : Program} {w : World} {A : Around} {R : Result → Shared → Prop} {s : Shared} {elt target iter : Expr} {ifs : List Expr} {scope : Scope} {pos : Pos} {it acc : Value} {env : Env} (I : Nat → Shared → Prop)
    (turn : ∀ n s, I n s → wpAny (model prog w) A (pyNext it) (fun r s₁ => match r with
      | none => R (.ok .next) s₁
      | some v => wpAny (model prog w) A (letOwnedTupleGo target it v) (fun _ s₁' => wpAny (model prog w) A (assign target env v) (fun _ s₂ =>
          wpAny (model prog w) A (forIn ifs true fun c r => if r = true then do let ok ← isTrue c env (eval c env); pure (ForInStep.yield ok) else pure (ForInStep.yield r)) (fun ok s₃ =>
            if ok = true then wpAny (model prog w) A (eval elt env) (fun x s₄ =>
              wpAny (model prog w) A (call (.builtin "list.append") [acc, x]) (fun _ s₅ => ∃ m, m < n ∧ I m s₅) (notedBy (model prog w) A env fun e s' => R (.error e) s') s₄) (notedBy (model prog w) A env fun e s' => R (.error e) s') s₃
            else ∃ m, m < n ∧ I m s₃) (notedBy (model prog w) A env fun e s' => R (.error e) s') s₂) (notedBy (model prog w) A env fun e s' => R (.error e) s') s₁') (notedBy (model prog w) A env fun e s' => R (.error e) s') s₁) (notedBy (model prog w) A env fun e s' => R (.error e) s') s)
    (n : Nat) (h : I n s) :
    codeAny (model prog w) A (.compLoop (.ListComp elt [⟨target, iter, ifs, 0⟩] scope pos) 0 it acc env) R s := by
  refine codeAny_loop rfl I (fun n s hI => ?_) n h
  show wpAny _ A ((compTurn (.ListComp elt [⟨target, iter, ifs, 0⟩] scope pos) 0 it acc env).onRaise (fun x => do noteFrame x env; theTreesLotGoes x)) _ _ s
  refine wpAny_noted ?_
  rw [compTurn_list]
  refine wpAny_bind (wpAny_standAt (wpAny_bind (wpAny_mono (turn n s hI) (fun r s₁ h₁ => ?_) fun _ _ h' => h')))
  cases r with
  | none => exact wpAny_pure h₁
  | some v =>
    refine wpAny_bind (wpAny_mono h₁ (fun _ s₁' h₁' => ?_) fun _ _ h' => h')
    refine wpAny_bind (wpAny_mono h₁' (fun _ s₂ h₂ => wpAny_bind (wpAny_mono h₂ (fun ok s₃ h₃ => ?_) fun _ _ h' => h')) fun _ _ h' => h')
    cases ok with
    | false => exact wpAny_pure ⟨rfl, h₃⟩
    | true =>
      exact wpAny_bind (wpAny_bind (wpAny_mono h₃ (fun x s₄ h₄ => wpAny_bind (wpAny_mono h₄ (fun _ s₅ h₅ => wpAny_pure (wpAny_pure ⟨rfl, h₅⟩)) fun _ _ h' => h')) fun _ _ h' => h'))

section
variable {X : Cx}
/-- [elt for target in iter if ..]: D the new list; W by the turn and a measure, Nx what a turn is to reach -/
def tLc (wi : TI) (g : TG) (tt : TT) (te : TE) (vs : List Nat) : TE := fun σ H Q => wi σ H fun J H1 => ∀ D, H1 D = none → ∃ W : Nat → Nat → Hp → Prop, (∃ m, W 0 m (upd H1 D (.lst []))) ∧ ∀ i m H, W i m H →
  (J.stop i H ∧ Q (.ref D) H) ∨ (J.go i H ∧ ∃ Nx : Hp → Prop, (∀ H', Nx H' → ∃ m', m' < m ∧ W (i + 1) m' H') ∧ ∀ x H', J.yld i H x H' → g x (wipe σ vs) H' fun σ2 H2 => wipe σ2 vs = wipe σ vs ∧ tt σ2 H2 fun b H3 =>
    if b = true then te σ2 H3 fun y H4 => ∃ acc, H4 D = some (.lst acc) ∧ acc.length < sizeLine ∧ Nx (upd H4 D (.lst (acc ++ [y]))) else Nx H3)
theorem lc_core {pins : List (Addr × Obj)} {s : Shared} {σ : St} {H : Hp} {Q : VK} {elt tg iter : Expr} {ifs : List Expr} {scope : Scope} {own : List (Str × Nat)} {pos pos' : Pos} {wi : TI} {g : TG} {tt : TT} {te : TE} {use : Option (Value → Sem Unit)} {Qf : Value → Shared → Prop}
    (hc : X.calm = true) (hN : X.N.Nodup) (I : Inv X pins σ H s) (hi : PI X tg iter wi) (ok : BlkOk X.N X.env.scope scope own)
    (hg : ∀ (s : Shared) (H : Hp) (C : Addr) (cl : List (Str × Addr)) (fp : List Addr), PG (X.blk s H scope (compEnvC scope cl C X.env) fp) tg g) (ht : ∀ (s : Shared) (H : Hp) (C : Addr) (cl : List (Str × Addr)) (fp : List Addr), PTs (X.blk s H scope (compEnvC scope cl C X.env) fp) ifs tt)
    (he : ∀ (s : Shared) (H : Hp) (C : Addr) (cl : List (Str × Addr)) (fp : List Addr), PE (X.blk s H scope (compEnvC scope cl C X.env) fp) elt te) (hs : ∀ x, foldedSetIterable iter X.env x = pure x)
    (h : tLc wi g tt te (own.map (·.2)) σ H Q)
    (hRR : ∀ D C s' m H', Inv X pins σ H' s' → Q (.ref D) H' → s'.heap.Ns C m → FpOk X pins H' C → compPost (model X.prog X.w) X.A X.xe use Qf (.ref D) C (.ok .next) s') :
    wpAny (model X.prog X.w) X.A (comprehension (.ListComp elt [⟨tg, iter, ifs, 0⟩] scope pos) scope X.env pos' (newList []) false (eval iter X.env) use) Qf X.xe s := by
  have hfree : ∀ y ∈ scope.names, y.2 = .free → ∃ c, X.env.cells.lookup y.1 = some c := fun y hy e => by
    rcases ok.free y hy e with k | k
    · exact I.ok.has _ (.inl k)
    · exact I.ok.has _ (.inr k)
  refine wpAny_comprehension_free (use := use) rfl hs (closure_ok hfree) ok.kind (fun y hy e => by rw [ok.uniq y hy, e])
    (thn (hi pins s σ H _ I h) fun xv s1 hx => thn hx fun itv s2 h2 => ?_)
  obtain ⟨it, fp, tn, J, H2, e, I2, T, st2, f2, q⟩ := h2
  subst e
  refine wpAny_newObj_type (newEnv_comp ?_) (by show 0 ≤ sizeLine; decide)
  generalize hD : s2.heap.objs.size = D
  have hDn : H2 D = none := I2.hok.fresh (Nat.le_of_eq hD)
  obtain ⟨W, ⟨m0, w0⟩, turn⟩ := q D hDn
  -- the new list
  generalize hs3 : ({ s2 with heap := s2.heap.push { cls := .type "list", data := .seq ([] : List Value).toArray } } : Shared) = s3
  have I3 : Inv X pins σ (upd H2 D (.lst [])) s3 := by
    rw [← hs3]
    refine I2.laid (t' := s2.toks) (fun b o e => Heap.get?_push_of_some _ e) (Nat.le_of_eq hD) ⟨Nat.zero_le _, [], 0, .nil, ?_⟩
    rw [← hD]
    exact Heap.get?_push_size _ rfl
  have h3 : s3.heap = s2.heap.push { cls := .type "list", data := .seq ([] : List Value).toArray } := by rw [← hs3]
  have sz : ∀ b ∈ fp, b < s2.heap.objs.size := fun b hb => by
    obtain ⟨o, e, _⟩ := T.obj _ _ st2 b hb
    exact Heap.lt_size e
  have f3 : ∀ b ∈ fp, FpOk X pins (upd H2 D (.lst [])) b ∧ b < s3.heap.objs.size := fun b hb => by
    have hlt := sz b hb
    refine ⟨⟨?_, (f2 b hb).2⟩, by rw [h3, Heap.size_push]; exact Nat.lt_succ_of_lt hlt⟩
    rw [upd_ne (by rw [← hD]; exact Nat.ne_of_lt hlt)]
    exact (f2 b hb).1
  have st3 : tn 0 s3.heap := T.keep _ _ _ st2 fun b _ o e => by rw [h3]; exact Heap.get?_push_of_some _ e
  have I4 := block_start I3 ok hN f3
  have pg := hg s3 (upd H2 D (.lst [])) s3.heap.objs.size (cellsFrom (s3.heap.objs.size + 1) scope.names (cloFrom X.env.cells scope.names [])) fp
  have pt := ht s3 (upd H2 D (.lst [])) s3.heap.objs.size (cellsFrom (s3.heap.objs.size + 1) scope.names (cloFrom X.env.cells scope.names [])) fp
  have pe := he s3 (upd H2 D (.lst [])) s3.heap.objs.size (cellsFrom (s3.heap.objs.size + 1) scope.names (cloFrom X.env.cells scope.names [])) fp
  show codeAny _ _ (.compStart (.ListComp elt [⟨tg, iter, ifs, 0⟩] scope pos) 0 (.ref it) (.ref D) (compEnvC scope (cellsFrom (s3.heap.objs.size + 1) scope.names (cloFrom X.env.cells scope.names [])) s3.heap.objs.size X.env)) (compPost (model X.prog X.w) X.A X.xe use Qf (.ref D) s3.heap.objs.size) { s3 with heap := pushCells (s3.heap.push { cls := .type "dict", data := .dict #[] }) scope.names }
  have nfp : ∀ b ∈ fp, (upd H2 D (.lst [])) b = none := fun b hb => (f3 b hb).1.1
  generalize hce : compEnvC scope (cellsFrom (s3.heap.objs.size + 1) scope.names (cloFrom X.env.cells scope.names [])) s3.heap.objs.size X.env = ce at I4 pg pt pe ⊢
  have cL : ce.locals = s3.heap.objs.size := by subst hce; rfl
  generalize hH3 : upd H2 D (.lst []) = H3 at I3 I4 pg pt pe w0 nfp f3
  generalize hs4 : ({ s3 with heap := pushCells (s3.heap.push { cls := .type "dict", data := .dict #[] }) scope.names } : Shared) = s4 at I4 ⊢
  have st4 : tn 0 s4.heap := T.keep _ _ _ st3 fun b _ o e => by rw [← hs4]; exact pushCells_keeps _ _ _ _ (Heap.get?_push_of_some _ e)
  have stat : ∀ {σ' : St} {H' : Hp} {s' : Shared}, Inv (X.blk s3 H3 scope ce fp) [] σ' H' s' → (∀ b ∈ fp, H' b = none) → ∀ b ∈ fp, FpOk (X.blk s3 H3 scope ce fp) [] H' b := fun {σ' H' s'} I' hn b hb =>
    ⟨hn b hb, (I'.ok.exf b hb).1, I'.ok.exfs b hb, .inl hb, fun x c e => (I'.ok.exf b hb).2 x c e, fun p hp => absurd (show p ∈ ([] : List (Addr × Obj)) ++ [] from hp) (by simp)⟩
  have loop : codeAny (model X.prog X.w) X.A (.compLoop (.ListComp elt [⟨tg, iter, ifs, 0⟩] scope pos) 0 (.ref it) (.ref D) ce) (compPost (model X.prog X.w) X.A X.xe use Qf (.ref D) s3.heap.objs.size) s4 := by
    refine compLoop_any (fun n s' => ∃ i H', Inv (X.blk s3 H3 scope ce fp) [] (wipe σ (own.map (·.2))) H' s' ∧ tn i s'.heap ∧ (∀ b ∈ fp, H' b = none) ∧ W i n H') ?_ m0 ⟨0, H3, I4, st4, nfp, w0⟩
    rintro n s5 ⟨i, H5, I5, st5, n5, w5⟩
    rcases turn i n H5 w5 with ⟨stop, qq⟩ | ⟨go, Nx, hNx, step⟩
    · have td := T.done (X.blk s3 H3 scope ce fp) rfl rfl rfl hc i [] s5 _ H5 (fun _ _ => False) I5 (stat I5 n5) st5 stop
      refine thnF td fun r s6 ⟨hr, I6⟩ => ?_
      subst hr
      -- back in the def's context
      have I7 : Inv X pins σ H5 s6 := I3.call' (ch := fp) I6.os I6.base I6.hok I6.bare fun b hb => ⟨(f3 b hb).1.2.2.2.1, (f3 b hb).1.2.1, (f3 b hb).1.2.2.2.2.1, (f3 b hb).1.2.2.2.2.2⟩
      have nC : H5 s3.heap.objs.size = none := by
        have z : H5 ce.locals = none := I6.free
        rw [cL] at z
        exact z
      obtain ⟨m, hn, _⟩ := I6.loc
      have hn : s6.heap.Ns ce.locals m := hn
      rw [cL] at hn
      exact hRR D s3.heap.objs.size s6 m H5 I7 qq hn (I3.fpOk (Nat.le_refl _) nC)
    · have ti := T.item (X.blk s3 H3 scope ce fp) rfl rfl rfl hc i [] s5 _ H5 (fun _ _ => False) I5 (stat I5 n5) st5 go
      refine thnF ti fun r s6 ⟨u, hr, h6⟩ => ?_
      subst hr
      refine thnF h6 fun _ s7 ⟨x, H7, I7, r7, y7, st7, n7⟩ => ?_
      have I7' := I7.pinned (stat I7 n7) (T.obj _ _ st7)
      refine thnF (pg _ s7 _ H7 x u _ I7' r7 (step x H7 y7)) fun _ s8 ⟨σ8, H8, I8, hw8, q8⟩ => ?_
      refine thnF (pt _ s8 σ8 H8 _ I8 q8) fun b s9 ⟨H9, I9, q9⟩ => ?_
      -- the turn's end
      have fin : ∀ {s' : Shared} {H' : Hp}, Inv (X.blk s3 H3 scope ce fp) ([] ++ pinsAt fp s7.heap) σ8 H' s' → Nx H' → ∃ m, m < n ∧ ∃ i H', Inv (X.blk s3 H3 scope ce fp) [] (wipe σ (own.map (·.2))) H' s' ∧ tn i s'.heap ∧ (∀ b ∈ fp, H' b = none) ∧ W i m H' := fun {s' H'} I' nx => by
        obtain ⟨m', hm, w'⟩ := hNx H' nx
        have pin' : ∀ b ∈ fp, ∀ o, s7.heap.get? b = some o → s'.heap.get? b = some o ∧ H' b = none := fun b hb o e =>
          let z := I'.pin (b, o) (List.mem_append_right _ (List.mem_append_right _ (mem_pinsAt hb e)))
          ⟨z.1, z.2.1⟩
        have hl : (wipe σ (own.map (·.2))).length = σ8.length := by rw [← hw8, wipe_length]
        refine ⟨m', hm, i + 1, H', (I'.unpinned (pins := [])).weak hl (fun j v e => ?_), T.keep _ _ _ st7 fun b hb o e => (pin' b hb o e).1, fun b hb => ?_, w'⟩
        · rw [← hw8] at e
          exact (wipe_some e).1
        · obtain ⟨o, e, _⟩ := T.obj _ _ st7 b hb
          exact (pin' b hb o e).2
      cases b with
      | false =>
        simp only [Bool.false_eq_true, if_false] at q9 ⊢
        exact fin I9 q9
      | true =>
        simp only [if_true] at q9 ⊢
        refine thnF (pe _ s9 σ8 H9 _ I9 q9) fun z s10 ⟨yv, H10, I10, r10, acc, hD10, hz10, nx⟩ => ?_
        exact app_ok (X := X.blk s3 H3 scope ce fp) I10 hD10 hz10 r10 fun s11 I11 => fin I11 nx
  exact codeAny_compStart_list loop (T.self X.A 0 _ _ _ st4 loop)
/-- as a value -/
theorem pe_lc {elt tg iter : Expr} {ifs : List Expr} {scope : Scope} {own : List (Str × Nat)} {pos : Pos} {wi : TI} {g : TG} {tt : TT} {te : TE} (hc : X.calm = true) (hN : X.N.Nodup) (hi : PI X tg iter wi) (ok : BlkOk X.N X.env.scope scope own)
    (hg : ∀ (s : Shared) (H : Hp) (C : Addr) (cl : List (Str × Addr)) (fp : List Addr), PG (X.blk s H scope (compEnvC scope cl C X.env) fp) tg g) (ht : ∀ (s : Shared) (H : Hp) (C : Addr) (cl : List (Str × Addr)) (fp : List Addr), PTs (X.blk s H scope (compEnvC scope cl C X.env) fp) ifs tt)
    (he : ∀ (s : Shared) (H : Hp) (C : Addr) (cl : List (Str × Addr)) (fp : List Addr), PE (X.blk s H scope (compEnvC scope cl C X.env) fp) elt te) (hs : ∀ x, foldedSetIterable iter X.env x = pure x := by intro _; rfl) :
    PE X (.ListComp elt [⟨tg, iter, ifs, 0⟩] scope pos) (tLc wi g tt te (own.map (·.2))) := by
  intro pins s σ H Q I h
  rw [eval_ListComp]
  refine lc_core hc hN I hi ok hg ht he hs h fun D C s' m H' I' q hn f => ⟨m, hn, fun h'' sb => ?_⟩
  obtain ⟨f0, f1, f2, f3, f4, f5⟩ := f
  exact ⟨.ref D, H', I'.turned (t' := s'.toks) (fun b o hb e => (sb.2 b hb).trans e) f0 f1 f3 f4 f5, rfl, q⟩
/-- name = [..] on one line, the name a local -/
theorem ps_setLc {i : Nat} {y : Str} {py : Pos} {elt tg iter : Expr} {ifs : List Expr} {scope : Scope} {own : List (Str × Nat)} {pos spos : Pos} {wi : TI} {g : TG} {tt : TT} {te : TE} (hc : X.calm = true) (hN : X.N.Nodup) (hy : X.N[i]? = some y) (hyl : X.env.scope.names.lookup y = some .local)
    (hsw : swapsWith (.ListComp elt [⟨tg, iter, ifs, 0⟩] scope pos) (some (.Name y py)) spos.line X.env = pure true) (hi : PI X tg iter wi) (ok : BlkOk X.N X.env.scope scope own)
    (hg : ∀ (s : Shared) (H : Hp) (C : Addr) (cl : List (Str × Addr)) (fp : List Addr), PG (X.blk s H scope (compEnvC scope cl C X.env) fp) tg g) (ht : ∀ (s : Shared) (H : Hp) (C : Addr) (cl : List (Str × Addr)) (fp : List Addr), PTs (X.blk s H scope (compEnvC scope cl C X.env) fp) ifs tt)
    (he : ∀ (s : Shared) (H : Hp) (C : Addr) (cl : List (Str × Addr)) (fp : List Addr), PE (X.blk s H scope (compEnvC scope cl C X.env) fp) elt te) (hs : ∀ x, foldedSetIterable iter X.env x = pure x := by intro _; rfl) :
    PS X (.Assign [.Name y py] (.ListComp elt [⟨tg, iter, ifs, 0⟩] scope pos) spos) (tAsg (tLc wi g tt te (own.map (·.2))) (gName i)) := by
  intro pins s σ H D I h
  rw [exec_Assign_Name_used _ _ _ _ hsw]
  refine wpAny_bind (wpAny_standAt (wpAny_bind ?_))
  show wpAny _ X.A (do let _ ← comprehension (.ListComp elt [⟨tg, iter, ifs, 0⟩] scope pos) scope X.env (firstIterPos [⟨tg, iter, ifs, 0⟩] pos) (newList []) false (eval iter X.env) (some (assign (.Name y py) X.env))) _ _ s
  have h : tLc wi g tt te (own.map (·.2)) σ H (fun x H1 => gName i x σ H1 D.nx) := h
  refine wpAny_bind (thn (lc_core (Qf := fun _ s' => SP X pins D .next s') hc hN I hi ok hg ht he hs h fun L C s' m H' I' q hn f => ?_) fun _ s' hq => wpAny_pure (wpAny_pure hq))
  show wpAny _ _ (assign (.Name y py) X.env (.ref L)) _ _ _
  refine wpAny_assign_Name (store_ok2 (v := V.ref L) I' hN hy (.inl hyl) rfl (fun s2 I2 ⟨a, sb, ha⟩ => ?_) (.inr hyl))
  obtain ⟨f0, f1, f2, f3, f4, f5⟩ := f
  have haC : C ≠ a := by
    rcases ha with z | z
    · rw [z]; exact f1
    · exact fun e => f4 y a z e.symm
  refine ⟨m, hn.sameBut sb haC, fun h3 sb3 => ?_⟩
  exact ⟨_, H', I2.turned (t' := s2.toks) (fun b o hb e => (sb3.2 b hb).trans e) f0 f1 f3 f4 f5, q⟩
theorem sw_true {elt : Expr} {gs : List Comprehension} {scope : Scope} {pos py : Pos} {y : Str} {l : Nat} {env : Env} (hk : env.scope.kind = .function) (hy : env.scope.names.lookup y = some .local) (hl : (py.line == pos.line) = true)
    (ha : (scope.names.any fun (n, k) => n == y && (k == .local || k == .cell)) = false) : swapsWith (.ListComp elt gs scope pos) (some (.Name y py)) l env = pure true := by
  have ky : env.kindOf y = some .local := hy
  have hb : env.blockKind = .function := by unfold Env.blockKind; rw [hk]; rfl
  unfold swapsWith
  simp only [hb, ky, ha, Expr.pos, hl]
  rfl
end

/-! ### the forms one uses -/
def blkC (N : List Str) (sc scope : Scope) (own : List (Str × Nat)) : Bool :=
  (match scope.kind with | .function => true | _ => false) && (scope.names.all fun y => decide (scope.names.lookup y.1 = some y.2)) && (own.all fun p => decide (N[p.2]? = some p.1)) &&
    (scope.names.all fun y => match y.2 with
      | .free => (match sc.names.lookup y.1 with | some .cell => true | some .free => true | _ => false)
      | .local => decide (y.1 ∈ own.map (·.1)) || decide (y.1 ∉ N)
      | .cell => decide (y.1 ∈ own.map (·.1)) || decide (y.1 ∉ N)
      | _ => true)
theorem blkOk_by {N : List Str} {sc scope : Scope} {own : List (Str × Nat)} (h : blkC N sc scope own = true) : BlkOk N sc scope own := by
  unfold blkC at h
  simp only [Bool.and_eq_true, List.all_eq_true, decide_eq_true_eq] at h
  obtain ⟨⟨⟨h1, h2⟩, h3⟩, h4⟩ := h
  refine ⟨?_, h2, h3, fun y hy e => ?_, fun y hy e => ?_⟩
  · split at h1
    · assumption
    · cases h1
  · have q := h4 y hy
    simp only [e] at q
    split at q <;> first | exact .inl (by assumption) | exact .inr (by assumption) | cases q
  · have q := h4 y hy
    rcases e with e | e <;> (simp only [e, Bool.or_eq_true, decide_eq_true_eq] at q; exact q)
end L2

namespace L2
open PySem PySem.Spec PyProof.Rows

theorem compTurn2_out (elt t0 i0 t1 i1 : Expr) (ifs0 ifs1 : List Expr) (scope : Scope) (pos : Pos) (it acc : Value) (env : Env) :
    compTurn (.ListComp elt [⟨t0, i0, ifs0, 0⟩, ⟨t1, i1, ifs1, 0⟩] scope pos) 0 it acc env = (do
      standAt i0.pos
      match ← pyNext it with
      | none => pure (.done .next)
      | some v =>
        letOwnedTupleGo t0 it v
        assign t0 env v
        let mut ok := true
        for c in ifs0 do
          if ok then ok ← isTrue c env (eval c env)
        if ok then
          let x ← eval i1 env
          standAt i1.pos
          let x ← foldedSetIterable i1 env x
          let _ ← runOwn (.compStart (.ListComp elt [⟨t0, i0, ifs0, 0⟩, ⟨t1, i1, ifs1, 0⟩] scope pos) 1 (← holding [x] (pyIter x)) acc env) env
        again (.compLoop (.ListComp elt [⟨t0, i0, ifs0, 0⟩, ⟨t1, i1, ifs1, 0⟩] scope pos) 0 it acc env)) := by rfl
theorem compTurn2_in (elt t0 i0 t1 i1 : Expr) (ifs0 ifs1 : List Expr) (scope : Scope) (pos : Pos) (it acc : Value) (env : Env) :
    compTurn (.ListComp elt [⟨t0, i0, ifs0, 0⟩, ⟨t1, i1, ifs1, 0⟩] scope pos) 1 it acc env = (do
      standAt i1.pos
      match ← pyNext it with
      | none => pure (.done .next)
      | some v =>
        letOwnedTupleGo t1 it v
        assign t1 env v
        let mut ok := true
        for c in ifs1 do
          if ok then ok ← isTrue c env (eval c env)
        if ok then
          (do let _ ← call (.builtin "list.append") [acc, ← eval elt env])
        again (.compLoop (.ListComp elt [⟨t0, i0, ifs0, 0⟩, ⟨t1, i1, ifs1, 0⟩] scope pos) 1 it acc env)) := by rfl

section
variable {prog : Program} {w : World} {A : Around} {R : Result → Shared → Prop} {s : Shared} {elt t0 i0 t1 i1 : Expr} {ifs0 ifs1 : List Expr} {scope : Scope} {pos : Pos} {it acc : Value} {env : Env}
/-- the loop of the first clause -/
theorem compLoop2_out (hs : ∀ x, foldedSetIterable i1 env x = pure x) (I : Nat → Shared → Prop)
    (turn : ∀ n s, I n s → wpAny (model prog w) A (pyNext it) (fun r s₁ => match r with
      | none => R (.ok .next) s₁
      | some v => wpAny (model prog w) A (letOwnedTupleGo t0 it v) (fun _ s₁' => wpAny (model prog w) A (assign t0 env v) (fun _ s₂ =>
          wpAny (model prog w) A (forIn ifs0 true fun c r => if r = true then do let ok ← isTrue c env (eval c env); pure (ForInStep.yield ok) else pure (ForInStep.yield r)) (fun ok s₃ =>
            if ok = true then wpAny (model prog w) A (eval i1 env) (fun x s₄ => wpAny (model prog w) A (pyIter x) (fun it1 s₅ =>
              codeAny (model prog w) A (.compStart (.ListComp elt [⟨t0, i0, ifs0, 0⟩, ⟨t1, i1, ifs1, 0⟩] scope pos) 1 it1 acc env) (fun r s' => match r with
                | .ok _ => ∃ m, m < n ∧ I m s'
                | .error _ => False) s₅) (notedBy (model prog w) A env fun e s' => R (.error e) s') s₄) (notedBy (model prog w) A env fun e s' => R (.error e) s') s₃
            else ∃ m, m < n ∧ I m s₃) (notedBy (model prog w) A env fun e s' => R (.error e) s') s₂) (notedBy (model prog w) A env fun e s' => R (.error e) s') s₁') (notedBy (model prog w) A env fun e s' => R (.error e) s') s₁) (notedBy (model prog w) A env fun e s' => R (.error e) s') s)
    (n : Nat) (h : I n s) :
    codeAny (model prog w) A (.compLoop (.ListComp elt [⟨t0, i0, ifs0, 0⟩, ⟨t1, i1, ifs1, 0⟩] scope pos) 0 it acc env) R s := by
  refine codeAny_loop rfl I (fun n s hI => ?_) n h
  show wpAny _ A ((compTurn (.ListComp elt [⟨t0, i0, ifs0, 0⟩, ⟨t1, i1, ifs1, 0⟩] scope pos) 0 it acc env).onRaise (fun x => do noteFrame x env; theTreesLotGoes x)) _ _ s
  refine wpAny_noted ?_
  rw [compTurn2_out]
  refine wpAny_bind (wpAny_standAt (wpAny_bind (wpAny_mono (turn n s hI) (fun r s₁ h₁ => ?_) fun _ _ h' => h')))
  cases r with
  | none => exact wpAny_pure h₁
  | some v =>
    refine wpAny_bind (wpAny_mono h₁ (fun _ s₁' h₁' => ?_) fun _ _ h' => h')
    refine wpAny_bind (wpAny_mono h₁' (fun _ s₂ h₂ => wpAny_bind (wpAny_mono h₂ (fun ok s₃ h₃ => ?_) fun _ _ h' => h')) fun _ _ h' => h')
    cases ok with
    | false => exact wpAny_pure ⟨rfl, h₃⟩
    | true =>
      refine wpAny_bind (wpAny_mono h₃ (fun x s₄ h₄ => ?_) fun _ _ h' => h')
      refine wpAny_bind (wpAny_standAt (wpAny_bind (wpAny_of_eq (hs x) (wpAny_bind (wpAny_holding (wpAny_mono h₄ (fun it1 s₅ h₅ => ?_) fun _ _ h' => h'))))))
      refine wpAny_bind (wpAny_runOwn ?_)
      rw [Around.mark_none]
      refine codeAny_mono h₅ fun r s' hr => ?_
      cases r with
      | ok f =>
        first
          | exact wpAny_pure ⟨rfl, hr⟩
          | exact wpAny_bind (wpAny_pure (wpAny_pure ⟨rfl, hr⟩))
      | error e => exact hr.elim
/-- the loop of the second -/
theorem compLoop2_in (I : Nat → Shared → Prop)
    (turn : ∀ n s, I n s → wpAny (model prog w) A (pyNext it) (fun r s₁ => match r with
      | none => R (.ok .next) s₁
      | some v => wpAny (model prog w) A (letOwnedTupleGo t1 it v) (fun _ s₁' => wpAny (model prog w) A (assign t1 env v) (fun _ s₂ =>
          wpAny (model prog w) A (forIn ifs1 true fun c r => if r = true then do let ok ← isTrue c env (eval c env); pure (ForInStep.yield ok) else pure (ForInStep.yield r)) (fun ok s₃ =>
            if ok = true then wpAny (model prog w) A (eval elt env) (fun x s₄ =>
              wpAny (model prog w) A (call (.builtin "list.append") [acc, x]) (fun _ s₅ => ∃ m, m < n ∧ I m s₅) (notedBy (model prog w) A env fun e s' => R (.error e) s') s₄) (notedBy (model prog w) A env fun e s' => R (.error e) s') s₃
            else ∃ m, m < n ∧ I m s₃) (notedBy (model prog w) A env fun e s' => R (.error e) s') s₂) (notedBy (model prog w) A env fun e s' => R (.error e) s') s₁') (notedBy (model prog w) A env fun e s' => R (.error e) s') s₁) (notedBy (model prog w) A env fun e s' => R (.error e) s') s)
    (n : Nat) (h : I n s) :
    codeAny (model prog w) A (.compLoop (.ListComp elt [⟨t0, i0, ifs0, 0⟩, ⟨t1, i1, ifs1, 0⟩] scope pos) 1 it acc env) R s := by
  refine codeAny_loop rfl I (fun n s hI => ?_) n h
  show wpAny _ A ((compTurn (.ListComp elt [⟨t0, i0, ifs0, 0⟩, ⟨t1, i1, ifs1, 0⟩] scope pos) 1 it acc env).onRaise (fun x => do noteFrame x env; theTreesLotGoes x)) _ _ s
  refine wpAny_noted ?_
  rw [compTurn2_in]
  refine wpAny_bind (wpAny_standAt (wpAny_bind (wpAny_mono (turn n s hI) (fun r s₁ h₁ => ?_) fun _ _ h' => h')))
  cases r with
  | none => exact wpAny_pure h₁
  | some v =>
    refine wpAny_bind (wpAny_mono h₁ (fun _ s₁' h₁' => ?_) fun _ _ h' => h')
    refine wpAny_bind (wpAny_mono h₁' (fun _ s₂ h₂ => wpAny_bind (wpAny_mono h₂ (fun ok s₃ h₃ => ?_) fun _ _ h' => h')) fun _ _ h' => h')
    cases ok with
    | false => exact wpAny_pure ⟨rfl, h₃⟩
    | true =>
      exact wpAny_bind (wpAny_bind (wpAny_mono h₃ (fun x s₄ h₄ => wpAny_bind (wpAny_mono h₄ (fun _ s₅ h₅ => wpAny_pure (wpAny_pure ⟨rfl, h₅⟩)) fun _ _ h' => h')) fun _ _ h' => h'))
/-- the second clause's start -/
theorem compStart1_ok (h0 : codeAny (model prog w) A (.compLoop (.ListComp elt [⟨t0, i0, ifs0, 0⟩, ⟨t1, i1, ifs1, 0⟩] scope pos) 1 it acc env) R s)
    (h : wpAny (model prog w) A (pyIter it) (fun it' s' => codeAny (model prog w) A (.compLoop (.ListComp elt [⟨t0, i0, ifs0, 0⟩, ⟨t1, i1, ifs1, 0⟩] scope pos) 1 it' acc env) R s')
      (notedBy (model prog w) A env fun x s' => R (.error x) s') s) :
    codeAny (model prog w) A (.compStart (.ListComp elt [⟨t0, i0, ifs0, 0⟩, ⟨t1, i1, ifs1, 0⟩] scope pos) 1 it acc env) R s := by
  refine codeAny_of_tree ?_
  show wpAny _ _ ((compStart (.ListComp elt [⟨t0, i0, ifs0, 0⟩, ⟨t1, i1, ifs1, 0⟩] scope pos) 1 it acc env).onRaise (fun x => do noteFrame x env; standAt theWindowsPlace)) _ _ s
  refine wpAny_notedAt ?_
  unfold compStart
  show wpAny _ _ (ask >>= _) _ _ s
  refine wpAny_bind (wpAny_askSetting (wpAny_ite ?_))
  split
  · first
      | exact wpAny_bind (wpAny_pure (wpAny_pure (And.intro rfl h0)))
      | exact wpAny_pure (And.intro rfl h0)
  · first
      | exact wpAny_bind (wpAny_rule (wpAny_bind (wpAny_standAt (wpAny_bind (wpAny_mono h (fun it' s' h' => wpAny_pure (And.intro rfl h')) fun _ _ x => x)))))
      | (refine wpAny_bind (wpAny_rule ?_); show wpAny _ _ (standAt i1.pos >>= _) _ _ s; exact wpAny_bind (wpAny_standAt (wpAny_bind (wpAny_mono h (fun it' s' h' => wpAny_pure (And.intro rfl h')) fun _ _ x => x))))
end

theorem wipe_out {σ : St} {i : Nat} : ∀ {vs : List Nat}, i ∉ vs → (wipe σ vs)[i]? = σ[i]?
  | [], _ => rfl
  | v :: vs, h => by
    have h1 : v ≠ i := fun e => h (by rw [e]; exact List.mem_cons_self)
    have h2 : i ∉ vs := fun m => h (List.mem_cons_of_mem _ m)
    unfold wipe
    rw [List.getElem?_set_ne h1]
    exact wipe_out h2
section
variable {X : Cx}
/-- [elt for tg in iter if .. for tg1 in iter1 if ..]: behind the first clause's store and tests the second source's own loop, from which Nx is reached. vs: the block's names; vs1: those of the second target -/
def tLc2 (wi : TI) (g : TG) (tt : TT) (wi1 : TI) (g1 : TG) (tt1 : TT) (te : TE) (vs vs1 : List Nat) : TE := fun σ H Q => wi σ H fun J H1 => ∀ D, H1 D = none → ∃ W : Nat → Nat → Hp → Prop, (∃ m, W 0 m (upd H1 D (.lst []))) ∧ ∀ i m H, W i m H →
  (J.stop i H ∧ Q (.ref D) H) ∨ (J.go i H ∧ ∃ Nx : Hp → Prop, (∀ H', Nx H' → ∃ m', m' < m ∧ W (i + 1) m' H') ∧ ∀ x H', J.yld i H x H' → g x (wipe σ vs) H' fun σ2 H2 => wipe σ2 vs = wipe σ vs ∧ tt σ2 H2 fun b H3 =>
    if b = true then wi1 σ2 H3 fun J1 H4 => ∃ W1 : Nat → Nat → Hp → Prop, (∃ m, W1 0 m H4) ∧ ∀ j k H, W1 j k H →
      (J1.stop j H ∧ Nx H) ∨ (J1.go j H ∧ ∃ Nx1 : Hp → Prop, (∀ H', Nx1 H' → ∃ k', k' < k ∧ W1 (j + 1) k' H') ∧ ∀ x H', J1.yld j H x H' → g1 x (wipe σ2 vs1) H' fun σ3 H5 => wipe σ3 vs1 = wipe σ2 vs1 ∧ tt1 σ3 H5 fun b H6 =>
        if b = true then te σ3 H6 fun y H7 => ∃ acc, H7 D = some (.lst acc) ∧ acc.length < sizeLine ∧ Nx1 (upd H7 D (.lst (acc ++ [y]))) else Nx1 H6)
    else Nx H3)
theorem lc2_core {pins : List (Addr × Obj)} {s : Shared} {σ : St} {H : Hp} {Q : VK} {elt tg iter tg1 iter1 : Expr} {ifs ifs1 : List Expr} {scope : Scope} {own : List (Str × Nat)} {vs1 : List Nat} {pos pos' : Pos} {wi wi1 : TI} {g g1 : TG} {tt tt1 : TT} {te : TE} {use : Option (Value → Sem Unit)} {Qf : Value → Shared → Prop}
    (hc : X.calm = true) (hN : X.N.Nodup) (I : Inv X pins σ H s) (hi : PI X tg iter wi) (ok : BlkOk X.N X.env.scope scope own) (hv : ∀ i ∈ vs1, i ∈ own.map (·.2))
    (hg : ∀ (s : Shared) (H : Hp) (C : Addr) (cl : List (Str × Addr)) (fp : List Addr), PG (X.blk s H scope (compEnvC scope cl C X.env) fp) tg g) (ht : ∀ (s : Shared) (H : Hp) (C : Addr) (cl : List (Str × Addr)) (fp : List Addr), PTs (X.blk s H scope (compEnvC scope cl C X.env) fp) ifs tt)
    (he : ∀ (s : Shared) (H : Hp) (C : Addr) (cl : List (Str × Addr)) (fp : List Addr), PE (X.blk s H scope (compEnvC scope cl C X.env) fp) elt te) (hs : ∀ x, foldedSetIterable iter X.env x = pure x)
    (hi1 : ∀ (s : Shared) (H : Hp) (C : Addr) (cl : List (Str × Addr)) (fp : List Addr), PI (X.blk s H scope (compEnvC scope cl C X.env) fp) tg1 iter1 wi1)
    (hg1 : ∀ (s : Shared) (H : Hp) (C : Addr) (cl : List (Str × Addr)) (fp : List Addr), PG (X.blk s H scope (compEnvC scope cl C X.env) fp) tg1 g1)
    (ht1 : ∀ (s : Shared) (H : Hp) (C : Addr) (cl : List (Str × Addr)) (fp : List Addr), PTs (X.blk s H scope (compEnvC scope cl C X.env) fp) ifs1 tt1)
    (hs1 : ∀ env x, foldedSetIterable iter1 env x = pure x)
    (h : tLc2 wi g tt wi1 g1 tt1 te (own.map (·.2)) vs1 σ H Q)
    (hRR : ∀ D C s' m H', Inv X pins σ H' s' → Q (.ref D) H' → s'.heap.Ns C m → FpOk X pins H' C → compPost (model X.prog X.w) X.A X.xe use Qf (.ref D) C (.ok .next) s') :
    wpAny (model X.prog X.w) X.A (comprehension (.ListComp elt [⟨tg, iter, ifs, 0⟩, ⟨tg1, iter1, ifs1, 0⟩] scope pos) scope X.env pos' (newList []) false (eval iter X.env) use) Qf X.xe s := by
  have hfree : ∀ y ∈ scope.names, y.2 = .free → ∃ c, X.env.cells.lookup y.1 = some c := fun y hy e => by
    rcases ok.free y hy e with k | k
    · exact I.ok.has _ (.inl k)
    · exact I.ok.has _ (.inr k)
  refine wpAny_comprehension_free (use := use) rfl hs (closure_ok hfree) ok.kind (fun y hy e => by rw [ok.uniq y hy, e])
    (thn (hi pins s σ H _ I h) fun xv s1 hx => thn hx fun itv s2 h2 => ?_)
  obtain ⟨it, fp, tn, J, H2, e, I2, T, st2, f2, q⟩ := h2
  subst e
  refine wpAny_newObj_type (newEnv_comp ?_) (by show 0 ≤ sizeLine; decide)
  generalize hD : s2.heap.objs.size = D
  have hDn : H2 D = none := I2.hok.fresh (Nat.le_of_eq hD)
  obtain ⟨W, ⟨m0, w0⟩, turn⟩ := q D hDn
  -- the new list
  generalize hs3 : ({ s2 with heap := s2.heap.push { cls := .type "list", data := .seq ([] : List Value).toArray } } : Shared) = s3
  have I3 : Inv X pins σ (upd H2 D (.lst [])) s3 := by
    rw [← hs3]
    refine I2.laid (t' := s2.toks) (fun b o e => Heap.get?_push_of_some _ e) (Nat.le_of_eq hD) ⟨Nat.zero_le _, [], 0, .nil, ?_⟩
    rw [← hD]
    exact Heap.get?_push_size _ rfl
  have h3 : s3.heap = s2.heap.push { cls := .type "list", data := .seq ([] : List Value).toArray } := by rw [← hs3]
  have sz : ∀ b ∈ fp, b < s2.heap.objs.size := fun b hb => by
    obtain ⟨o, e, _⟩ := T.obj _ _ st2 b hb
    exact Heap.lt_size e
  have f3 : ∀ b ∈ fp, FpOk X pins (upd H2 D (.lst [])) b ∧ b < s3.heap.objs.size := fun b hb => by
    have hlt := sz b hb
    refine ⟨⟨?_, (f2 b hb).2⟩, by rw [h3, Heap.size_push]; exact Nat.lt_succ_of_lt hlt⟩
    rw [upd_ne (by rw [← hD]; exact Nat.ne_of_lt hlt)]
    exact (f2 b hb).1
  have st3 : tn 0 s3.heap := T.keep _ _ _ st2 fun b _ o e => by rw [h3]; exact Heap.get?_push_of_some _ e
  have I4 := block_start I3 ok hN f3
  have pg := hg s3 (upd H2 D (.lst [])) s3.heap.objs.size (cellsFrom (s3.heap.objs.size + 1) scope.names (cloFrom X.env.cells scope.names [])) fp
  have pt := ht s3 (upd H2 D (.lst [])) s3.heap.objs.size (cellsFrom (s3.heap.objs.size + 1) scope.names (cloFrom X.env.cells scope.names [])) fp
  have pe := he s3 (upd H2 D (.lst [])) s3.heap.objs.size (cellsFrom (s3.heap.objs.size + 1) scope.names (cloFrom X.env.cells scope.names [])) fp
  have pi1 := hi1 s3 (upd H2 D (.lst [])) s3.heap.objs.size (cellsFrom (s3.heap.objs.size + 1) scope.names (cloFrom X.env.cells scope.names [])) fp
  have pg1 := hg1 s3 (upd H2 D (.lst [])) s3.heap.objs.size (cellsFrom (s3.heap.objs.size + 1) scope.names (cloFrom X.env.cells scope.names [])) fp
  have pt1 := ht1 s3 (upd H2 D (.lst [])) s3.heap.objs.size (cellsFrom (s3.heap.objs.size + 1) scope.names (cloFrom X.env.cells scope.names [])) fp
  show codeAny _ _ (.compStart (.ListComp elt [⟨tg, iter, ifs, 0⟩, ⟨tg1, iter1, ifs1, 0⟩] scope pos) 0 (.ref it) (.ref D) (compEnvC scope (cellsFrom (s3.heap.objs.size + 1) scope.names (cloFrom X.env.cells scope.names [])) s3.heap.objs.size X.env)) (compPost (model X.prog X.w) X.A X.xe use Qf (.ref D) s3.heap.objs.size) { s3 with heap := pushCells (s3.heap.push { cls := .type "dict", data := .dict #[] }) scope.names }
  have nfp : ∀ b ∈ fp, (upd H2 D (.lst [])) b = none := fun b hb => (f3 b hb).1.1
  generalize hce : compEnvC scope (cellsFrom (s3.heap.objs.size + 1) scope.names (cloFrom X.env.cells scope.names [])) s3.heap.objs.size X.env = ce at I4 pg pt pe pi1 pg1 pt1 ⊢
  have cL : ce.locals = s3.heap.objs.size := by subst hce; rfl
  generalize hH3 : upd H2 D (.lst []) = H3 at I3 I4 pg pt pe pi1 pg1 pt1 w0 nfp f3
  generalize hs4 : ({ s3 with heap := pushCells (s3.heap.push { cls := .type "dict", data := .dict #[] }) scope.names } : Shared) = s4 at I4 ⊢
  have st4 : tn 0 s4.heap := T.keep _ _ _ st3 fun b _ o e => by rw [← hs4]; exact pushCells_keeps _ _ _ _ (Heap.get?_push_of_some _ e)
  have stat : ∀ {σ' : St} {H' : Hp} {s' : Shared}, Inv (X.blk s3 H3 scope ce fp) [] σ' H' s' → (∀ b ∈ fp, H' b = none) → ∀ b ∈ fp, FpOk (X.blk s3 H3 scope ce fp) [] H' b := fun {σ' H' s'} I' hn b hb =>
    ⟨hn b hb, (I'.ok.exf b hb).1, I'.ok.exfs b hb, .inl hb, fun x c e => (I'.ok.exf b hb).2 x c e, fun p hp => absurd (show p ∈ ([] : List (Addr × Obj)) ++ [] from hp) (by simp)⟩
  have loop : codeAny (model X.prog X.w) X.A (.compLoop (.ListComp elt [⟨tg, iter, ifs, 0⟩, ⟨tg1, iter1, ifs1, 0⟩] scope pos) 0 (.ref it) (.ref D) ce) (compPost (model X.prog X.w) X.A X.xe use Qf (.ref D) s3.heap.objs.size) s4 := by
    refine compLoop2_out (hs1 ce) (fun n s' => ∃ i H', Inv (X.blk s3 H3 scope ce fp) [] (wipe σ (own.map (·.2))) H' s' ∧ tn i s'.heap ∧ (∀ b ∈ fp, H' b = none) ∧ W i n H') ?_ m0 ⟨0, H3, I4, st4, nfp, w0⟩
    rintro n s5 ⟨i, H5, I5, st5, n5, w5⟩
    rcases turn i n H5 w5 with ⟨stop, qq⟩ | ⟨go, Nx, hNx, step⟩
    · have td := T.done (X.blk s3 H3 scope ce fp) rfl rfl rfl hc i [] s5 _ H5 (fun _ _ => False) I5 (stat I5 n5) st5 stop
      refine thnF td fun r s6 ⟨hr, I6⟩ => ?_
      subst hr
      -- back in the def's context
      have I7 : Inv X pins σ H5 s6 := I3.call' (ch := fp) I6.os I6.base I6.hok I6.bare fun b hb => ⟨(f3 b hb).1.2.2.2.1, (f3 b hb).1.2.1, (f3 b hb).1.2.2.2.2.1, (f3 b hb).1.2.2.2.2.2⟩
      have nC : H5 s3.heap.objs.size = none := by
        have z : H5 ce.locals = none := I6.free
        rw [cL] at z
        exact z
      obtain ⟨m, hn, _⟩ := I6.loc
      have hn : s6.heap.Ns ce.locals m := hn
      rw [cL] at hn
      exact hRR D s3.heap.objs.size s6 m H5 I7 qq hn (I3.fpOk (Nat.le_refl _) nC)
    · have ti := T.item (X.blk s3 H3 scope ce fp) rfl rfl rfl hc i [] s5 _ H5 (fun _ _ => False) I5 (stat I5 n5) st5 go
      refine thnF ti fun r s6 ⟨u, hr, h6⟩ => ?_
      subst hr
      refine thnF h6 fun _ s7 ⟨x, H7, I7, r7, y7, st7, n7⟩ => ?_
      have I7' := I7.pinned (stat I7 n7) (T.obj _ _ st7)
      refine thnF (pg _ s7 _ H7 x u _ I7' r7 (step x H7 y7)) fun _ s8 ⟨σ8, H8, I8, hw8, q8⟩ => ?_
      refine thnF (pt _ s8 σ8 H8 _ I8 q8) fun b s9 ⟨H9, I9, q9⟩ => ?_
      -- the turn's end, from any slots that know what the block knew at its start
      have fin : ∀ {σ9 : St} {s' : Shared} {H' : Hp}, Inv (X.blk s3 H3 scope ce fp) ([] ++ pinsAt fp s7.heap) σ9 H' s' → (wipe σ (own.map (·.2))).length = σ9.length → (∀ (j : Nat) v, (wipe σ (own.map (·.2)))[j]? = some (some v) → σ9[j]? = some (some v)) → Nx H' →
          ∃ m, m < n ∧ ∃ i H', Inv (X.blk s3 H3 scope ce fp) [] (wipe σ (own.map (·.2))) H' s' ∧ tn i s'.heap ∧ (∀ b ∈ fp, H' b = none) ∧ W i m H' := fun {σ9 s' H'} I' hl hk nx => by
        obtain ⟨m', hm, w'⟩ := hNx H' nx
        have pin' : ∀ b ∈ fp, ∀ o, s7.heap.get? b = some o → s'.heap.get? b = some o ∧ H' b = none := fun b hb o e =>
          let z := I'.pin (b, o) (List.mem_append_right _ (List.mem_append_right _ (mem_pinsAt hb e)))
          ⟨z.1, z.2.1⟩
        refine ⟨m', hm, i + 1, H', (I'.unpinned (pins := [])).weak hl hk, T.keep _ _ _ st7 fun b hb o e => (pin' b hb o e).1, fun b hb => ?_, w'⟩
        obtain ⟨o, e, _⟩ := T.obj _ _ st7 b hb
        exact (pin' b hb o e).2
      have hl8 : (wipe σ (own.map (·.2))).length = σ8.length := by rw [← hw8, wipe_length]
      have hk8 : ∀ (j : Nat) v, (wipe σ (own.map (·.2)))[j]? = some (some v) → σ8[j]? = some (some v) := fun j v e => by
        rw [← hw8] at e
        exact (wipe_some e).1
      have hk9 : ∀ (j : Nat) v, (wipe σ (own.map (·.2)))[j]? = some (some v) → (wipe σ8 vs1)[j]? = some (some v) := fun j v e => by
        rw [← hw8] at e
        obtain ⟨e1, e2⟩ := wipe_some e
        rw [wipe_out fun z => e2 (hv j z)]
        exact e1
      cases b with
      | false =>
        simp only [Bool.false_eq_true, if_false] at q9 ⊢
        exact fin I9 hl8 hk8 q9
      | true =>
        simp only [if_true] at q9 ⊢
        refine thnF (pi1 _ s9 σ8 H9 _ I9 q9) fun xv s10 hx => thnF hx fun itv s11 h11 => ?_
        obtain ⟨it1, fp1, tn1, J1, H11, e1, I11, T1, st11, f11, W1, ⟨m1, w1⟩, turn1⟩ := h11
        subst e1
        -- the inner loop
        have stat1 : ∀ {H' : Hp}, (∀ b ∈ fp1, H' b = none) → ∀ b ∈ fp1, FpOk (X.blk s3 H3 scope ce fp) ([] ++ pinsAt fp s7.heap) H' b := fun hn b hb => ⟨hn b hb, (f11 b hb).2⟩
        have loop1 : codeAny (model X.prog X.w) X.A (.compLoop (.ListComp elt [⟨tg, iter, ifs, 0⟩, ⟨tg1, iter1, ifs1, 0⟩] scope pos) 1 (.ref it1) (.ref D) ce)
            (fun r s' => match r with
              | .ok _ => ∃ m, m < n ∧ ∃ i H', Inv (X.blk s3 H3 scope ce fp) [] (wipe σ (own.map (·.2))) H' s' ∧ tn i s'.heap ∧ (∀ b ∈ fp, H' b = none) ∧ W i m H'
              | .error _ => False) s11 := by
          refine compLoop2_in (fun k s' => ∃ j H', Inv (X.blk s3 H3 scope ce fp) ([] ++ pinsAt fp s7.heap) (wipe σ8 vs1) H' s' ∧ tn1 j s'.heap ∧ (∀ b ∈ fp1, H' b = none) ∧ W1 j k H') ?_ m1 ⟨0, H11, I11.weak (wipe_length _ _) (fun j v e => (wipe_some e).1), st11, fun b hb => (f11 b hb).1, w1⟩
          rintro k s12 ⟨j, H12, I12, st12, n12, w12⟩
          rcases turn1 j k H12 w12 with ⟨stop1, nx1⟩ | ⟨go1, Nx1, hNx1, step1⟩
          · refine thnF (T1.done (X.blk s3 H3 scope ce fp) rfl rfl rfl hc j _ s12 (wipe σ8 vs1) H12 (fun _ _ => False) I12 (stat1 n12) st12 stop1) fun r s13 ⟨hr, I13⟩ => ?_
            subst hr
            exact fin I13 (hl8.trans (wipe_length σ8 vs1).symm) hk9 nx1
          · refine thnF (T1.item (X.blk s3 H3 scope ce fp) rfl rfl rfl hc j _ s12 (wipe σ8 vs1) H12 (fun _ _ => False) I12 (stat1 n12) st12 go1) fun r s13 ⟨u1, hr, h13⟩ => ?_
            subst hr
            refine thnF h13 fun _ s14 ⟨x1, H14, I14, r14, y14, st14, n14⟩ => ?_
            have I14' := I14.pinned (stat1 n14) (T1.obj _ _ st14)
            refine thnF (pg1 _ s14 (wipe σ8 vs1) H14 x1 u1 _ I14' r14 (step1 x1 H14 y14)) fun _ s15 ⟨σ15, H15, I15, hw15, q15⟩ => ?_
            refine thnF (pt1 _ s15 σ15 H15 _ I15 q15) fun b1 s16 ⟨H16, I16, q16⟩ => ?_
            have fin1 : ∀ {s' : Shared} {H' : Hp}, Inv (X.blk s3 H3 scope ce fp) (([] ++ pinsAt fp s7.heap) ++ pinsAt fp1 s14.heap) σ15 H' s' → Nx1 H' → ∃ m, m < k ∧ ∃ j H', Inv (X.blk s3 H3 scope ce fp) ([] ++ pinsAt fp s7.heap) (wipe σ8 vs1) H' s' ∧ tn1 j s'.heap ∧ (∀ b ∈ fp1, H' b = none) ∧ W1 j m H' := fun {s' H'} I' nx => by
              obtain ⟨m', hm, w'⟩ := hNx1 H' nx
              have pin' : ∀ b ∈ fp1, ∀ o, s14.heap.get? b = some o → s'.heap.get? b = some o ∧ H' b = none := fun b hb o e =>
                let z := I'.pin (b, o) (List.mem_append_right _ (List.mem_append_right _ (mem_pinsAt hb e)))
                ⟨z.1, z.2.1⟩
              refine ⟨m', hm, j + 1, H', I'.unpinned.weak (by rw [← hw15, wipe_length]) (fun j v e => by rw [← hw15] at e; exact (wipe_some e).1), T1.keep _ _ _ st14 fun b hb o e => (pin' b hb o e).1, fun b hb => ?_, w'⟩
              obtain ⟨o, e, _⟩ := T1.obj _ _ st14 b hb
              exact (pin' b hb o e).2
            cases b1 with
            | false =>
              simp only [Bool.false_eq_true, if_false] at q16 ⊢
              exact fin1 I16 q16
            | true =>
              simp only [if_true] at q16 ⊢
              refine thnF (pe _ s16 σ15 H16 _ I16 q16) fun z s17 ⟨yv, H17, I17, r17, acc, hD17, hz17, nx⟩ => ?_
              exact app_ok (X := X.blk s3 H3 scope ce fp) I17 hD17 hz17 r17 fun s18 I18 => fin1 I18 nx
        exact compStart1_ok loop1 (T1.self X.A 0 _ _ _ st11 loop1)
  exact codeAny_compStart_list loop (T.self X.A 0 _ _ _ st4 loop)
/-- as a value -/
theorem pe_lc2 {elt tg iter tg1 iter1 : Expr} {ifs ifs1 : List Expr} {scope : Scope} {own : List (Str × Nat)} {vs1 : List Nat} {pos : Pos} {wi wi1 : TI} {g g1 : TG} {tt tt1 : TT} {te : TE} (hc : X.calm = true) (hN : X.N.Nodup) (hi : PI X tg iter wi) (ok : BlkOk X.N X.env.scope scope own) (hv : ∀ i ∈ vs1, i ∈ own.map (·.2))
    (hg : ∀ (s : Shared) (H : Hp) (C : Addr) (cl : List (Str × Addr)) (fp : List Addr), PG (X.blk s H scope (compEnvC scope cl C X.env) fp) tg g) (ht : ∀ (s : Shared) (H : Hp) (C : Addr) (cl : List (Str × Addr)) (fp : List Addr), PTs (X.blk s H scope (compEnvC scope cl C X.env) fp) ifs tt)
    (hi1 : ∀ (s : Shared) (H : Hp) (C : Addr) (cl : List (Str × Addr)) (fp : List Addr), PI (X.blk s H scope (compEnvC scope cl C X.env) fp) tg1 iter1 wi1)
    (hg1 : ∀ (s : Shared) (H : Hp) (C : Addr) (cl : List (Str × Addr)) (fp : List Addr), PG (X.blk s H scope (compEnvC scope cl C X.env) fp) tg1 g1) (ht1 : ∀ (s : Shared) (H : Hp) (C : Addr) (cl : List (Str × Addr)) (fp : List Addr), PTs (X.blk s H scope (compEnvC scope cl C X.env) fp) ifs1 tt1)
    (he : ∀ (s : Shared) (H : Hp) (C : Addr) (cl : List (Str × Addr)) (fp : List Addr), PE (X.blk s H scope (compEnvC scope cl C X.env) fp) elt te) (hs : ∀ x, foldedSetIterable iter X.env x = pure x := by intro _; rfl) (hs1 : ∀ env x, foldedSetIterable iter1 env x = pure x := by intro _ _; rfl) :
    PE X (.ListComp elt [⟨tg, iter, ifs, 0⟩, ⟨tg1, iter1, ifs1, 0⟩] scope pos) (tLc2 wi g tt wi1 g1 tt1 te (own.map (·.2)) vs1) := by
  intro pins s σ H Q I h
  rw [eval_ListComp]
  refine lc2_core hc hN I hi ok hv hg ht he hs hi1 hg1 ht1 hs1 h fun D C s' m H' I' q hn f => ⟨m, hn, fun h'' sb => ?_⟩
  obtain ⟨f0, f1, f2, f3, f4, f5⟩ := f
  exact ⟨.ref D, H', I'.turned (t' := s'.toks) (fun b o hb e => (sb.2 b hb).trans e) f0 f1 f3 f4 f5, rfl, q⟩
end
end L2

namespace L2
open PySem PySem.Spec PyProof.Rows

/-! ### lists of pairs as tables -/
section
variable {κ : Type} [DecidableEq κ]
def valV (kvs : List (κ × V)) (k : κ) : Option V := (kvs.find? fun kv => decide (kv.1 = k)).map (·.2)
/-- in its place, or at the end -/
def putK (kvs : List (κ × V)) (k : κ) (v : V) : List (κ × V) :=
  if (kvs.any fun kv => decide (kv.1 = k)) = true then kvs.map (fun kv => if kv.1 = k then (kv.1, v) else kv) else kvs ++ [(k, v)]
def dropK (kvs : List (κ × V)) (k : κ) : List (κ × V) := kvs.filter fun kv => decide (kv.1 ≠ k)

theorem valV_nil {k : κ} : valV ([] : List (κ × V)) k = none := rfl
theorem valV_pos {p : κ × V} {r : List (κ × V)} {k : κ} (e : p.1 = k) : valV (p :: r) k = some p.2 := by simp [valV, List.find?_cons, e]
theorem valV_neg {p : κ × V} {r : List (κ × V)} {k : κ} (e : ¬ p.1 = k) : valV (p :: r) k = valV r k := by simp [valV, List.find?_cons, e]
theorem RelO.getD {o : Option V} {u : Option Value} {d : V} {d' : Value} (r : RelO o u) (rd : RelV d d') : RelV (o.getD d) (u.getD d') := by
  cases o with
  | none => cases u with
    | none => exact rd
    | some _ => exact (show False from r).elim
  | some _ => cases u with
    | none => exact (show False from r).elim
    | some _ => exact r

/-- raw tables of the same keys -/
theorem KV.val {kvs : List (κ × V)} {vs : List (κ × Value)} (r : KV kvs vs) (k : κ) : RelO (valV kvs k) (valueAt vs k) := by
  unfold KV at r
  induction r with
  | nil => exact True.intro
  | @cons p q ps qs h t ih =>
    obtain ⟨h1, h2⟩ := h
    by_cases e : p.1 = k
    · have e' : q.1 = k := h1.symm.trans e
      have b : valueAt (q :: qs) k = some q.2 := by simp [valueAt, List.find?_cons, e']
      rw [valV_pos e, b]; exact h2
    · have e' : ¬ q.1 = k := fun z => e (h1.trans z)
      have b : valueAt (q :: qs) k = valueAt qs k := by simp [valueAt, List.find?_cons, e']
      rw [valV_neg e, b]; exact ih
theorem KV.any {kvs : List (κ × V)} {vs : List (κ × Value)} (r : KV kvs vs) (k : κ) : (kvs.any fun kv => decide (kv.1 = k)) = vs.any fun kv => decide (kv.1 = k) := by
  unfold KV at r
  induction r with
  | nil => rfl
  | cons h t ih => rw [List.any_cons, List.any_cons, ih, h.1]
theorem KV.drop {kvs : List (κ × V)} {vs : List (κ × Value)} (r : KV kvs vs) (k : κ) : KV (dropK kvs k) (without vs k) := by
  unfold KV at r ⊢
  unfold dropK without
  induction r with
  | nil => exact .nil
  | @cons p q ps qs h t ih =>
    obtain ⟨h1, h2⟩ := h
    rw [List.filter_cons, List.filter_cons]
    by_cases e : p.1 = k
    · have a : ¬ decide (p.1 ≠ k) = true := by simp [e]
      have b : ¬ decide (q.1 ≠ k) = true := by simp [h1.symm.trans e]
      rw [if_neg a, if_neg b]; exact ih
    · have e' : ¬ q.1 = k := fun z => e (h1.trans z)
      have a : decide (p.1 ≠ k) = true := by simp [e]
      have b : decide (q.1 ≠ k) = true := by simp [e']
      rw [if_pos a, if_pos b]; exact .cons ⟨h1, h2⟩ ih
theorem KV.keys {kvs : List (κ × V)} {vs : List (κ × Value)} (r : KV kvs vs) : kvs.map (·.1) = vs.map (·.1) := by
  unfold KV at r
  induction r with
  | nil => rfl
  | cons h t ih => rw [List.map_cons, List.map_cons, ih, h.1]
theorem KV.length {kvs : List (κ × V)} {vs : List (κ × Value)} (r : KV kvs vs) : kvs.length = vs.length := Paired.length r
end


/-! ### a tracked dict, its keys ints and texts or tuples of these -/
/-- raw entries of a dict with tuple keys -/
abbrev KT (H : Hp) : List (List Key × V) → List (List Key × Addr × Value) → Prop := Paired fun p q => p.1 = q.1 ∧ H q.2.1 = some (.tup (p.1.map kV)) ∧ RelV p.2 q.2.2
theorem KT.val {H : Hp} {kvs : List (List Key × V)} {xs : List (List Key × Addr × Value)} (r : KT H kvs xs) (k : List Key) : RelO (valV kvs k) ((atKey xs k).map (·.2)) := by
  induction r with
  | nil => exact True.intro
  | @cons p q ps qs h t ih =>
    obtain ⟨h1, _, h2⟩ := h
    by_cases e : p.1 = k
    · have e' : q.1 = k := h1.symm.trans e
      have b : atKey (q :: qs) k = some q.2 := by simp [atKey, List.find?_cons, e']
      rw [valV_pos e, b]; exact h2
    · have e' : ¬ q.1 = k := fun z => e (h1.trans z)
      have b : atKey (q :: qs) k = atKey qs k := by simp [atKey, List.find?_cons, e']
      rw [valV_neg e, b]; exact ih
theorem KT.keeps {H H' : Hp} {kvs : List (List Key × V)} {xs : List (List Key × Addr × Value)} (r : KT H kvs xs) (ht : ∀ b ys, H b = some (.tup ys) → H' b = some (.tup ys)) : KT H' kvs xs :=
  Paired.mapP r fun _ _ z => ⟨z.1, ht _ _ z.2.1, z.2.2⟩

section
variable {P : Program} {w : World} {H : Hp} {h : Heap} {a : Addr}
end

/-- what the dict at a holds at the key y -/
def DGet (H : Hp) (a : Addr) (y : V) (r : Option V) : Prop :=
  (∃ kvs k, Rd H a (.dK kvs) ∧ y = kV k ∧ r = valV kvs k) ∨ ∃ kvs k b, Rd H a (.dT kvs) ∧ y = .ref b ∧ H b = some (.tup (k.map kV)) ∧ r = valV kvs k
/-- the heap behind a[y] = v -/
def DPut (H : Hp) (a : Addr) (y v : V) (H' : Hp) : Prop :=
  (∃ kvs k, H a = some (.dK kvs) ∧ y = kV k ∧ kvs.length < sizeLine ∧ H' = upd H a (.dK (putK kvs k v))) ∨
  ∃ kvs k b, H a = some (.dT kvs) ∧ y = .ref b ∧ H b = some (.tup (k.map kV)) ∧ kvs.length < sizeLine ∧ H' = upd H a (.dT (putK kvs k v))
theorem DGet.k {H : Hp} {a : Addr} {kvs : List (Key × V)} {k : Key} (e : H a = some (.dK kvs)) : DGet H a (kV k) (valV kvs k) := .inl ⟨kvs, k, .inl e, rfl, rfl⟩
theorem DGet.t {H : Hp} {a b : Addr} {kvs : List (List Key × V)} {k : List Key} (e : H a = some (.dT kvs)) (eb : H b = some (.tup (k.map kV))) : DGet H a (.ref b) (valV kvs k) := .inr ⟨kvs, k, b, .inl e, rfl, eb, rfl⟩
theorem DPut.k {H : Hp} {a : Addr} {kvs : List (Key × V)} {k : Key} {v : V} (e : H a = some (.dK kvs)) (hl : kvs.length < sizeLine) : DPut H a (kV k) v (upd H a (.dK (putK kvs k v))) := .inl ⟨kvs, k, e, rfl, hl, rfl⟩
theorem DPut.t {H : Hp} {a b : Addr} {kvs : List (List Key × V)} {k : List Key} {v : V} (e : H a = some (.dT kvs)) (eb : H b = some (.tup (k.map kV))) (hl : kvs.length < sizeLine) :
    DPut H a (.ref b) v (upd H a (.dT (putK kvs k v))) := .inr ⟨kvs, k, b, e, rfl, eb, hl, rfl⟩


section
variable {X : Cx} {pins : List (Addr × Obj)} {σ : St} {H : Hp} {s : Shared} {a : Addr} {y v : V} {u r : Value} {o : Option V} {A : Around} {E : Value → Shared → Prop}

end

section
variable {X : Cx} {pins : List (Addr × Obj)} {σ : St} {H : Hp} {s : Shared} {a : Addr} {kvs : List (Key × V)} {k : Key} {u : Value} {A : Around} {E : Value → Shared → Prop}
end


/-! ### readings and rules -/
/-- the element of a subscription, not a slice -/
def NoSl (i : Expr) : Prop := ∀ ov iv, subscripted i false ov iv = operate [ov, iv] (getItem ov iv)
/-- d[y] -/
def tDGet (td ty : TE) : TE := fun σ H Q => td σ H fun x H1 => ty σ H1 fun y H2 => ∃ a v, x = .ref a ∧ DGet H2 a y (some v) ∧ Q v H2
/-- y in d, y not in d -/
def tDIn (ty td : TE) : TE := fun σ H Q => ty σ H fun y H1 => td σ H1 fun x H2 => ∃ a o, x = .ref a ∧ DGet H2 a y o ∧ Q (.bl o.isSome) H2
def tDNotIn (ty td : TE) : TE := fun σ H Q => ty σ H fun y H1 => td σ H1 fun x H2 => ∃ a o, x = .ref a ∧ DGet H2 a y o ∧ Q (.bl (!o.isSome)) H2
/-- d[y] = v -/
def sDPut (td ty tv : TE) : TS := fun D σ H => tv σ H fun v H1 => td σ H1 fun x H2 => ty σ H2 fun y H3 => ∃ a H4, x = .ref a ∧ DPut H3 a y v H4 ∧ D.nx σ H4
/-- d[y] op= v -/
def sDAug (td ty tv : TE) (rd : V → V → Hp → VK → Prop) : TS := fun D σ H => td σ H fun x H1 => ty σ H1 fun y H2 => ∃ a v, x = .ref a ∧ DGet H2 a y (some v) ∧
  tv σ H2 fun y2 H3 => rd v y2 H3 fun z H4 => ∃ H5, DPut H4 a y z H5 ∧ D.nx σ H5
/-- del d[y] -/
def sDDel (td ty : TE) : TS := fun D σ H => td σ H fun x H1 => ty σ H1 fun y H2 => ∃ a kvs k, x = .ref a ∧ H2 a = some (.dK kvs) ∧ y = kV k ∧ (valV kvs k).isSome = true ∧ D.nx σ (upd H2 a (.dK (dropK kvs k)))

section
variable {X : Cx} {o i e value : Expr} {pos pos' tpos : Pos} {td ty tv : TE}
end


/-! ### displays -/
/-- {}, to be a dict of the kind that is wanted -/
def tDNewK : TE := fun _ H Q => ∀ p, H p = none → Q (.ref p) (upd H p (.dK []))
def tDNewT : TE := fun _ H Q => ∀ p, H p = none → Q (.ref p) (upd H p (.dT []))
section
variable {X : Cx} {pos : Pos}
end

/-- the pairs of a display, from the left -/
def tPairs : List (TE × TE) → St → Hp → (List (V × V) → Hp → Prop) → Prop
  | [], _, H, Q => Q [] H
  | (tk, tv) :: r, σ, H, Q => tk σ H fun x H1 => tv σ H1 fun y H2 => tPairs r σ H2 fun ps H3 => Q ((x, y) :: ps) H3
abbrev VV : List (V × V) → List (Value × Value) → Prop := Paired fun p q => RelV p.1 q.1 ∧ RelV p.2 q.2
def PPs (X : Cx) (pos : Pos) (keys : List (Option Expr)) (values : List Expr) (trs : List (TE × TE)) : Prop :=
  ∀ (pins : List (Addr × Obj)) (s : Shared) (σ : St) (H : Hp) (Q : List (V × V) → Hp → Prop), Inv X pins σ H s → tPairs trs σ H Q →
    wpAny (model X.prog X.w) X.A (evalPairs (pairTrees keys values X.env pos)) (fun vs s' => ∃ ps H', Inv X pins σ H' s' ∧ VV ps vs ∧ Q ps H') X.xe s
def mergeK (kvs more : List (Key × V)) : List (Key × V) := more.foldl (fun acc kv => putK acc kv.1 kv.2) kvs
/-- {k: v, ..} with keys ints and texts; the new dict stands empty while the pairs are made -/
def tDisp (trs : List (TE × TE)) : TE := fun σ H Q => ∀ p, H p = none → tPairs trs σ (upd H p (.dK [])) fun ps H2 => H2 p = some (.dK []) ∧ ∃ kvs : List (Key × V), ps = kvs.map (fun kv => (kV kv.1, kv.2)) ∧ kvs.length ≤ 15 ∧ Q (.ref p) (upd H2 p (.dK (mergeK [] kvs)))
/-! ### methods -/
/-- a method call o.m(e) of a built-in, with one argument: what must be seen of the text -/
structure M1 (X : Cx) (o : Expr) (m : Str) (apos : Pos) (e : Expr) (cpos : Pos) : Prop where
  base : attributeBase o m X.env (eval o X.env) = eval o X.env
  few : ((backTo cpos (starEach [e] X.env)).all (fun x => !x.1) && (backToKw cpos (keywordEach [] X.env)).all (fun x => x.1.isSome)
    && decide (([e] : List Expr).length + ([] : List Keyword).length + (if ([] : List Keyword).isEmpty then 0 else 1) < 30)) = true
  line : (apos.endLine == cpos.line) = true
  trees : backTo cpos (starEach [e] X.env) = [(false, eval e X.env)]
structure M2 (X : Cx) (o : Expr) (m : Str) (apos : Pos) (e f : Expr) (cpos : Pos) : Prop where
  base : attributeBase o m X.env (eval o X.env) = eval o X.env
  few : ((backTo cpos (starEach [e, f] X.env)).all (fun x => !x.1) && (backToKw cpos (keywordEach [] X.env)).all (fun x => x.1.isSome)
    && decide (([e, f] : List Expr).length + ([] : List Keyword).length + (if ([] : List Keyword).isEmpty then 0 else 1) < 30)) = true
  line : (apos.endLine == cpos.line) = true
  trees : backTo cpos (starEach [e, f] X.env) = [(false, eval e X.env), (false, eval f X.env)]

/-- a is a dict, whatever its keys -/
def IsD (H : Hp) (a : Addr) : Prop := (∃ kvs, Rd H a (.dK kvs)) ∨ ∃ kvs, Rd H a (.dT kvs)
section
variable {X : Cx} {pins : List (Addr × Obj)} {σ : St} {H : Hp} {s : Shared} {a : Addr} {y d : V} {u r : Value} {o : Option V} {A : Around} {E : Value → Shared → Prop}
end

def tDGet1 (td ty : TE) : TE := fun σ H Q => td σ H fun x H1 => ∃ a, x = .ref a ∧ IsD H1 a ∧ ty σ H1 fun y H2 => ∃ o, DGet H2 a y o ∧ Q (o.getD .non) H2
def tDGet2 (td ty tx : TE) : TE := fun σ H Q => td σ H fun x H1 => ∃ a, x = .ref a ∧ IsD H1 a ∧ ty σ H1 fun y H2 => tx σ H2 fun z H3 => ∃ o, DGet H3 a y o ∧ Q (o.getD z) H3
/-- d.pop(k): there; d.pop(k, x): there or not -/
def tDPop1 (td ty : TE) : TE := fun σ H Q => td σ H fun x H1 => ∃ a, x = .ref a ∧ IsD H1 a ∧ ty σ H1 fun y H2 => ∃ kvs k v, H2 a = some (.dK kvs) ∧ y = kV k ∧ valV kvs k = some v ∧ Q v (upd H2 a (.dK (dropK kvs k)))
def tDPop2 (td ty tx : TE) : TE := fun σ H Q => td σ H fun x H1 => ∃ a, x = .ref a ∧ IsD H1 a ∧ ty σ H1 fun y H2 => tx σ H2 fun z H3 => ∃ kvs k, H3 a = some (.dK kvs) ∧ y = kV k ∧
  (∀ v, valV kvs k = some v → Q v (upd H3 a (.dK (dropK kvs k)))) ∧ (valV kvs k = none → Q z H3)
section
variable {X : Cx} {o e f : Expr} {apos cpos : Pos} {td ty tx : TE}
end

/-! ### dict(d): a copy -/
section
variable {X : Cx} {pins : List (Addr × Obj)} {σ : St} {H : Hp} {s : Shared} {a : Addr} {kvs : List (Key × V)} {A : Around} {E : Value → Shared → Prop}
end


section
variable {X : Cx} {pins : List (Addr × Obj)} {σ : St} {H : Hp} {s : Shared} {a : Addr} {y : V} {u : Value} {A : Around} {E : Value → Shared → Prop}
end
end L2

namespace L2
open PySem PySem.Spec PyProof.Rows

section
variable {prog : Program} {w : World} {A : Around} {E : Value → Shared → Prop}
end

section
variable {X : Cx}
end
end L2

namespace L2
open PySem PySem.Spec PyProof.Rows

section
variable {X : Cx} {pins : List (Addr × Obj)} {σ : St} {H : Hp} {s : Shared} {h' : Heap}
/-- several records of ours have turned -/
theorem Inv.turnedL {t' : Nat} {ch : List Addr} (I : Inv X pins σ H s) (k : ∀ b o, b ∉ ch → s.heap.get? b = some o → h'.get? b = some o) (hf : ∀ b ∈ ch, FpOk X pins H b) : Inv X pins σ H { s with heap := h', toks := t' } := by
  have nit : ∀ b u, H b = some u → b ∉ ch := fun b u e z => by
    have q := (hf b z).1
    rw [q] at e; cases e
  refine I.step (g' := s.gens) (d' := s.drawn) (ch := ch) (fun b hb => ⟨(hf b hb).2.2.2.1, (hf b hb).2.1, (hf b hb).2.2.2.2.1, (hf b hb).2.2.2.2.2⟩) (fun b o _ _ hc e _ => k b o hc e) (fun b o _ _ hc e _ => ⟨o.slots, k b o hc e⟩)
    (fun _ _ _ _ n => n) (fun b o hc e => ⟨o, k b o hc e⟩) (fun _ _ e => e) (fun _ _ _ e => e) (fun b ps e => ⟨#[], by rw [e]; simp⟩) (fun m hm => ?_) (fun b u e => ?_) I.bare
  · obtain ⟨o, es, ep, ho, r⟩ := hm
    exact ⟨o, es, ep, k _ o (fun z => (hf _ z).2.1 rfl) ho, r⟩
  · refine (I.hok b u e).stay (fun c v hc q => k c v ?_ q) (fun _ q => q) fun _ _ q => q
    rcases hc with z | z
    · rw [z]; exact nit b u e
    · exact nit c _ z
/-- .. and one new object is laid -/
theorem Inv.turnedNew {t' : Nat} {ch : List Addr} {T : Addr} {ob : HO} (I : Inv X pins σ H s) (k : ∀ b o, b ∉ ch → s.heap.get? b = some o → h'.get? b = some o) (hf : ∀ b ∈ ch, FpOk X pins H b) (hT : s.heap.objs.size ≤ T)
    (new : ObjOk X.prog X.w (upd H T ob) h' T ob) : Inv X pins σ (upd H T ob) { s with heap := h', toks := t' } := by
  have hn : H T = none := I.hok.fresh hT
  have nit : ∀ b u, H b = some u → b ∉ ch := fun b u e z => by
    have q := (hf b z).1
    rw [q] at e; cases e
  refine I.step (g' := s.gens) (d' := s.drawn) (ch := ch) (fun b hb => ⟨(hf b hb).2.2.2.1, (hf b hb).2.1, (hf b hb).2.2.2.2.1, (hf b hb).2.2.2.2.2⟩) (fun b o _ _ hc e _ => k b o hc e) (fun b o _ _ hc e _ => ⟨o.slots, k b o hc e⟩)
    (fun b o _ e n => ?_) (fun b o hc e => ⟨o, k b o hc e⟩) (fun b xs e => ?_) (fun b o u e => ?_) (fun b ps e => ⟨#[], ?_⟩) (fun m hm => ?_) (fun b u e => ?_) I.bare
  · rw [upd_ne (Nat.ne_of_lt (Nat.lt_of_lt_of_le (Heap.lt_size e) hT))]; exact n
  · rw [upd_ne (ne_of_none e hn)]; exact e
  · rw [upd_ne (ne_of_none e hn)]; exact e
  · rw [upd_ne (ne_of_none e hn), e]; simp
  · obtain ⟨o, es, ep, ho, r⟩ := hm
    exact ⟨o, es, ep, k _ o (fun z => (hf _ z).2.1 rfl) ho, r⟩
  · by_cases hb : b = T
    · subst hb
      rw [upd_same] at e
      cases e
      exact new
    · rw [upd_ne hb] at e
      refine (I.hok b u e).stay (fun c v hc q => k c v ?_ q) (fun c q => by rw [upd_ne (ne_of_none q hn)]; exact q) fun c xs q => by rw [upd_ne (ne_of_none q hn)]; exact q
      rcases hc with z | z
      · rw [z]; exact nit b u e
      · exact nit c _ z

/-! ### locking a thing while a statement runs -/
end
/-- the statement runs while the thing at d is locked (read, not written); d and what stands there are the reading's choice -/
def tLock (t : TS) : TS := fun D σ H => ∃ d u, H d = some u ∧ Mut (some u) ∧ ∀ od, t ⟨fun σ' H' => H' d = some (.frz od u) ∧ D.nx σ' (upd H' d u), fun v H' => H' d = some (.frz od u) ∧ D.rt v (upd H' d u), fun σ' H' => H' d = some (.frz od u) ∧ D.bk σ' (upd H' d u), fun σ' H' => H' d = some (.frz od u) ∧ D.ct σ' (upd H' d u)⟩ σ (upd H d (.frz od u))
def tLockE (t : TE) : TE := fun σ H Q => ∃ d u, H d = some u ∧ Mut (some u) ∧ ∀ od, t σ (upd H d (.frz od u)) fun v H' => H' d = some (.frz od u) ∧ Q v (upd H' d u)
section
variable {X : Cx}
/-! ### one iterator just laid -/
end

/-! ### range with a step -/
/-- lo, lo + c, .. (n of them) -/
def Itc (lo c : Int) (n : Nat) : It := ⟨fun i _ => i < n, fun i H x H' => H' = H ∧ x = .int (lo + (i : Nat) * c), fun i _ => n ≤ i⟩
/-- range(i, j, c): small bounds, n items -/
def RgC (i j c : Int) (n : Nat) : Prop := c ≠ 0 ∧ c.natAbs < 1073741824 ∧ Builtin.Range.small i j c = true ∧ Builtin.Range.rangeSize i j c = n
theorem RgC.neg {i j : Int} (ha : -(2 ^ 62) ≤ i) (ha' : i < 2 ^ 62) (hb : -(2 ^ 62) ≤ j) (hb' : j < 2 ^ 62) : RgC i j (-1) (i - j).toNat :=
  ⟨by decide, by decide, PySem.W.small_down ha ha' hb hb', PySem.W.rangeSize_downNat i j⟩
def iRng3 (ta : TA) : TI := fun σ H R => ta σ H fun vs H1 => ∃ (i j c : Int) (n : Nat), vs = [.int i, .int j, .int c] ∧ RgC i j c n ∧ R (Itc i c n) H1
section
variable {X : Cx} {tg : Expr}
end
/-! ### reversed(list) -/
/-- the list at a (n items at the start, which the loop leaves there), from its end -/
def Itv (K : PySem.W.Frag) (a : Addr) (n : Nat) : It :=
  ⟨fun i H => i < n ∧ ∃ (xs : List V) (x : V), SqL K H a xs ∧ xs[n - 1 - i]? = some x, fun i H x H' => H' = H ∧ ∀ xs, SqL K H a xs → xs[n - 1 - i]? = some x, fun i _ => n ≤ i⟩
def iRev (K : PySem.W.Frag) (ta : TA) : TI := fun σ H R => ta σ H fun vs H1 => ∃ (a : Addr) (xs : List V), vs = [.ref a] ∧ SqL K H1 a xs ∧ R (Itv K a xs.length) H1
section
variable {X : Cx} {tg : Expr}
end

/-! ### a str -/
def Its (x : Str) : It := ⟨fun i _ => i < x.cps.size, fun i H v H' => H' = H ∧ ∃ c, x.cps[i]? = some c ∧ v = .str ⟨#[c]⟩, fun i _ => x.cps.size ≤ i⟩
def iStr (te : TE) : TI := fun σ H R => te σ H fun v H1 => ∃ x, v = .str x ∧ R (Its x) H1
/-! ### a dict's keys: any dict's entries -/
section
variable {prog : Program} {w : World} {A : Around} {E : Value → Shared → Prop} {s : Shared}
end

/-! ### a locked dict -/
section
variable {X : Cx} {pins : List (Addr × Obj)} {σ : St} {H : Hp} {s : Shared} {d : Addr} {o : Obj}
end

/-- the keys of the locked dict at d, in their order -/
def Itk (d : Addr) (o : Obj) (kvs : List (Key × V)) : It :=
  ⟨fun i H => H d = some (.frz o (.dK kvs)) ∧ i < kvs.length, fun i H x H' => H' = H ∧ ∃ k v, kvs[i]? = some (k, v) ∧ x = kV k, fun i H => H d = some (.frz o (.dK kvs)) ∧ kvs.length ≤ i⟩
/-- .. of tuple keys: the key's own tuple -/
def Itkt (d : Addr) (o : Obj) (kvs : List (List Key × V)) : It :=
  ⟨fun i H => H d = some (.frz o (.dT kvs)) ∧ i < kvs.length, fun i H x H' => H' = H ∧ ∃ (k : List Key) (v : V) (q : Addr), kvs[i]? = some (k, v) ∧ x = .ref q ∧ H q = some (.tup (k.map kV)), fun i H => H d = some (.frz o (.dT kvs)) ∧ kvs.length ≤ i⟩
/-- the values -/
def Itd (d : Addr) (o : Obj) (kvs : List (Key × V)) : It :=
  ⟨fun i H => H d = some (.frz o (.dK kvs)) ∧ i < kvs.length, fun i H x H' => H' = H ∧ ∃ k, kvs[i]? = some (k, x), fun i H => H d = some (.frz o (.dK kvs)) ∧ kvs.length ≤ i⟩
/-- the pairs, each a new tuple -/
def Iti (d : Addr) (o : Obj) (kvs : List (Key × V)) : It :=
  ⟨fun i H => H d = some (.frz o (.dK kvs)) ∧ i < kvs.length, fun i H x H' => ∃ T k v, kvs[i]? = some (k, v) ∧ x = .ref T ∧ H T = none ∧ H' = upd H T (.tup [kV k, v]), fun i H => H d = some (.frz o (.dK kvs)) ∧ kvs.length ≤ i⟩
section
variable {P : Program} {w : World} {K : PySem.W.Frag} {tg : Expr} {d : Addr} {o : Obj} {es : Array DictEntry} {ep : Nat}
end

/-! ### for k in d, d.keys(), d.values(), d.items() -/
/-- the dict is locked (tLock, or by the caller) -/
def iKeys (td : TE) : TI := fun σ H R => td σ H fun x H1 => ∃ d o, x = .ref d ∧ ((∃ kvs, H1 d = some (.frz o (.dK kvs)) ∧ R (Itk d o kvs) H1) ∨ ∃ kvs, H1 d = some (.frz o (.dT kvs)) ∧ R (Itkt d o kvs) H1)
def iVals (td : TE) : TI := fun σ H R => td σ H fun x H1 => ∃ d o kvs, x = .ref d ∧ H1 d = some (.frz o (.dK kvs)) ∧ R (Itd d o kvs) H1
def iItems (td : TE) : TI := fun σ H R => td σ H fun x H1 => ∃ d o kvs, x = .ref d ∧ H1 d = some (.frz o (.dK kvs)) ∧ R (Iti d o kvs) H1
def iKeysM (td : TE) : TI := fun σ H R => td σ H fun x H1 => ∃ d o kvs, x = .ref d ∧ H1 d = some (.frz o (.dK kvs)) ∧ R (Itk d o kvs) H1
section
variable {X : Cx} {tg e : Expr} {td : TE} {apos cpos : Pos}
end

/-! ### enumerate(list) -/
/-- the list at a as it stands at each turn, each item in a new pair -/
def Ite (K : PySem.W.Frag) (a : Addr) : It :=
  ⟨fun i H => ∃ (xs : List V) (x : V), SqL K H a xs ∧ xs[i]? = some x, fun i H v H' => ∃ T x, v = .ref T ∧ H T = none ∧ H' = upd H T (.tup [.int (i : Nat), x]) ∧ ∀ xs, SqL K H a xs → xs[i]? = some x, fun i H => ∃ xs : List V, SqL K H a xs ∧ xs.length ≤ i⟩
def iEnum (K : PySem.W.Frag) (ta : TA) : TI := fun σ H R => ta σ H fun vs H1 => ∃ a xs, vs = [.ref a] ∧ SqL K H1 a xs ∧ R (Ite K a) H1
/-! ### zip(list, list) -/
theorem boot_zip5 : bootBuiltins "zip" = some (.type "zip") := by decide +kernel
/-- the lists at a and b as they stand at each turn, the items in new pairs -/
def Itz (K : PySem.W.Frag) (a b : Addr) : It :=
  ⟨fun i H => ∃ (xs ys : List V) (x y : V), SqL K H a xs ∧ SqL K H b ys ∧ xs[i]? = some x ∧ ys[i]? = some y,
    fun i H v H' => ∃ T x y, v = .ref T ∧ H T = none ∧ H' = upd H T (.tup [x, y]) ∧ (∀ xs, SqL K H a xs → xs[i]? = some x) ∧ ∀ ys, SqL K H b ys → ys[i]? = some y,
    fun i H => ∃ xs ys : List V, SqL K H a xs ∧ SqL K H b ys ∧ (xs.length ≤ i ∨ ys.length ≤ i)⟩
theorem turn_zip {P : Program} {w : World} {K : PySem.W.Frag} {elts : List Expr} {kk : Nat} {tpos : Pos} {a b z TI TO i1 i2 : Addr} (D : ZipApart z TI TO i1 i2 a b) :
    Turn P w K (.Tuple elts kk tpos) (Itz K a b) [z, TI, TO, i1, i2] z (fun i h => IsZip h z TI TO .none ∧ IsPair h TI (.ref i1) (.ref i2) ∧ (∃ x y, IsPair h TO x y) ∧ h.IsListIter i1 a i ∧ h.IsListIter i2 b i) where
  mem := by simp
  obj := fun i h st c hc => by
    obtain ⟨hz, hTI, ⟨x, y, hTO⟩, ⟨o1, e1, _, d1⟩, ⟨o2, e2, _, d2⟩⟩ := st
    have e' : c = z ∨ c = TI ∨ c = TO ∨ c = i1 ∨ c = i2 := by simpa using hc
    rcases e' with q | q | q | q | q
    · rw [q]; exact ⟨_, hz, fun v q => nomatch q⟩
    · rw [q]; exact ⟨_, hTI, fun v q => nomatch q⟩
    · rw [q]; exact ⟨_, hTO, fun v q => nomatch q⟩
    · rw [q]; exact ⟨o1, e1, fun v q => by rw [d1] at q; cases q⟩
    · rw [q]; exact ⟨o2, e2, fun v q => by rw [d2] at q; cases q⟩
  keep := fun i h h' st k => by
    obtain ⟨hz, hTI, ⟨x, y, hTO⟩, h1, h2⟩ := st
    exact ⟨k z (by simp) _ hz, k TI (by simp) _ hTI, ⟨x, y, k TO (by simp) _ hTO⟩, h1.at fun o q => k i1 (by simp) o q, h2.at fun o q => k i2 (by simp) o q⟩
  item := by
    intro X hP hw hK hc i pins s σ H E I hf st hg
    subst hP hw hK
    obtain ⟨hz, hTI, ⟨x0, y0, hTO⟩, h1, h2⟩ := st
    obtain ⟨xs, ys, x, y, hqx, hqy, hx, hy⟩ := hg
    obtain ⟨its, rv, p, _⟩ := I.list hqx
    obtain ⟨its2, rv2, p2, _⟩ := I.list hqy
    obtain ⟨u, hu, ru⟩ := rv.get hx
    obtain ⟨u2, hu2, ru2⟩ := rv2.get hy
    have hzl : z < s.heap.objs.size := Heap.lt_size hz
    refine wpAny_pyNext_zip_item D hz hTI hTO h1 h2 p.isList p2.isList (x := u) (y := u2) (by simpa using hu) (by simpa using hu2) fun h' z' TO' h1' h2' hT hsz hk => ?_
    refine ⟨_, rfl, wpAny_letOwnedTupleGo_zip (s := { s with heap := h' }) z' fun h'' z'' sb => ?_⟩
    have hT2 : h''.get? s.heap.objs.size = some { cls := .type "tuple", data := .seq #[u, u2] } := (sb.2 _ (Nat.ne_of_gt hzl)).trans hT
    have new : ObjOk X.prog X.w (upd H s.heap.objs.size (.tup [x, y])) h'' s.heap.objs.size (.tup [x, y]) :=
      ⟨by show 2 ≤ sizeLine; decide, [u, u2], .cons ru (.cons ru2 .nil), ⟨_, hT2, rfl, _, rfl⟩⟩
    have I1 : Inv X pins σ (upd H s.heap.objs.size (.tup [x, y])) { s with heap := h'' } :=
      I.turnedNew (t' := s.toks) (ch := [z, TI, TO, i1, i2]) (fun c o hb q => (sb.2 c (fun q' => hb (by simp [q']))).trans (hk c o (fun q' => hb (by simp [q'])) (fun q' => hb (by simp [q'])) (fun q' => hb (by simp [q'])) (fun q' => hb (by simp [q'])) q)) hf (Nat.le_refl _) new
    refine ⟨.ref s.heap.objs.size, _, I1, rfl, ⟨_, x, y, rfl, I.hok.fresh (Nat.le_refl _), rfl, fun l hl => by rw [I.list_inj hl hqx]; exact hx, fun l hl => by rw [I.list_inj hl hqy]; exact hy⟩, ⟨z'', ?_, ⟨u, u2, ?_⟩, ?_, ?_⟩, fun c hcm => ?_⟩
    · exact (sb.2 _ D.TIz).trans (hk _ _ D.TIz D.TITO D.TIi1 D.TIi2 hTI)
    · exact (sb.2 _ D.TOz).trans TO'
    · exact h1'.at fun o q => (sb.2 _ D.i1z).trans q
    · exact h2'.at fun o q => (sb.2 _ D.i2z).trans q
    · have hlt : c < s.heap.objs.size := by
        have e' : c = z ∨ c = TI ∨ c = TO ∨ c = i1 ∨ c = i2 := by simpa using hcm
        rcases e' with q | q | q | q | q
        · rw [q]; exact hzl
        · rw [q]; exact Heap.lt_size hTI
        · rw [q]; exact Heap.lt_size hTO
        · rw [q]; obtain ⟨_, e1, _⟩ := h1; exact Heap.lt_size e1
        · rw [q]; obtain ⟨_, e2, _⟩ := h2; exact Heap.lt_size e2
      rw [upd_ne (Nat.ne_of_lt hlt)]
      exact (hf c hcm).1
  done := by
    intro X hP hw hK hc i pins s σ H E I hf st hg
    subst hP hw hK
    obtain ⟨hz, hTI, ⟨x0, y0, hTO⟩, h1, h2⟩ := st
    obtain ⟨xs, ys, hqx, hqy, hend⟩ := hg
    obtain ⟨its, rv, p, _⟩ := I.list hqx
    obtain ⟨its2, rv2, p2, _⟩ := I.list hqy
    have l1 := rv.length
    have l2 := rv2.length
    have he : its.toArray[i]? = none ∨ its2.toArray[i]? = none := by
      rcases hend with q | q
      · exact .inl (by simp; omega)
      · exact .inr (by simp; omega)
    exact wpAny_pyNext_zip_end (I.ok.hd hc) D hz hTI hTO h1 h2 p.isList p2.isList he fun h' hk => ⟨rfl, I.turnedL (t' := s.toks) (ch := [z, TI, TO, i1, i2]) (fun c o hb q =>
      hk c o (fun q' => hb (by simp [q'])) (fun q' => hb (by simp [q'])) (fun q' => hb (by simp [q'])) (fun q' => hb (by simp [q'])) q) hf⟩
  self := fun A i s Q E st h => wpAny_pyIter_zip st.1 h
def iZip (K : PySem.W.Frag) (ta : TA) : TI := fun σ H R => ta σ H fun vs H1 => ∃ a b xs ys, vs = [.ref a, .ref b] ∧ SqL K H1 a xs ∧ SqL K H1 b ys ∧ R (Itz K a b) H1
theorem pi_zip {X : Cx} {e e2 : Expr} {ta : TA} {p pos tpos : Pos} {elts : List Expr} {kk : Nat} (hg : Gl X "zip") (hm : X.mg "zip" = none) (ha : PA X [e, e2] ta)
    (hs : starEach [e, e2] X.env = (false, eval e X.env) :: starEach [e2] X.env := by rfl) (hpl : (backTo pos (starEach [e2] X.env)).any (·.1) = false := by rfl) :
    PI X (.Tuple elts kk tpos) (.Call (.Name "zip" p) [e, e2] [] pos) (iZip X.K ta) := by
  intro pins s σ H R I h
  refine Call_ (ld_blt I hg hm boot_zip5 (PyProof.Rows.callWith_type1 (thn (ha pos pins s σ H _ I h) fun us s1 ⟨vs, H1, I1, r1, q1⟩ => ?_) hs hpl))
  obtain ⟨a, b, xs, ys, ex, hqx, hqy, q⟩ := q1
  subst ex
  cases r1 with
  | cons r rr =>
    cases rr with
    | cons r' rr =>
      cases rr
      cases r
      cases r'
      obtain ⟨its, rv, p1, _⟩ := I1.list hqx
      obtain ⟨its2, rv2, p2, _⟩ := I1.list hqy
      have la : a < s1.heap.objs.size := p1.lt
      have lb : b < s1.heap.objs.size := p2.lt
      refine call_zip_2 p1.isList p2.isList fun h' hz hTI hTO h1 h2 hsz hk => wpAny_pyIter_zip hz ?_
      have I2 : Inv X pins σ H1 { s1 with heap := h' } := I1.kept (t' := s1.toks) hk
      refine ⟨s1.heap.objs.size + 4, [s1.heap.objs.size + 4, s1.heap.objs.size + 2, s1.heap.objs.size + 3, s1.heap.objs.size, s1.heap.objs.size + 1], _, _, H1, rfl, I2, turn_zip (PySem.W.ktu_apart s1.heap.objs.size a b la lb), ⟨hz, hTI, ⟨_, _, hTO⟩, h1, h2⟩, fun c hcm => ?_, q⟩
      have e' : c = s1.heap.objs.size + 4 ∨ c = s1.heap.objs.size + 2 ∨ c = s1.heap.objs.size + 3 ∨ c = s1.heap.objs.size ∨ c = s1.heap.objs.size + 1 := by simpa using hcm
      have hle : s1.heap.objs.size ≤ c := by
        rcases e' with z | z | z | z | z
        · rw [z]; exact Nat.le_add_right _ _
        · rw [z]; exact Nat.le_add_right _ _
        · rw [z]; exact Nat.le_add_right _ _
        · rw [z]; exact Nat.le_refl _
        · rw [z]; exact Nat.le_add_right _ _
      exact I1.fpOk hle (I1.hok.fresh hle)
end L2

section 
namespace Bits
open PySem PyProof.Rows

end Bits
end 

section 
namespace TL
open PySem PySem.Builtin PySem.Builtin.Str PySem.StrLaws

abbrev tl (x : Str) : List Nat := x.cps.toList
theorem tl_mk (l : List Nat) : tl ⟨l.toArray⟩ = l := rfl
/-! ### the list functions -/
/-- S stands at the head of l -/
def pre (S l : List Nat) : Bool := l.take S.length == S
/-- l cut at each S from the left; k signs are still to be passed over -/
def spl (S : List Nat) : Nat → List Nat → List Nat → List (List Nat)
  | _, acc, [] => [acc]
  | 0, acc, c :: r => if pre S (c :: r) = true then acc :: spl S (S.length - 1) [] r else spl S 0 (acc ++ [c]) r
  | k + 1, acc, _ :: r => spl S k acc r
/-- what stands before the first S, and behind it -/
def par (S : List Nat) : List Nat → List Nat → Option (List Nat × List Nat)
  | _, [] => none
  | acc, c :: r => if pre S (c :: r) = true then some (acc, (c :: r).drop S.length) else par S (acc ++ [c]) r

/-! ### the model's split and partition are these -/
/-! ### computing spl and par -/
/-- joined lists -/
def joinL (S : List Nat) : List (List Nat) → List Nat
  | [] => []
  | [p] => p
  | p :: q :: r => p ++ (S ++ joinL S (q :: r))
/-! ### digits -/
/-- the signs of a number -/
def numL (n : Nat) : List Nat := (Nat.toDigits 10 n).map Char.toNat
theorem digitChar_nat : ∀ d : Nat, d < 10 → (Nat.digitChar d).toNat = 48 + d := by decide
theorem numL_lt {n : Nat} (h : n < 10) : numL n = [48 + n] := by
  unfold numL
  rw [Nat.toDigits_of_lt_base h]
  show [(Nat.digitChar n).toNat] = _
  rw [digitChar_nat n h]
theorem numL_step {n : Nat} (h : 10 ≤ n) : numL n = numL (n / 10) ++ [48 + n % 10] := by
  have hm : n % 10 < 10 := Nat.mod_lt n (by decide)
  have t : Nat.toDigits 10 (n / 10) ++ Nat.toDigits 10 (n % 10) = Nat.toDigits 10 (10 * (n / 10) + n % 10) := Nat.toDigits_append_toDigits (by decide) (by omega) hm
  rw [Nat.div_add_mod] at t
  show (Nat.toDigits 10 n).map Char.toNat = _
  rw [← t, List.map_append, Nat.toDigits_of_lt_base hm]
  show (Nat.toDigits 10 (n / 10)).map Char.toNat ++ [(Nat.digitChar (n % 10)).toNat] = _
  rw [digitChar_nat _ hm] <;> rfl
theorem numL_digits (n : Nat) : NumText.AllDigits (numL n) := by
  induction n using Nat.strongRecOn with
  | _ n ih =>
    by_cases h : n < 10
    · rw [numL_lt h]
      intro c hc
      rw [List.mem_singleton.mp hc]
      omega
    · rw [numL_step (by omega)]
      intro c hc
      rcases List.mem_append.mp hc with hc | hc
      · exact ih (n / 10) (by omega) c hc
      · have hm : n % 10 < 10 := Nat.mod_lt n (by decide)
        rw [List.mem_singleton.mp hc]
        omega
theorem numL_val (n : Nat) : NumText.digitsVal (numL n) = n := PySem.W.KIN.val_back n
/-- a program's own loop over digits: total = total * 10 + (ord(sign) - ord("0")) -/
theorem fold_digits : ∀ (l : List Nat) (a : Nat), NumText.AllDigits l → l.foldl (fun (t : Int) (c : Nat) => t * 10 + ((c : Int) - 48)) (a : Int) = ((l.foldl (fun acc c => acc * 10 + (c - 48)) a : Nat) : Int)
  | [], _, _ => rfl
  | c :: r, a, h => by
    have hc := h.head
    rw [List.foldl_cons, List.foldl_cons, ← fold_digits r _ h.tail]
    have e : (a : Int) * 10 + ((c : Int) - 48) = ((a * 10 + (c - 48) : Nat) : Int) := by omega
    rw [e]
theorem fold_num (n : Nat) : (numL n).foldl (fun (t : Int) (c : Nat) => t * 10 + ((c : Int) - 48)) 0 = (n : Int) := by
  have e := fold_digits (numL n) 0 (numL_digits n)
  have v := numL_val n
  unfold NumText.digitsVal at v
  rw [v] at e
  exact e

/-! ### words: x.split() -/
def wstep (st : List (List Nat) × List Nat) (c : Nat) : List (List Nat) × List Nat :=
  if Unicode.isSpace c = true then (if st.2 = [] then st else (st.1 ++ [st.2], [])) else (st.1, st.2 ++ [c])
def wfin (st : List (List Nat) × List Nat) : List (List Nat) := if st.2 = [] then st.1 else st.1 ++ [st.2]
end TL
end 

namespace L2
open PySem PySem.Spec PyProof.Rows

/-- a new list of texts, tracked -/
def rNewStrs (ys : List Str) : Hp → VK → Prop := fun H Q => ∀ p, H p = none → Q (.ref p) (upd H p (.lst (ys.map V.str)))

section
variable {X : Cx} {pins : List (Addr × Obj)} {σ : St} {H : Hp} {s : Shared} {Q : VK}
end

section
variable {X : Cx}

/-! ### of a text alone -/
/-! ### of a text and a text -/
theorem mt1 {id : String} {g : Str → Str → V} (rule : ∀ (a b : Str) (t u : Tok) (s : Shared) (Q : Value → Shared → Prop), (∀ (v : Value) (k : Nat), RelV (g a b) v → Q v { s with toks := k }) →
    wpAny (model X.prog X.w) X.A (call (.builtin id) [.str a t, .str b u]) Q X.xe s) : MtR X id (fun x xs H Q => ∃ a b, x = .str a ∧ xs = [.str b] ∧ Q (g a b) H) := by
  intro pins s σ H x xs v us Q I rx rs h
  obtain ⟨a, b, rfl, rfl, h⟩ := h
  obtain ⟨t, rfl⟩ := rx
  cases rs with
  | cons r1 rs =>
    cases rs
    obtain ⟨u, rfl⟩ := r1
    exact rule a b t u s _ fun v k r => ⟨g a b, H, I.tok k, r, h⟩
end

section
variable {X : Cx} {o e : Expr} {to te : TE}
def tM0 (r : V → List V → Hp → VK → Prop) (to : TE) : TE := fun σ H Q => to σ H fun x H1 => (∃ a, x = .str a) ∧ r x [] H1 Q
def tM1 (r : V → List V → Hp → VK → Prop) (to te : TE) : TE := fun σ H Q => to σ H fun x H1 => (∃ a, x = .str a) ∧ te σ H1 fun y H2 => r x [y] H2 Q
end
end L2

namespace L2
open PySem PySem.Spec PyProof.Rows

section
variable {X : Cx}
end

/-! ### slices of a text -/
/-- a part, clipped, as the text's slice reckons it -/
def clipS (n d : Nat) : Option Int → Int
  | none => (d : Int)
  | some i => max 0 (min (if i < 0 then i + (n : Int) else i) (n : Int))
/-- z[lo:hi] -/
def cutS (z : Str) (lo hi : Option Int) : Str :=
  ⟨((z.cps.toList.drop (HT.sIx z.length 0 lo)).take (HT.sIx z.length z.length hi - HT.sIx z.length 0 lo)).toArray⟩
def rSlS : V → Option Int → Option Int → Hp → VK → Prop := fun x lo hi H Q => ∃ z, x = .str z ∧ z.length ≤ sizeLine ∧ Q (.str (cutS z lo hi)) H
end L2

namespace Att
open PySem PySem.W PySem.Calls PyProof.Rows

/-! ### the script -/
theorem ints_of_wellAll {P : Params} {h : Heap} : ∀ (ns : List Int) (vs : List Value), WellAll P h vs (ns.map WData.int) → IntsAre vs ns := by
  intro ns
  induction ns with
  | nil =>
    intro vs w
    rw [List.map_nil] at w
    cases w
    exact .nil
  | cons n ns ih =>
    intro vs w
    rw [List.map_cons] at w
    cases w with
    | cons a b =>
      cases a
      exact .cons _ _ (ih _ b)

theorem script_of {l : OpenLaw} {n : Nat} (hn : l.most = some n) {P : Params} {h : Heap} {args : List WData} {vals : List Value}
    (hpre : l.row.toRowW.claim.pre args = true) (hwl : WellAll P h vals args) :
    ∃ a vs ns, vals = [Value.ref a] ∧ args = [WData.list (ns.map WData.int)] ∧ h.get? a = some { cls := .type "list", data := .seq vs.toArray } ∧ IntsAre vs ns ∧ ns.length ≤ n := by
  have hsh : WShape.hasAll [] args [.list .int] = true := (pre_splitW hpre).1
  have hc : l.pre.holds [] { args := args } = true := (pre_splitW hpre).2
  obtain ⟨d, r, rfl, h1, h2⟩ := hasAllW_cons hsh
  obtain rfl := hasAllW_nil h2
  obtain ⟨xs, rfl, h3⟩ := hasW_list h1
  obtain ⟨ns, rfl⟩ := items_int h3
  have hlen : ns.length ≤ n := by
    unfold OpenLaw.pre at hc
    have h4 : (WTm.not (.lt (.lit (.int (n : Int))) (.len (.arg 0)))).holds [] { args := [.list (ns.map .int)] } = true := by
      have h4 := (holds_andW hc).1
      rw [hn] at h4
      exact h4
    have h5 := condW_of h4 (w_not (w_lt w_lit (w_len_list (w_arg rfl))))
    rw [List.length_map] at h5
    refine Nat.le_of_not_lt fun q => ?_
    have q' : (n : Int) < ((ns.length : Nat) : Int) := by omega
    first
      | (rw [decide_eq_true q'] at h5; exact absurd h5 (by decide))
      | (simp at h5; omega)
  cases hwl with
  | cons w1 w2 =>
    cases w2
    cases w1 with
    | list ho hall => exact ⟨_, _, ns, rfl, rfl, ho, ints_of_wellAll ns _ hall, hlen⟩

theorem post_true (l : OpenLaw) (args : List WData) : l.row.toRowW.claim.post args (.bool true) args = true :=
  postW_of (r := l.row.toRowW) (X := (true == true))
    (show WShape.has [] (.bool true) .bool = true by first | rfl | decide | simp [WShape.has, WShape.arms, WShape.armsAll])
    (show (WTm.eq .res (.lit (.bool true))).value [] { args := args, res := some (.bool true), after := args } = some (.bool (true == true)) from w_eq_bool (w_res rfl) w_lit) rfl

/-! ### the attachment: holds_open's last premise (the goal 'hc' behind k_head) from a wpAny of the law's body -/
/-- the same from a codeAny of the CALL (for a layer whose function contracts speak of calls) -/
theorem attach_call {l : OpenLaw} {n : Nat} {q : Program} {loose : List Str} {XP : (Str → Option Value) → Heap → Prop} {YP : World → Heap → Prop} {d : DefRec}
    (hn : l.most = some n) (hdf : d.params.defaults = [])
    (call : ∀ (w : World) (s₀ s₁ : Shared) (mg mb : Str → Option Value) (fa : Addr) (o : Obj) (pm cd doc : Value) (a : Addr) (vs : List Value) (ns : List Int),
      Ground q loose [] XP w s₀ mg mb s₁.heap → YP w s₁.heap →
      s₁.heap.get? fa = some o → o.data = .func (docDef d.name d.params d.body d.scope pm cd doc) → s₁.heap.CodeRec cd d.name → mg d.name = some (.ref fa) →
      s₁.heap.get? a = some { cls := .type "list", data := .seq vs.toArray } → IntsAre vs ns → ns.length ≤ n → s₁.gens = #[] →
      codeAny (model l.prog w) callerA (.call (.ref fa) ⟨[.ref a], []⟩) (fun r s' => r = .ok (.ret (.bool true)) ∧ OldK s₁.heap s'.heap ∧ s'.os = s₁.os ∧ AllBare s'.gens) s₁) :
    WalkO q loose XP YP l.row.toRowW d [] (fun f vs => PySem.call f vs) := by
  intro w s₀ s₁ mg mb G Y fa o pm cd doc dV kV ho hd hcd hD hmg hg args vals as hpre hlay hrd hwl hlo
  obtain rfl : dV = .none := Dflts.none hD hdf
  obtain rfl : kV = .none := Dflts.noKw hD
  obtain ⟨a, vs, ns, rfl, rfl, hobj, hints, hlen⟩ := script_of hn hpre hwl
  refine enter_call (codeAny_mono (call w s₀ s₁ mg mb fa o pm cd doc a vs ns G Y ho (fd_plain hd) hcd hmg hobj hints hlen hg) fun r s' hq => ?_)
  obtain ⟨rfl, h2, h3, h4⟩ := hq
  exact ⟨.inl ⟨.bool true, .bool true, [], rfl, fun _ => rfl, .bool true, post_true l _, fun _ => ⟨List.Pairwise.nil, fun _ hm => (nomatch hm)⟩⟩, h2, h3, h4⟩

/-! ### rules over ANY heap (no ledger) from facts about the written part K: the library's own take a ledger (News) for what they write -/
section
variable {prog : Program} {w : World} {A : Around} {E : Value → Shared → Prop} {s : Shared} {K : Frag}

/-! the whole heap as the ledger: makes every rule that writes through a ledger a rule over any heap -/
def noObjs (h : Heap) : Heap := { h with objs := #[] }
def ledger (h : Heap) (L d : Addr) : List (Addr × Obj) := (List.range h.objs.size).filterMap fun a => if a = L ∨ a = d then none else (h.get? a).map fun o => (a, o)
end
end Att

namespace L2
open PySem PySem.Spec PyProof.Rows

theorem vals_ints : ∀ {vs : List Value} {ns : List Int}, IntsAre vs ns → Vals (ns.map V.int) vs
  | _, _, .nil => .nil
  | _, _, .cons n t h => .cons ⟨t, rfl⟩ (vals_ints h)

/-- nothing is tracked but the script, known to the object (or it is an object of the module) -/
def Only (H : Hp) : Prop := ∀ b, H b = none ∨ ∃ o xs, H b = some (.frz o (.lst xs))

/-- THE HEAD: the law's promise, at the heap behind the top. F, the promise of the law's def, may use that base is part of the heap (so K.In base, base.Ns mainGlobals mg stand in Mod) -/
theorem law_call {P : Program} {w : World} {K : PySem.W.Frag} {mg mb : Str → Option Value} {CX : CXT} {k : Nat} {fa a : Addr} {fd : FuncData} {x : Str} {sp : Sp} {s₁ : Shared} {vs : List Value} {ns : List Int}
    (KX : K.In s₁.heap) (hns : s₁.heap.Ns mainGlobals mg) (hb : s₁.heap.Ns builtinsNs mb) (hbb : ∀ x : Str, x ≠ "__name__" → mb x = bootBuiltins x) (hlim : s₁.heap.NoLimit) (hg : s₁.gens = #[])
    (ha : s₁.heap.get? a = some { cls := .type "list", data := .seq vs.toArray }) (hi : IntsAre vs ns) (hl : ns.length ≤ sizeLine) (hr : Room k callerA)
    (F : ∀ base : Heap, K.In base → base.Ns mainGlobals mg → FnOk P w K mg base CX k fa fd [x] sp) (hbind : ∀ (s : Shared) (u : Value), BindsTo s fd ⟨[u], []⟩ [(x, u)])
    (hsp : ∀ H : Hp, Only H → SqL K H a (ns.map V.int) → sp [.ref a] H (fun v _ => v = .bl true) fun _ _ _ => False)
    (hCX : ∀ H e s', CX [] H s₁ (fun _ _ _ => False) e s' → False) :
    codeAny (model P w) callerA (.call (.ref fa) ⟨[.ref a], []⟩) (fun r s' => r = .ok (.ret (.bool true)) ∧ OldK s₁.heap s'.heap ∧ s'.os = s₁.os ∧ AllBare s'.gens) s₁ := by
  have rv := vals_ints hi
  have lenV := hi.length
  -- from an abstract heap in which nothing but the script may be tracked
  have core : ∀ H : Hp, Only H → SqL K H a (ns.map V.int) → HOk P w H s₁.heap → (∀ b, H b ≠ none → b = a) → (H a ≠ none → K.lookup a = none) →
      codeAny (model P w) callerA (.call (.ref fa) ⟨[.ref a], []⟩) (fun r s' => r = .ok (.ret (.bool true)) ∧ OldK s₁.heap s'.heap ∧ s'.os = s₁.os ∧ AllBare s'.gens) s₁ := by
    intro H hO hS hok hA hK
    have base_of : ∀ {b : Addr} {o : Obj}, s₁.heap.get? b = some o → H b = none → (hidT s₁.heap H).get? b = some o := fun e n => hidT_get e n
    have noA : ∀ {b : Addr} {o : Obj} {es : Array DictEntry} {ep : Nat}, s₁.heap.get? b = some o → o.data = .dict es ep → H b = none := fun {b o es ep} e d => by
      cases q : H b with
      | none => rfl
      | some u =>
        have e' : b = a := hA b (by rw [q]; simp)
        subst e'
        rw [ha] at e; cases e
        have d' : Data.seq vs.toArray _ = Data.dict es ep := d
        cases d'
    have nsK : ∀ {b : Addr} {m : Str → Option Value}, s₁.heap.Ns b m → (hidT s₁.heap H).Ns b m := fun {b m} ⟨o, es, ep, e, d, r⟩ => ⟨o, es, ep, base_of e (noA e d), d, r⟩
    have hKb : K.In (hidT s₁.heap H) := fun b o e => base_of (KX b o e) (by
      cases q : H b with
      | none => rfl
      | some u =>
        have e' : b = a := hA b (by rw [q]; simp)
        subst e'
        rw [hK (by rw [q]; simp)] at e; cases e)
    have hM : Mod K mg (hidT s₁.heap H) := ⟨hKb, nsK hns, ⟨mb, nsK hb, hbb⟩, let ⟨mc, h1, h2⟩ := hlim; ⟨mc, nsK h1, h2⟩⟩
    have e0 : Env0 P w K mg (hidT s₁.heap H) callerA [] s₁ H := ⟨rfl, hM, fun b o e => of_hidT e, Nat.le_of_eq (hidT_size _ _), trivial, fun b hb => absurd (show b ∈ ([] : List Addr) from hb) (by simp), hok, .of_eq hg⟩
    refine codeAny_mono ((F _ hKb (nsK hns)).run callerA [] s₁ H ⟨[.ref a], []⟩ [.ref a] [.ref a] _ _ hr e0 (hbind s₁ (.ref a)) (.cons rfl .nil) (hsp H hO hS)) fun r s' h => ?_
    cases r with
    | error e => exact (hCX H e s' h).elim
    | ok fl =>
      cases fl with
      | next => exact False.elim h
      | brk => exact False.elim h
      | cont => exact False.elim h
      | ret u =>
        obtain ⟨v, H', os, bare, un, hok', r', q⟩ := h
        have q' : v = .bl true := q
        subst q'
        obtain rfl : u = Value.bool true := r'
        refine ⟨rfl, OldK.of_keep fun b o e => ?_, os, bare⟩
        cases q : H b with
        | none => exact un.keep b o e q (by intro z; exact absurd (show b ∈ ([] : List Addr) from z) (by simp)) (by simp)
        | some u =>
          rcases hO b with z | ⟨ob, xs, z⟩
          · rw [q] at z; cases z
          · have z2 := un.frzs b ob _ z
            obtain ⟨e1, _⟩ := hok b _ z
            obtain ⟨e2, _⟩ := hok' b _ z2
            rw [e] at e1; cases e1
            exact e2
  cases hk : K.lookup a with
  | some o =>
    -- the script is one of the module's own objects
    have e := KX a o hk
    rw [ha] at e
    cases e
    refine core (fun _ => none) (fun _ => .inl rfl) (.inr ⟨_, vs.toArray, _, hk, rfl, rfl, rfl, by rw [List.size_toArray, lenV]; exact hl, by simpa using rv⟩) (fun b u z => by have z' : (none : Option HO) = some u := z; cases z') (fun b z => absurd rfl z) fun z => absurd rfl z
  | none =>
    refine core (fun b => if b = a then some (.frz { cls := .type "list", data := .seq vs.toArray } (.lst (ns.map V.int))) else none) (fun b => ?_) (.inl (.inr ⟨{ cls := .type "list", data := .seq vs.toArray }, if_pos rfl⟩)) (fun b u z => ?_) (fun b z => ?_) fun _ => hk
    · by_cases hb : b = a
      · exact .inr ⟨_, _, if_pos hb⟩
      · exact .inl (if_neg hb)
    · by_cases hb : b = a
      · have z' := (if_pos hb).symm.trans z
        cases z'
        subst hb
        exact ⟨ha, by rw [List.length_map]; exact hl, vs, _, rv, ha⟩
      · have z' := (if_neg hb).symm.trans z
        cases z'
    · by_cases hb : b = a
      · exact hb
      · exact absurd (if_neg hb) z
end L2

namespace L2
open PySem PySem.Spec PyProof.Rows

abbrev KOf {K : PySem.W.Frag} {h : Heap} (_ : K.In h) : PySem.W.Frag := K

/-- the goal that k_head leaves (case hc), from the law's promise. F gives the function object fd (K's own) once, then the promise over every base -/
theorem walk_of {l : PySem.W.OpenLaw} {n k : Nat} {q : Program} {loose : List Str} {XP : (Str → Option Value) → Heap → Prop} {YP : World → Heap → Prop} {d : DefRec} {K : Params → PySem.W.Frag} {CX : World → CXT} {sp : World → Sp} {x : Str}
    (hn : l.most = some n) (hn2 : n ≤ sizeLine) (hdf : d.params.defaults = []) (hr : Room k callerA)
    (hY : ∀ (w : World) (h : Heap), YP w h → (K w.params).In h)
    (F : ∀ (w : World) (mg : Str → Option Value) (fa : Addr) (h : Heap), (K w.params).In h → h.Ns mainGlobals mg → mg d.name = some (.ref fa) →
      ∃ fd : FuncData, (∀ (s : Shared) (u : Value), BindsTo s fd ⟨[u], []⟩ [(x, u)]) ∧
        ∀ base : Heap, (K w.params).In base → base.Ns mainGlobals mg → FnOk l.prog w (K w.params) mg base (CX w) k fa fd [x] (sp w))
    (hsp : ∀ (w : World) (H : Hp) (a : Addr) (ns : List Int), ns.length ≤ n → Only H → SqL (K w.params) H a (ns.map V.int) → sp w [.ref a] H (fun v _ => v = .bl true) fun _ _ _ => False)
    (hCX : ∀ (w : World) (H : Hp) (s : Shared) (e : Value) (s' : Shared), CX w [] H s (fun _ _ _ => False) e s' → False) :
    PySem.W.WalkO q loose XP YP l.row.toRowW d [] (fun f vs => PySem.call f vs) := by
  refine Att.attach_call hn hdf fun w s₀ s₁ mg mb fa o pm cd doc a vs ns G Y ho hd hcd hmg hobj hints hlen hg => ?_
  have KX := hY w _ Y
  obtain ⟨fd, hb, hF⟩ := F w mg fa _ KX G.T.g hmg
  exact law_call KX G.T.g G.T.b G.T.builtins G.T.nolimit hg hobj hints (Nat.le_trans hlen hn2) hr hF hb (fun H hO hS => hsp w H a ns hlen hO hS) fun H e s' => hCX w H s₁ e s'
end L2

/- THE LAST THEOREM (shape; LID, My.* are yours):
   My.Adr: a structure of the addresses that your layer names (classes, functions); My.Txt K t: a structure (Prop) of the equations over K;
   My.txt_mk : {K} {implicit addresses ..} (e1 : nsIn K mainGlobals "law" = some (some (.ref f))) (e2 : K.lookup f = some ⟨oc, od, .func (fnOf "law" "law" params body scope dV kV doc pm an cdv ct), sl⟩) (e3 : codeIn K cdv "law" = true) .. : ∃ t, My.Txt K t

set_option maxRecDepth 100000 in
set_option maxHeartbeats 0 in
theorem PySem.Challenge.cw_LID_holds : PySem.Challenge.rw_LID.Holds := by
  w_on; o_law; k_head; (case hw => w_witness2)
  k_fill
  refine L2.walk_of (l := PySem.Challenge.rw_LID) (n := 63) (k := 40) (x := "script") (CX := fun w => ..) (sp := fun _ => My.sp_law) rfl (by decide) rfl ⟨rfl, by decide, by decide⟩ (fun w h Y => PySem.W.kIn_of Y) ?F ?S ?C
  case F =>
    intro w mg fa h KX G hmg
    have T : ∃ t, My.Txt (L2.KOf KX) t := by
      dsimp only [L2.KOf]                          -- K must stand as «<heap const> w.params» for k_is
      refine' My.txt_mk ?e1 ?e2 ?e3 ..
      (case e1 => PySem.W.k_is)                    -- in the order: a name -> its address -> its object -> its parts
      (case e2 => PySem.W.k_is)
      ..
    obtain ⟨t, T⟩ := T
    have e0 := hmg.symm.trans (PySem.W.mg_of KX G T.law)
    cases e0                                       -- fa is the law's own address
    exact ⟨_, fun s u => .of_eq rfl, fun base kb nb => My.law_fn T kb nb⟩     -- if «.of_eq rfl» comes too early: refine' ⟨_, ?b, fun base kb nb => My.law_fn T kb nb⟩; exact fun s u => .of_eq rfl
  case S => exact fun w H a ns hl hO hS => ..
  case C => exact ..
(the tactic k_is has no namespace: write k_is) -/

/-! SHORT WORDS over the layer: a def of the text, its body, what a loop and a test want. -/
namespace L2
open PySem PySem.Spec PyProof.Rows

/-! ### the text by places -/
/-- the j-th statement of a class's body -/
def inClass (s : Stmt) (j : Nat) : Stmt := match s with
  | .ClassDef _ _ _ body _ _ _ _ _ _ _ => body.getD j (.Pass ⟨0, 0, 0, 0⟩)
  | _ => .Pass ⟨0, 0, 0, 0⟩
def defArgs (s : Stmt) : Arguments := match s with
  | .FunctionDef _ a _ _ _ _ _ _ _ _ => a
  | _ => { posonlyargs := [], args := [], vararg := none, kwonlyargs := [], kw_defaults := [], kwarg := none, defaults := [] }
def defBody (s : Stmt) : List Stmt := match s with
  | .FunctionDef _ _ b _ _ _ _ _ _ _ => b
  | _ => []
def defScope (s : Stmt) : Scope := match s with
  | .FunctionDef _ _ _ _ _ _ sc _ _ _ => sc
  | _ => { kind := .function, names := [], isGenerator := false, isCoroutine := false }

/-! ### no exception leaves a def -/
abbrev CX0 : CXT := fun _ _ _ _ _ _ => False
abbrev E0 : XK := fun _ _ _ => False
theorem pass0 {X : Cx} : Passes CX0 X E0 := fun _ _ _ _ _ _ _ h => h.elim

/-! ### a def (or method) of the text as it stands behind the top -/
structure Fun (K : PySem.W.Frag) (x qual : Str) (st : Stmt) (f : Addr) (fd : FuncData) : Prop where
  ex : ∃ (oc : Value) (od : Option Addr) (kV doc pm : Value) (an : Option Addr) (cdv ct : Value) (osl : Array (Option Value)),
    fd = PySem.W.fnOf x qual (defArgs st) (defBody st) (defScope st) .none kV doc pm an cdv ct ∧ K.lookup f = some ⟨oc, od, .func fd, osl⟩ ∧ PySem.W.codeIn K cdv qual = true
  kp : PySem.W.keepIn K (.ref f) = true
section
variable {P : Program} {w : World} {K : PySem.W.Frag} {mg : Str → Option Value} {base : Heap}
/-- THE RULE for a def: its body as a term of rules, and the reading of that term -/
theorem Fun.ok {x qual : Str} {st : Stmt} {f : Addr} {fd : FuncData} {N ps : List Str} {k : Nat} {sp : Sp} (F : Fun K x qual st f fd) (S : FnScope N ps (defScope st)) (len : ∀ vs H Q E, sp vs H Q E → vs.length = ps.length)
    (hbody : ∀ (cdv : Value) (A : Around) (outer : List Env) (s : Shared) (H : Hp) (vs : List V) (Q : VK) (E : XK), Room k (A.deeper (envOfC qual (defScope st) s.heap.objs.size f cdv)) → sp vs H Q E →
      ∃ t, PSs (cxOf CX0 P w K mg base N qual (defScope st) f cdv A outer s H E).nox (defBody st) t ∧ t { nx := fun _ H' => Q .non H', rt := Q } (start N vs) H) : FnOk P w K mg base CX0 (k + 1) f fd ps sp := by
  obtain ⟨oc, od, kV, doc, pm, an, cdv, ct, osl, rfl, lk, hcd⟩ := F.ex
  refine fn_of lk hcd S len fun A outer s H vs Q E hr hsp => ?_
  obtain ⟨t, h, q⟩ := hbody cdv A outer s H vs Q E hr hsp
  exact ⟨t, h.nox, q⟩
/-- how its arguments bind (no defaults): h is «fun _ _ _ _ _ _ us hl => match us, hl with | [_, _], _ => rfl», one _ a parameter -/
theorem Fun.binds {x qual : Str} {st : Stmt} {f : Addr} {fd : FuncData} {ps : List Str} (F : Fun K x qual st f fd)
    (h : ∀ (kV doc pm : Value) (an : Option Addr) (cdv ct : Value) (us : List Value), us.length = ps.length → bindArgs (PySem.W.fnOf x qual (defArgs st) (defBody st) (defScope st) .none kV doc pm an cdv ct) ⟨us, []⟩ = pure (ps.zip us)) : Binds K fd ps [] := by
  obtain ⟨oc, od, kV, doc, pm, an, cdv, ct, osl, rfl, lk, hcd⟩ := F.ex
  exact .all (h kV doc pm an cdv ct)
theorem fun_mk {x qual : Str} {st : Stmt} {f : Addr} {oc : Value} {od an : Option Addr} {osl : Array (Option Value)} {kV doc pm cdv ct : Value} (l : K.lookup f = some ⟨oc, od, .func (PySem.W.fnOf x qual (defArgs st) (defBody st) (defScope st) .none kV doc pm an cdv ct), osl⟩)
    (c : PySem.W.codeIn K cdv qual = true) (k : PySem.W.keepIn K (.ref f) = true) : Fun K x qual st f (PySem.W.fnOf x qual (defArgs st) (defBody st) (defScope st) .none kV doc pm an cdv ct) := ⟨⟨oc, od, kV, doc, pm, an, cdv, ct, osl, rfl, l, c⟩, k⟩
end
/-! ### expressions in short: the name that stands in the i-th slot -/
section
variable {X : Cx}
theorem pv (i : Nat) {x : Str} {pos : Pos} (hN : X.N[i]? = some x := by rfl) (hv : Vis X.env.scope x := by first | exact Or.inl rfl | exact Or.inr (Or.inl rfl) | exact Or.inr (Or.inr rfl)) (hd : (x == ("__debug__" : Str)) = false := by decide)
    (hcd : (x == ("__classdict__" : Str)) = false := by decide) : PE X (.Name x pos) (tVar i) := pe_var hN hv hd hcd
end

/-! ### tests -/
theorem iteF {A B : Prop} (h : B) : if false = true then A else B := by
  rw [if_neg Bool.false_ne_true]
  exact h
theorem iteT {A B : Prop} (h : A) : if true = true then A else B := by
  rw [if_pos rfl]
  exact h
/-! ### heaps -/
/-- all that was tracked is as it was -/
def Same (H H' : Hp) : Prop := ∀ b o, H b = some o → H' b = some o
theorem Same.refl (H : Hp) : Same H H := fun _ _ h => h
theorem Same.trans {H H1 H2 : Hp} (a : Same H H1) (b : Same H1 H2) : Same H H2 := fun c o h => b c o (a c o h)
theorem Same.free {H H' : Hp} (e : Same H H') {l : Addr} (h : H' l = Option.none) : H l = Option.none := by
  cases q : H l with
  | none => rfl
  | some o =>
    rw [e l o q] at h
    cases h
theorem Same.seq {K : PySem.W.Frag} {H H' : Hp} {a : Addr} {xs : List V} (e : Same H H') (h : SqL K H a xs) : SqL K H' a xs := by
  rcases h with (h | ⟨o, h⟩) | h
  · exact .inl (.inl (e _ _ h))
  · exact .inl (.inr ⟨o, e _ _ h⟩)
  · exact .inr h

/-! ### a dict's pairs: keys that differ -/
section
variable {κ : Type} [DecidableEq κ]
end
/-! ### lists -/
/-- a new instance and its __init__ leave all that was tracked as it was -/
theorem Same.made {H H1 : Hp} {x dx C : Addr} (nx : H x = Option.none) (nd : H dx = Option.none) (k : ∀ b o, (upd (upd H dx (.own x)) x (.ins C dx [])) b = some o → b ≠ x → H1 b = some o) : Same H H1 := fun b o e =>
  k b o (by rw [upd_ne (ne_of_none e nx), upd_ne (ne_of_none e nd)]; exact e) (ne_of_none e nx)
end L2

/-! MIRRORS: an expression, a statement read as a plain function over data -/
namespace MD
open PySem PySem.Spec L2

abbrev Msk := Addr → Bool
def hid (W : Msk) (H : Hp) : Hp := fun a => if W a = true then none else H a
def jn (Z O : Msk) : Msk := fun a => Z a || O a
def adm (p : Addr) (W : Msk) : Msk := fun a => W a || decide (a = p)
def noM : Msk := fun _ => false

theorem hid_eq {W : Msk} {H : Hp} {a : Addr} {o : HO} : hid W H a = some o ↔ W a = false ∧ H a = some o := by
  unfold hid
  cases h : W a <;> simp
theorem hid_same {W : Msk} {H H' : Hp} (e : Same H H') : Same (hid W H) (hid W H') := fun b o h => by
  rw [hid_eq] at h ⊢
  exact ⟨h.1, e b o h.2⟩
theorem hid_sub {W : Msk} {H : Hp} : Same (hid W H) H := fun b o h => (hid_eq.mp h).2
theorem hid_mono {W W' : Msk} {H : Hp} (h : ∀ a, W a = true → W' a = true) : Same (hid W' H) (hid W H) := fun b o q => by
  rw [hid_eq] at q ⊢
  refine ⟨?_, q.2⟩
  cases e : W b with
  | false => rfl
  | true => rw [h b e] at q; cases q.1
theorem hid_none {H : Hp} : Same H (hid noM H) := fun b o h => hid_eq.mpr ⟨rfl, h⟩

theorem same_tup {K : PySem.W.Frag} {H H' : Hp} {a : Addr} {xs : List V} (e : Same H H') (h : SqT K H a xs) : SqT K H' a xs := by
  rcases h with (h | ⟨o, h⟩) | h
  · exact .inl (.inl (e _ _ h))
  · exact .inl (.inr ⟨o, e _ _ h⟩)
  · exact .inr h

/-! ### data: what a value is worth, objects of own classes too -/
inductive D where
  | none
  | bool (b : Bool)
  | int (i : Int)
  | str (x : Str)
  | list (l : List D)
  | tuple (l : List D)
  | obj (C : Addr) (ns : List Str) (l : List D)
mutual
inductive Dp (K : PySem.W.Frag) (H : Hp) : V → D → Prop
  | non : Dp K H .non .none
  | bl (b : Bool) : Dp K H (.bl b) (.bool b)
  | int (i : Int) : Dp K H (.int i) (.int i)
  | str (x : Str) : Dp K H (.str x) (.str x)
  | lst {a : Addr} {xs : List V} {ds : List D} : SqL K H a xs → DpAll K H xs ds → Dp K H (.ref a) (.list ds)
  | tup {a : Addr} {xs : List V} {ds : List D} : SqT K H a xs → DpAll K H xs ds → Dp K H (.ref a) (.tuple ds)
  | obj {a C dx : Addr} {fs : List (Str × V)} {ds : List D} : H a = some (.ins C dx fs) → DpAll K H (fs.map (·.2)) ds → Dp K H (.ref a) (.obj C (fs.map (·.1)) ds)
inductive DpAll (K : PySem.W.Frag) (H : Hp) : List V → List D → Prop
  | nil : DpAll K H [] []
  | cons {v : V} {vs : List V} {d : D} {ds : List D} : Dp K H v d → DpAll K H vs ds → DpAll K H (v :: vs) (d :: ds)
end
mutual
/-- as plain data -/
def D.pd : D → PySem.PyData
  | .none => .none
  | .bool b => .bool b
  | .int i => .int i
  | .str x => .str x
  | .list l => .list (D.pds l)
  | .tuple l => .tuple (D.pds l)
  | .obj _ _ _ => .none
def D.pds : List D → List PySem.PyData
  | [] => []
  | d :: ds => d.pd :: D.pds ds
end
mutual
/-- without objects -/
def D.pure : D → Bool
  | .list l => D.pures l
  | .tuple l => D.pures l
  | .obj _ _ _ => false
  | _ => true
def D.pures : List D → Bool
  | [] => true
  | d :: ds => d.pure && D.pures ds
end
mutual
theorem dp_pd {K : PySem.W.Frag} {H : Hp} : ∀ (d : D) (v : V), d.pure = true → Dp K H v d → L2.Dp K H v d.pd
  | .none, _, _, h => by cases h; rw [D.pd]; exact .non
  | .bool b, _, _, h => by cases h; rw [D.pd]; exact .bl b
  | .int i, _, _, h => by cases h; rw [D.pd]; exact .int i
  | .str x, _, _, h => by cases h; rw [D.pd]; exact .str x
  | .list ds, _, p, h => by
    cases h with
    | lst hs ha => rw [D.pd]; exact .lst hs (dpa_pd ds _ (by simpa [D.pure] using p) ha)
  | .tuple ds, _, p, h => by
    cases h with
    | tup hs ha => rw [D.pd]; exact .tup hs (dpa_pd ds _ (by simpa [D.pure] using p) ha)
  | .obj _ _ _, _, p, _ => by simp [D.pure] at p
theorem dpa_pd {K : PySem.W.Frag} {H : Hp} : ∀ (ds : List D) (vs : List V), D.pures ds = true → DpAll K H vs ds → L2.DpAll K H vs (D.pds ds)
  | [], _, _, h => by cases h; rw [D.pds]; exact .nil
  | d :: ds, _, p, h => by
    simp only [D.pures, Bool.and_eq_true] at p
    cases h with
    | cons h1 h2 => rw [D.pds]; exact .cons (dp_pd d _ p.1 h1) (dpa_pd ds _ p.2 h2)
end
def okD (d : D) : Bool := d.pure && SeqAt.shaped d.pd
def deq (d e : D) : Bool := PySem.PyData.eqv d.pd e.pd
section
variable {K : PySem.W.Frag} {H H' : Hp}
mutual
theorem dp_mono (e : Same H H') : ∀ (d : D) (v : V), Dp K H v d → Dp K H' v d
  | .none, _, h => by cases h; exact .non
  | .bool b, _, h => by cases h; exact .bl b
  | .int i, _, h => by cases h; exact .int i
  | .str x, _, h => by cases h; exact .str x
  | .list ds, _, h => by
    cases h with
    | lst hs ha => exact .lst (e.seq hs) (dpa_mono e ds _ ha)
  | .tuple ds, _, h => by
    cases h with
    | tup hs ha => exact .tup (same_tup e hs) (dpa_mono e ds _ ha)
  | .obj C ns ds, _, h => by
    cases h with
    | obj hs ha => exact .obj (e _ _ hs) (dpa_mono e ds _ ha)
theorem dpa_mono (e : Same H H') : ∀ (ds : List D) (vs : List V), DpAll K H vs ds → DpAll K H' vs ds
  | [], _, h => by cases h; exact .nil
  | d :: ds, _, h => by
    cases h with
    | cons h1 h2 => exact .cons (dp_mono e d _ h1) (dpa_mono e ds _ h2)
end
theorem Dpm {d : D} {v : V} (h : Dp K H v d) (e : Same H H') : Dp K H' v d := dp_mono e d v h
theorem Dpam {ds : List D} {vs : List V} (h : DpAll K H vs ds) (e : Same H H') : DpAll K H' vs ds := dpa_mono e ds vs h
end

/-! ### data without lists -/
mutual
def flat : D → Bool
  | .list _ => false
  | .obj _ _ ds => flats ds
  | .tuple ds => flats ds
  | _ => true
def flats : List D → Bool
  | [] => true
  | d :: ds => flat d && flats ds
end
/-- the hidden addresses hold lists -/
def Dom (W : Msk) (H : Hp) : Prop := ∀ a, W a = true → ∃ xs, H a = some (.lst xs)
theorem Dom.grow {W : Msk} {H H' : Hp} (h : Dom W H) (e : Same H H') : Dom W H' := fun a q => let ⟨xs, z⟩ := h a q; ⟨xs, e a _ z⟩
theorem Dom.free {W : Msk} {H : Hp} (h : Dom W H) {p : Addr} (z : H p = none) : W p = false := by
  cases e : W p with
  | false => rfl
  | true => obtain ⟨xs, q⟩ := h p e; rw [z] at q; cases q
section
variable {K : PySem.W.Frag} {H : Hp} {W : Msk}
theorem tup_hid (hW : Dom W H) {a : Addr} {xs : List V} (h : SqT K H a xs) : SqT K (hid W H) a xs := by
  have nw : ∀ {o : HO}, H a = some o → (∀ ys, o ≠ .lst ys) → hid W H a = some o := fun {o} e n => by
    refine hid_eq.mpr ⟨?_, e⟩
    cases q : W a with
    | false => rfl
    | true => obtain ⟨ys, z⟩ := hW a q; rw [e] at z; exact absurd (Option.some.inj z) (n ys)
  rcases h with (h | ⟨o, h⟩) | h
  · exact .inl (.inl (nw h (fun ys z => by cases z)))
  · exact .inl (.inr ⟨o, nw h (fun ys z => by cases z)⟩)
  · exact .inr h
mutual
theorem dp_flat (hW : Dom W H) : ∀ (d : D) (v : V), flat d = true → Dp K H v d → Dp K (hid W H) v d
  | .none, _, _, h => by cases h; exact .non
  | .bool b, _, _, h => by cases h; exact .bl b
  | .int i, _, _, h => by cases h; exact .int i
  | .str x, _, _, h => by cases h; exact .str x
  | .list ds, _, f, h => by simp [flat] at f
  | .tuple ds, _, f, h => by
    cases h with
    | tup hs ha => exact .tup (tup_hid hW hs) (dpa_flat hW ds _ (by simpa [flat] using f) ha)
  | .obj C ns ds, _, f, h => by
    cases h with
    | obj hs ha =>
      refine .obj (hid_eq.mpr ⟨?_, hs⟩) (dpa_flat hW ds _ (by simpa [flat] using f) ha)
      cases q : W _ with
      | false => rfl
      | true =>
        obtain ⟨ys, z⟩ := hW _ q
        rw [hs] at z
        cases z
theorem dpa_flat (hW : Dom W H) : ∀ (ds : List D) (vs : List V), flats ds = true → DpAll K H vs ds → DpAll K (hid W H) vs ds
  | [], _, _, h => by cases h; exact .nil
  | d :: ds, _, f, h => by
    simp [flats] at f
    cases h with
    | cons h1 h2 => exact .cons (dp_flat hW d _ f.1 h1) (dpa_flat hW ds _ f.2 h2)
end
end

/-! ### lists of data -/
section
variable {K : PySem.W.Frag} {H : Hp}
theorem DpAll_len : ∀ {vs : List V} {ds : List D}, DpAll K H vs ds → vs.length = ds.length
  | _, _, .nil => rfl
  | _, _, .cons _ t => by simp [DpAll_len t]
theorem DpAll_get : ∀ {vs : List V} {ds : List D} {i : Nat} {d : D}, DpAll K H vs ds → ds[i]? = some d → ∃ v, vs[i]? = some v ∧ Dp K H v d
  | _, _, _, _, .nil, h => by simp at h
  | _, _, 0, _, .cons h _, e => by simp at e; subst e; exact ⟨_, rfl, h⟩
  | _, _, i + 1, d, .cons _ t, e => by
    obtain ⟨v, h1, h2⟩ := DpAll_get (i := i) (d := d) t (by simpa using e)
    exact ⟨v, by simpa using h1, h2⟩
theorem DpAll_app : ∀ {vs ws : List V} {ds es : List D}, DpAll K H vs ds → DpAll K H ws es → DpAll K H (vs ++ ws) (ds ++ es)
  | _, _, _, _, .nil, s => s
  | _, _, _, _, .cons r t, s => .cons r (DpAll_app t s)
theorem DpAll_take : ∀ {vs : List V} {ds : List D} (n : Nat), DpAll K H vs ds → DpAll K H (vs.take n) (ds.take n)
  | _, _, 0, _ => .nil
  | _, _, _ + 1, .nil => .nil
  | _, _, n + 1, .cons r t => .cons r (DpAll_take n t)
theorem DpAll_drop : ∀ {vs : List V} {ds : List D} (n : Nat), DpAll K H vs ds → DpAll K H (vs.drop n) (ds.drop n)
  | _, _, 0, r => r
  | _, _, _ + 1, .nil => .nil
  | _, _, n + 1, .cons _ t => DpAll_drop n t
theorem DpAll_ints : ∀ {vs : List V} {ns : List Int}, DpAll K H vs (ns.map .int) → vs = ns.map V.int
  | _, [], h => by cases h; rfl
  | _, n :: ns, h => by
    have h : DpAll K H _ (D.int n :: ns.map .int) := h
    cases h with
    | cons h1 h2 => cases h1; rw [DpAll_ints h2]; rfl
theorem DpAll_bls : ∀ {vs : List V} {ns : List Bool}, DpAll K H vs (ns.map .bool) → vs = ns.map V.bl
  | _, [], h => by cases h; rfl
  | _, n :: ns, h => by
    have h : DpAll K H _ (D.bool n :: ns.map .bool) := h
    cases h with
    | cons h1 h2 => cases h1; rw [DpAll_bls h2]; rfl
theorem DpAll_ofInts : ∀ (ns : List Int), DpAll K H (ns.map V.int) (ns.map .int)
  | [] => .nil
  | n :: ns => .cons (.int n) (DpAll_ofInts ns)
theorem Dp_list {v : V} {ds : List D} (h : Dp K H v (.list ds)) : ∃ a xs, v = .ref a ∧ SqL K H a xs ∧ DpAll K H xs ds := by
  cases h with
  | lst h1 h2 => exact ⟨_, _, rfl, h1, h2⟩
theorem Dp_tup {v : V} {ds : List D} (h : Dp K H v (.tuple ds)) : ∃ a xs, v = .ref a ∧ SqT K H a xs ∧ DpAll K H xs ds := by
  cases h with
  | tup h1 h2 => exact ⟨_, _, rfl, h1, h2⟩
theorem Dp_int {v : V} {i : Int} (h : Dp K H v (.int i)) : v = .int i := by cases h; rfl
theorem Dp_bool {v : V} {i : Bool} (h : Dp K H v (.bool i)) : v = .bl i := by cases h; rfl
end

/-! ### data that a def has for itself: which lists of it are its own -/
inductive Tr where
  | leaf (d : D)
  | lst (l : List Tr)
  | tup (l : List Tr)
  | obj (C : Addr) (ns : List Str) (l : List Tr)
mutual
def Tr.d : Tr → D
  | .leaf d => d
  | .lst l => .list (Tr.ds l)
  | .tup l => .tuple (Tr.ds l)
  | .obj C ns l => .obj C ns (Tr.ds l)
def Tr.ds : List Tr → List D
  | [] => []
  | t :: ts => t.d :: Tr.ds ts
end
/-- a list of one's own, of any data -/
def Tr.fl (l : List D) : Tr := .lst (l.map .leaf)
theorem Tr.ds_fl : ∀ l : List D, Tr.ds (l.map .leaf) = l
  | [] => by simp [Tr.ds]
  | d :: l => by simp [Tr.ds, Tr.d, Tr.ds_fl l]
theorem Tr.fl_d (l : List D) : (Tr.fl l).d = .list l := by unfold Tr.fl; rw [Tr.d, Tr.ds_fl]
mutual
/-- v bears the tree; as: the addresses of its own lists; M: what its leaves don't reach -/
inductive Lk (K : PySem.W.Frag) (H : Hp) (M : Msk) : V → List Addr → Tr → Prop
  | leaf {v : V} {d : D} : Dp K (hid M H) v d → Lk K H M v [] (.leaf d)
  | lst {a : Addr} {vs : List V} {as : List Addr} {l : List Tr} : H a = some (.lst vs) → Lks K H M vs as l → Lk K H M (.ref a) (a :: as) (.lst l)
  | tup {a : Addr} {vs : List V} {as : List Addr} {l : List Tr} : H a = some (.tup vs) → Lks K H M vs as l → Lk K H M (.ref a) as (.tup l)
  | obj {a C dx : Addr} {fs : List (Str × V)} {as : List Addr} {l : List Tr} : H a = some (.ins C dx fs) → Lks K H M (fs.map (·.2)) as l → Lk K H M (.ref a) as (.obj C (fs.map (·.1)) l)
inductive Lks (K : PySem.W.Frag) (H : Hp) (M : Msk) : List V → List Addr → List Tr → Prop
  | nil : Lks K H M [] [] []
  | cons {v : V} {vs : List V} {as bs : List Addr} {t : Tr} {ts : List Tr} : Lk K H M v as t → Lks K H M vs bs ts → Lks K H M (v :: vs) (as ++ bs) (t :: ts)
end
section
variable {K : PySem.W.Frag} {H H' : Hp} {M M' : Msk}
mutual
theorem lk_mono (e : Same H H') (e2 : Same (hid M H) (hid M' H')) : ∀ (T : Tr) (v : V) (as : List Addr), Lk K H M v as T → Lk K H' M' v as T
  | .leaf d, _, _, h => by cases h with | leaf h => exact .leaf (Dpm h e2)
  | .lst l, _, _, h => by cases h with | lst h1 h2 => exact .lst (e _ _ h1) (lks_mono e e2 l _ _ h2)
  | .tup l, _, _, h => by cases h with | tup h1 h2 => exact .tup (e _ _ h1) (lks_mono e e2 l _ _ h2)
  | .obj C ns l, _, _, h => by cases h with | obj h1 h2 => exact .obj (e _ _ h1) (lks_mono e e2 l _ _ h2)
theorem lks_mono (e : Same H H') (e2 : Same (hid M H) (hid M' H')) : ∀ (l : List Tr) (vs : List V) (as : List Addr), Lks K H M vs as l → Lks K H' M' vs as l
  | [], _, _, h => by cases h; exact .nil
  | t :: ts, _, _, h => by cases h with | cons h1 h2 => exact .cons (lk_mono e e2 t _ _ h1) (lks_mono e e2 ts _ _ h2)
end
theorem lk_obj {v : V} {as : List Addr} {C : Addr} {ns : List Str} {l : List Tr} (h : Lk K H M v as (.obj C ns l)) : ∃ a dx fs, v = .ref a ∧ H a = some (.ins C dx fs) ∧ fs.map (·.1) = ns ∧ Lks K H M (fs.map (·.2)) as l := by
  cases h with | obj h1 h2 => exact ⟨_, _, _, rfl, h1, rfl, h2⟩
mutual
theorem lk_det : ∀ (T : Tr) (v : V) (as bs : List Addr), Lk K H M v as T → Lk K H M' v bs T → as = bs
  | .leaf d, _, _, _, h, g => by cases h; cases g; rfl
  | .lst l, _, _, _, h, g => by
    cases h with
    | lst h1 h2 =>
      cases g with
      | lst g1 g2 => rw [h1] at g1; cases g1; rw [lks_det l _ _ _ h2 g2]
  | .tup l, _, _, _, h, g => by
    cases h with
    | tup h1 h2 =>
      cases g with
      | tup g1 g2 => rw [h1] at g1; cases g1; rw [lks_det l _ _ _ h2 g2]
  | .obj C ns l, _, _, _, h, g => by
    obtain ⟨a, dx, fs, e1, h1, e2, h2⟩ := lk_obj h
    obtain ⟨a', dx', fs', e1', g1, e2', g2⟩ := lk_obj g
    subst e1
    cases e1'
    rw [h1] at g1
    cases g1
    exact lks_det l _ _ _ h2 g2
theorem lks_det : ∀ (l : List Tr) (vs : List V) (as bs : List Addr), Lks K H M vs as l → Lks K H M' vs bs l → as = bs
  | [], _, _, _, h, g => by cases h; cases g; rfl
  | t :: ts, _, _, _, h, g => by
    cases h with
    | cons h1 h2 =>
      cases g with
      | cons g1 g2 => rw [lk_det t _ _ _ h1 g1, lks_det ts _ _ _ h2 g2]
end
mutual
theorem lk_det2 {K' : PySem.W.Frag} : ∀ (T : Tr) (v : V) (as bs : List Addr), Lk K' H M v as T → Lk K H M' v bs T → as = bs
  | .leaf d, _, _, _, h, g => by cases h; cases g; rfl
  | .lst l, _, _, _, h, g => by
    cases h with
    | lst h1 h2 =>
      cases g with
      | lst g1 g2 => rw [h1] at g1; cases g1; rw [lks_det2 l _ _ _ h2 g2]
  | .tup l, _, _, _, h, g => by
    cases h with
    | tup h1 h2 =>
      cases g with
      | tup g1 g2 => rw [h1] at g1; cases g1; rw [lks_det2 l _ _ _ h2 g2]
  | .obj C ns l, _, _, _, h, g => by
    obtain ⟨a, dx, fs, e1, h1, e2, h2⟩ := lk_obj h
    obtain ⟨a', dx', fs', e1', g1, e2', g2⟩ := lk_obj g
    subst e1
    cases e1'
    rw [h1] at g1
    cases g1
    exact lks_det2 l _ _ _ h2 g2
theorem lks_det2 {K' : PySem.W.Frag} : ∀ (l : List Tr) (vs : List V) (as bs : List Addr), Lks K' H M vs as l → Lks K H M' vs bs l → as = bs
  | [], _, _, _, h, g => by cases h; cases g; rfl
  | t :: ts, _, _, _, h, g => by
    cases h with
    | cons h1 h2 =>
      cases g with
      | cons g1 g2 => rw [lk_det2 t _ _ _ h1 g1, lks_det2 ts _ _ _ h2 g2]
end
mutual
theorem lk_dp {N : Msk} (hN : Dom N H) (hM : ∀ a, N a = true → M a = true) : ∀ (T : Tr) (v : V) (as : List Addr), (∀ a ∈ as, N a = false) → Lk K H M v as T → Dp K (hid N H) v T.d
  | .leaf d, _, _, _, h => by cases h with | leaf h => rw [Tr.d]; exact Dpm h (hid_mono hM)
  | .lst l, _, _, n, h => by
    cases h with
    | lst h1 h2 =>
      rw [Tr.d]
      exact .lst (.inl (.inl (hid_eq.mpr ⟨n _ List.mem_cons_self, h1⟩))) (lks_dp hN hM l _ _ (fun a ha => n a (List.mem_cons_of_mem _ ha)) h2)
  | .tup l, _, _, n, h => by
    cases h with
    | tup h1 h2 =>
      rw [Tr.d]
      exact .tup (tup_hid hN (.inl (.inl h1))) (lks_dp hN hM l _ _ n h2)
  | .obj C ns l, _, _, n, h => by
    obtain ⟨a, dx, fs, e1, h1, e2, h2⟩ := lk_obj h
    subst e1 e2
    rw [Tr.d]
    refine .obj (dx := dx) (hid_eq.mpr ⟨?_, h1⟩) (lks_dp hN hM l _ _ n h2)
    cases q : N a with
    | false => rfl
    | true =>
      obtain ⟨ys, z⟩ := hN _ q
      rw [h1] at z
      cases z
theorem lks_dp {N : Msk} (hN : Dom N H) (hM : ∀ a, N a = true → M a = true) : ∀ (l : List Tr) (vs : List V) (as : List Addr), (∀ a ∈ as, N a = false) → Lks K H M vs as l → DpAll K (hid N H) vs (Tr.ds l)
  | [], _, _, _, h => by cases h; rw [Tr.ds]; exact .nil
  | t :: ts, _, _, n, h => by
    cases h with
    | cons h1 h2 =>
      rw [Tr.ds]
      exact .cons (lk_dp hN hM t _ _ (fun a ha => n a (List.mem_append_left _ ha)) h1) (lks_dp hN hM ts _ _ (fun a ha => n a (List.mem_append_right _ ha)) h2)
end
mutual
theorem lk_lst : ∀ (T : Tr) (v : V) (as : List Addr), Lk K H M v as T → ∀ a ∈ as, ∃ xs, H a = some (.lst xs)
  | .leaf d, _, _, h => by cases h; intro a ha; cases ha
  | .lst l, _, _, h => by
    cases h with
    | lst h1 h2 =>
      intro a ha
      rcases List.mem_cons.mp ha with e | e
      · subst e; exact ⟨_, h1⟩
      · exact lks_lst l _ _ h2 a e
  | .tup l, _, _, h => by cases h with | tup h1 h2 => exact lks_lst l _ _ h2
  | .obj C ns l, _, _, h => by cases h with | obj h1 h2 => exact lks_lst l _ _ h2
theorem lks_lst : ∀ (l : List Tr) (vs : List V) (as : List Addr), Lks K H M vs as l → ∀ a ∈ as, ∃ xs, H a = some (.lst xs)
  | [], _, _, h => by cases h; intro a ha; cases ha
  | t :: ts, _, _, h => by
    cases h with
    | cons h1 h2 =>
      intro a ha
      rcases List.mem_append.mp ha with e | e
      · exact lk_lst t _ _ h1 a e
      · exact lks_lst ts _ _ h2 a e
end
theorem lks_fl : ∀ {vs : List V} {l : List D}, DpAll K (hid M H) vs l → Lks K H M vs [] (l.map .leaf)
  | _, _, .nil => .nil
  | _, _, .cons h t => by
    have := Lks.cons (Lk.leaf h) (lks_fl t)
    exact this
theorem fl_lks : ∀ {l : List D} {vs : List V} {as : List Addr}, Lks K H M vs as (l.map .leaf) → as = [] ∧ DpAll K (hid M H) vs l
  | [], _, _, h => by cases h; exact ⟨rfl, .nil⟩
  | d :: l, _, _, h => by
    have h : Lks K H M _ _ (Tr.leaf d :: l.map .leaf) := h
    cases h with
    | cons h1 h2 =>
      cases h1 with
      | leaf h1 =>
        obtain ⟨e, q⟩ := fl_lks h2
        subst e
        exact ⟨rfl, .cons h1 q⟩
theorem lks_len : ∀ {l : List Tr} {vs : List V} {as : List Addr}, Lks K H M vs as l → vs.length = l.length
  | [], _, _, h => by cases h; rfl
  | t :: ts, _, _, h => by cases h with | cons h1 h2 => simp [lks_len h2]
theorem lks_app : ∀ {l l' : List Tr} {vs vs' : List V} {as bs : List Addr}, Lks K H M vs as l → Lks K H M vs' bs l' → Lks K H M (vs ++ vs') (as ++ bs) (l ++ l')
  | [], _, _, _, _, _, h, g => by cases h; exact g
  | t :: ts, _, _, _, _, _, h, g => by
    cases h with
    | cons h1 h2 =>
      have := Lks.cons h1 (lks_app h2 g)
      rw [← List.append_assoc] at this
      exact this
/-- cut in two -/
theorem lks_cut : ∀ {l : List Tr} {vs : List V} {as : List Addr} (n : Nat), Lks K H M vs as l → ∃ bs cs, as = bs ++ cs ∧ Lks K H M (vs.take n) bs (l.take n) ∧ Lks K H M (vs.drop n) cs (l.drop n)
  | _, _, _, 0, h => ⟨[], _, rfl, .nil, h⟩
  | [], _, _, n + 1, h => by cases h; exact ⟨[], [], rfl, .nil, .nil⟩
  | t :: ts, _, _, n + 1, h => by
    cases h with
    | cons h1 h2 =>
      obtain ⟨bs, cs, e, q1, q2⟩ := lks_cut n h2
      subst e
      exact ⟨_ ++ bs, cs, by rw [List.append_assoc], .cons h1 q1, q2⟩
end

/-! ### what an expression gives: clean data, borrowed data, new lists -/
inductive R where
  | c (d : D)
  | u (d : D)
  | t (T : Tr)
def R.o (l : List D) : R := .t (Tr.fl l)
def R.d : R → D
  | .c d => d
  | .u d => d
  | .t T => T.d
def R.cl : R → Bool
  | .u _ => false
  | _ => true
/-- what is hidden from the def at all (z), and its own lists (o) -/
structure WM where
  z : Msk
  o : Msk
def WM.w (W : WM) : Msk := jn W.z W.o
def WM.add (p : Addr) (W : WM) : WM := ⟨adm p W.z, W.o⟩
theorem WM.add_w (p : Addr) (W : WM) : (W.add p).w = adm p W.w := by
  funext a
  show ((W.z a || decide (a = p)) || W.o a) = ((W.z a || W.o a) || decide (a = p))
  cases W.z a <;> cases W.o a <;> cases decide (a = p) <;> rfl
theorem WM.zw {W : WM} : ∀ a, W.z a = true → W.w a = true := fun a h => by unfold WM.w jn; rw [h]; rfl
theorem WM.ow {W : WM} : ∀ a, W.o a = true → W.w a = true := fun a h => by unfold WM.w jn; rw [h]; exact Bool.or_true _
theorem WM.w0 (Z : Msk) : (WM.mk Z noM).w = Z := by
  funext a
  show (Z a || false) = Z a
  exact Bool.or_false _
def adms (as : List Addr) (W : Msk) : Msk := fun a => W a || decide (a ∈ as)
def RA (K : PySem.W.Frag) (H : Hp) (W : WM) (v : V) : R → Prop
  | .c d => Dp K (hid W.w H) v d
  | .u d => Dp K (hid W.z H) v d
  | .t T => Dom W.w H ∧ ∃ as, Lk K H (adms as W.w) v as T ∧ as.Nodup ∧ ∀ a ∈ as, W.w a = false
def RF (H H' : Hp) (v : V) : R → Prop
  | .t T => ∀ K M as, Lk K H' M v as T → ∀ a ∈ as, H a = none
  | _ => True
section
variable {K : PySem.W.Frag} {H H' : Hp} {W : WM} {v : V} {r : R}
theorem adms_le {as : List Addr} {W : Msk} : ∀ a, W a = true → adms as W a = true := fun a h => by unfold adms; rw [h]; rfl
theorem adms_in {as : List Addr} {W : Msk} {a : Addr} (h : a ∈ as) : adms as W a = true := by unfold adms; rw [decide_eq_true h, Bool.or_true]
theorem adms_one {W : Msk} {p : Addr} : adms [p] W = adm p W := by funext a; unfold adms adm; simp
theorem adms_mem {as : List Addr} {W : Msk} {a : Addr} (h : adms as W a = true) : W a = true ∨ a ∈ as := by unfold adms at h; rw [Bool.or_eq_true, decide_eq_true_eq] at h; exact h
theorem RA.cln (h : RA K H W v r) (hc : r.cl = true) : Dp K (hid W.w H) v r.d := by
  cases r with
  | c d => exact h
  | u d => simp [R.cl] at hc
  | t T =>
    obtain ⟨hd, as, h1, h2, h3⟩ := h
    exact lk_dp hd adms_le T v as h3 h1
theorem RA.dz (h : RA K H W v r) : Dp K (hid W.z H) v r.d := by
  cases r with
  | u d => exact h
  | c d => exact Dpm (RA.cln h rfl) (hid_mono WM.zw)
  | t T => exact Dpm (RA.cln h rfl) (hid_mono WM.zw)
theorem RA.dp (h : RA K H W v r) : Dp K H v r.d := Dpm h.dz hid_sub
theorem RA.grow (h : RA K H W v r) (e : Same H H') : RA K H' W v r := by
  cases r with
  | c d => exact Dpm h (hid_same e)
  | u d => exact Dpm h (hid_same e)
  | t T =>
    obtain ⟨hd, as, h1, h2, h3⟩ := h
    exact ⟨hd.grow e, as, lk_mono e (hid_same e) T v as h1, h2, h3⟩
theorem RF.anti {H0 : Hp} (h : RF H H' v r) (e : Same H0 H) : RF H0 H' v r := by
  cases r with
  | c d => trivial
  | u d => trivial
  | t T => exact fun K M as q a ha => e.free (h K M as q a ha)
end
/-- as clean data, where it is clean or bears no list -/
def R.pro (r : R) : Option D := if r.cl || flat r.d then some r.d else none
theorem RA.pro {K : PySem.W.Frag} {H : Hp} {W : WM} {v : V} {r : R} {d : D} (hW : Dom W.w H) (h : RA K H W v r) (e : r.pro = some d) : Dp K (hid W.w H) v d := by
  unfold R.pro at e
  split at e
  · rename_i q
    cases e
    cases hc : r.cl with
    | true => exact h.cln hc
    | false =>
      rw [hc, Bool.false_or] at q
      exact dp_flat hW _ _ q h.dp
  · cases e

/-! ### the names' values -/
inductive Sl where
  | v (d : D)
  | t (T : Tr)
def Sl.o (l : List D) : Sl := .t (Tr.fl l)
abbrev Ev := List (Option Sl)
structure Held (K : PySem.W.Frag) (H : Hp) (W : WM) (σ : L2.St) (E : Ev) : Prop where
  dom : Dom W.w H
  len : σ.length = E.length
  val : ∀ (i : Nat) (d : D), E[i]? = some (some (.v d)) → ∃ x, σ[i]? = some (some x) ∧ Dp K (hid W.w H) x d
  own : ∀ (i : Nat) (T : Tr), E[i]? = some (some (.t T)) → ∃ x as, σ[i]? = some (some x) ∧ Lk K H W.w x as T ∧ as.Nodup ∧ ∀ a ∈ as, W.o a = true ∧ W.z a = false
  inj : ∀ (i j : Nat) (T T' : Tr) (x x' : V) (as bs : List Addr) (M M' : Msk) (a : Addr), E[i]? = some (some (.t T)) → E[j]? = some (some (.t T')) → σ[i]? = some (some x) → σ[j]? = some (some x') → Lk K H M x as T → Lk K H M' x' bs T' → a ∈ as → a ∈ bs → i = j
theorem Held.grow {K : PySem.W.Frag} {H H' : Hp} {W : WM} {σ : L2.St} {E : Ev} (h : Held K H W σ E) (e : Same H H') : Held K H' W σ E := by
  refine ⟨h.dom.grow e, h.len, fun i d q => let ⟨x, h1, h2⟩ := h.val i d q; ⟨x, h1, Dpm h2 (hid_same e)⟩,
   fun i T q => let ⟨x, as, h1, h2, h3, h4⟩ := h.own i T q; ⟨x, as, h1, lk_mono e (hid_same e) T x as h2, h3, h4⟩, ?_⟩
  intro i j T T' x x' as bs M M' a e1 e2 q1 q2 l1 l2 ha hb
  obtain ⟨y, as', g1, g2, g3, g4⟩ := h.own i T e1
  obtain ⟨y', bs', k1, k2, k3, k4⟩ := h.own j T' e2
  rw [q1] at g1
  cases g1
  rw [q2] at k1
  cases k1
  have z1 := lk_det T _ _ _ l1 (lk_mono (M' := W.w) e (hid_same e) T _ _ g2)
  have z2 := lk_det T' _ _ _ l2 (lk_mono (M' := W.w) e (hid_same e) T' _ _ k2)
  subst z1 z2
  exact h.inj i j T T' _ _ _ _ _ _ a e1 e2 q1 q2 g2 k2 ha hb

/-! ### expressions -/
abbrev ME := Ev → Option R
def tM (K : PySem.W.Frag) (m : ME) : TE := fun σ H Q => ∃ E W r, Held K H W σ E ∧ m E = some r ∧ ∀ v H', Same H H' → RA K H' W v r → RF H H' v r → Q v H'
abbrev MT := Ev → Option Bool
def tMT (K : PySem.W.Frag) (m : MT) : TT := fun σ H Q => ∃ E W b, Held K H W σ E ∧ m E = some b ∧ ∀ H', Same H H' → Q b H'
abbrev MA := Ev → Option (List R)
inductive RAs (K : PySem.W.Frag) (H : Hp) (W : WM) : List V → List R → Prop
  | nil : RAs K H W [] []
  | cons {v : V} {vs : List V} {r : R} {rs : List R} : RA K H W v r → RAs K H W vs rs → RAs K H W (v :: vs) (r :: rs)
theorem RAs.grow {K : PySem.W.Frag} {H H' : Hp} {W : WM} : ∀ {vs : List V} {rs : List R}, RAs K H W vs rs → Same H H' → RAs K H' W vs rs
  | _, _, .nil, _ => .nil
  | _, _, .cons h t, e => .cons (h.grow e) (RAs.grow t e)
def tMA (K : PySem.W.Frag) (m : MA) : TA := fun σ H Q => ∃ E W rs, Held K H W σ E ∧ m E = some rs ∧ ∀ vs H', Same H H' → RAs K H' W vs rs → Q vs H'

section
variable {X : Cx}
theorem pe_imp {e : Expr} {t t' : TE} (h : PE X e t) (i : ∀ σ H Q, t' σ H Q → t σ H Q) : PE X e t' := fun pins s σ H Q I q => h pins s σ H Q I (i σ H Q q)
theorem pt_imp {e : Expr} {t t' : TT} (h : PT X e t) (i : ∀ σ H Q, t' σ H Q → t σ H Q) : PT X e t' := fun pins s σ H Q I q => h pins s σ H Q I (i σ H Q q)
theorem pw_imp {e : Expr} {t t' : TT} (h : PW X e t) (i : ∀ σ H Q, t' σ H Q → t σ H Q) : PW X e t' := fun wh pins s σ H Q I q => h wh pins s σ H Q I (i σ H Q q)
theorem pa_imp {e : List Expr} {t t' : TA} (h : PA X e t) (i : ∀ σ H Q, t' σ H Q → t σ H Q) : PA X e t' := fun pos pins s σ H Q I q => h pos pins s σ H Q I (i σ H Q q)
theorem ps_imp {e : Stmt} {t t' : TS} (h : PS X e t) (i : ∀ D σ H, t' D σ H → t D σ H) : PS X e t' := fun pins s σ H D I q => h pins s σ H D I (i D σ H q)
theorem pss_imp {e : List Stmt} {t t' : TS} (h : PSs X e t) (i : ∀ D σ H, t' D σ H → t D σ H) : PSs X e t' := fun pins s σ H D I q => h pins s σ H D I (i D σ H q)

def mVar (i : Nat) : ME := fun E => match E[i]? with
  | some (some (.v d)) => some (.c d)
  | some (some (.t T)) => some (.u T.d)
  | _ => none
theorem m_var {e : Expr} {i : Nat} (h : PE X e (tVar i)) : PE X e (tM X.K (mVar i)) := pe_imp h fun σ H Q ⟨E, W, r, hH, hm, k⟩ => by
  unfold mVar at hm
  split at hm
  · rename_i d e
    cases hm
    obtain ⟨x, h1, h2⟩ := hH.val i d e
    exact ⟨x, h1, k x H (Same.refl H) h2 trivial⟩
  · rename_i T e
    cases hm
    obtain ⟨x, as, h1, h2, h3, h4⟩ := hH.own i T e
    exact ⟨x, h1, k _ H (Same.refl H) (lk_dp (fun a ha => hH.dom a (WM.zw a ha)) WM.zw T x as (fun a ha => (h4 a ha).2) h2) trivial⟩
  · cases hm
/-- a constant value -/
def mC (d : D) : ME := fun _ => some (.c d)
theorem m_c {e : Expr} {v : V} {d : D} (h : PE X e (tC v)) (hd : ∀ H, Dp X.K H v d) : PE X e (tM X.K (mC d)) := pe_imp h fun σ H Q ⟨E, W, r, hH, hm, k⟩ => by
  cases hm
  exact k v H (Same.refl H) (hd _) trivial
theorem m_int {i j pos} : PE X (.Constant (.int i) j pos) (tM X.K (mC (.int i))) := m_c pe_int fun _ => .int i
theorem m_bl {b j pos} : PE X (.Constant (.bool b) j pos) (tM X.K (mC (.bool b))) := m_c pe_bl fun _ => .bl b
theorem m_non {j pos} : PE X (.Constant .none j pos) (tM X.K (mC .none)) := m_c pe_non fun _ => .non

/-! two places -/
abbrev G2 := R → R → Option R
def SOp (K : PySem.W.Frag) (r : R2) (g : G2) : Prop := ∀ (x y : V) (ra rb rc : R) (H : Hp) (W : WM) (Q : VK), Dom W.w H → RA K H W x ra → RA K H W y rb → g ra rb = some rc →
  (∀ v H', Same H H' → RA K H' W v rc → RF H H' v rc → Q v H') → r x y H Q
def mOp (g : G2) (ma mb : ME) : ME := fun E => (ma E).bind fun x => (mb E).bind fun y => g x y
theorem bindSome {α β : Type} {a : Option α} {f : α → Option β} {b : β} (h : a.bind f = some b) : ∃ x, a = some x ∧ f x = some b := by
  cases a with
  | none => cases h
  | some x => exact ⟨x, rfl, h⟩
theorem tOp_of {r : R2} {g : G2} {ma mb : ME} {K : PySem.W.Frag} (hs : SOp K r g) : ∀ σ H Q, tM K (mOp g ma mb) σ H Q → tOp r (tM K ma) (tM K mb) σ H Q := fun σ H Q ⟨E, W, rc, hH, hm, k⟩ => by
  obtain ⟨ra, ea, hm⟩ := bindSome hm
  obtain ⟨rb, eb, eg⟩ := bindSome hm
  refine ⟨E, W, ra, hH, ea, fun x H1 s1 r1 f1 => ⟨E, W, rb, hH.grow s1, eb, fun y H2 s2 r2 f2 => ?_⟩⟩
  exact hs x y ra rb rc H2 _ Q ((hH.grow s1).grow s2).dom (r1.grow s2) r2 eg fun v H' s' r' f' => k v H' ((s1.trans s2).trans s') r' (f'.anti (s1.trans s2))
variable {a b c : Expr} {ma mb mc : ME} {pos : Pos} {g : G2} {r : R2}
theorem m_op {op : Operator} (ho : OpR X (binaryOp op) r) (hs : SOp X.K r g) (ha : PE X a (tM X.K ma)) (hb : PE X b (tM X.K mb)) : PE X (.BinOp a op b pos) (tM X.K (mOp g ma mb)) := pe_imp (pe_op ho ha hb) (tOp_of hs)
theorem m_cmp {op : CmpOp} (ho : OpR X (compareOp op) r) (hs : SOp X.K r g) (ha : PE X a (tM X.K ma)) (hb : PE X b (tM X.K mb)) (hm : behindInMarks op b = false) : PE X (.Compare a [op] [b] pos) (tM X.K (mOp g ma mb)) := pe_imp (pe_cmpR ho ha hb hm) (tOp_of hs)
/-- a value that is a truth -/
def R.tr (r : R) : Option Bool := match r.d with | .bool k => some k | _ => none
def mB (m : ME) : MT := fun E => (m E).bind R.tr
theorem tTest_of {m : ME} {K : PySem.W.Frag} : ∀ σ H Q, tMT K (mB m) σ H Q → tTest (tM K m) σ H Q := fun σ H Q ⟨E, W, k, hH, hm, q⟩ => by
  obtain ⟨ra, ea, hm⟩ := bindSome hm
  refine ⟨E, W, ra, hH, ea, fun x H1 s1 r1 f1 => ⟨k, ?_, q H1 s1⟩⟩
  have h := r1.dp
  unfold R.tr at hm
  split at hm
  · rename_i k' e
    cases hm
    rw [e] at h
    exact Dp_bool h
  · cases hm
theorem m_tcmp {op : CmpOp} (ho : OpR X (compareOp op) r) (hs : SOp X.K r g) (ha : PE X a (tM X.K ma)) (hb : PE X b (tM X.K mb)) (hm : behindInMarks op b = false) : PT X (.Compare a [op] [b] pos) (tMT X.K (mB (mOp g ma mb))) :=
  pt_imp (pt_cmpR ho ha hb hm) fun σ H Q h => by
    have q := tTest_of σ H Q h
    exact tOp_of hs σ H _ q
theorem m_tval {e : Expr} {m : ME} (h : PE X e (tM X.K m)) (he : ∀ whole, isTrue e X.env whole = (do let v ← whole; standAt e.pos; holding [v] (truthy v)) := by intro _; rfl) : PT X e (tMT X.K (mB m)) :=
  pt_imp (pt_val h he) fun σ H Q h => tTest_of σ H Q h
/-- a op b op' c -/
def mChain (g g' : G2) (ma mb mc : ME) : ME := fun E => (ma E).bind fun x => (mb E).bind fun y => (g x y).bind fun z => z.tr.bind fun k => if k = true then (mc E).bind fun w => g' y w else some (.c (.bool false))
theorem tChain_of {r r' : R2} {g g' : G2} {ma mb mc : ME} {K : PySem.W.Frag} (hs : SOp K r g) (hs' : SOp K r' g') : ∀ σ H Q, tM K (mChain g g' ma mb mc) σ H Q → tChain r r' (tM K ma) (tM K mb) (tM K mc) σ H Q := fun σ H Q ⟨E, W, rc, hH, hm, k⟩ => by
  obtain ⟨ra, ea, hm⟩ := bindSome hm
  obtain ⟨rb, eb, hm⟩ := bindSome hm
  obtain ⟨rz, eg, hm⟩ := bindSome hm
  obtain ⟨kk, ek, hm⟩ := bindSome hm
  refine ⟨E, W, ra, hH, ea, fun x H1 s1 r1 f1 => ⟨E, W, rb, hH.grow s1, eb, fun y H2 s2 r2 f2 => ?_⟩⟩
  refine hs x y ra rb rz H2 _ _ ((hH.grow s1).grow s2).dom (r1.grow s2) r2 eg fun v H3 s3 r3 f3 => ⟨kk, ?_, ?_⟩
  · have h := r3.dp
    unfold R.tr at ek
    split at ek
    · rename_i k' e
      cases ek
      rw [e] at h
      exact Dp_bool h
    · cases ek
  · have S3 := (s1.trans s2).trans s3
    cases kk with
    | false =>
      rw [if_neg Bool.false_ne_true] at hm ⊢
      cases hm
      exact k _ H3 S3 (Dp.bl false) trivial
    | true =>
      rw [if_pos rfl] at hm ⊢
      obtain ⟨rw', ew, eg'⟩ := bindSome hm
      refine ⟨E, W, rw', hH.grow S3, ew, fun w H4 s4 r4 f4 => ?_⟩
      exact hs' y w rb rw' rc H4 _ Q ((hH.grow S3).grow s4).dom (r2.grow (s3.trans s4)) r4 eg' fun v H' s' r' f' => k v H' ((S3.trans s4).trans s') r' (f'.anti (S3.trans s4))
theorem m_chain {op op' : CmpOp} {r' : R2} {g' : G2} (ho : OpR X (compareOp op) r) (hs : SOp X.K r g) (ho' : OpR X (compareOp op') r') (hs' : SOp X.K r' g') (ha : PE X a (tM X.K ma)) (hb : PE X b (tM X.K mb)) (hc : PE X c (tM X.K mc))
    (hm : lastMarks [op, op'] [b, c] = false := by with_unfolding_all rfl) : PE X (.Compare a [op, op'] [b, c] pos) (tM X.K (mChain g g' ma mb mc)) := pe_imp (pe_chain ho ho' ha hb hc hm) (tChain_of hs hs')
theorem m_tchain {op op' : CmpOp} {r' : R2} {g' : G2} (ho : OpR X (compareOp op) r) (hs : SOp X.K r g) (ho' : OpR X (compareOp op') r') (hs' : SOp X.K r' g') (ha : PE X a (tM X.K ma)) (hb : PE X b (tM X.K mb)) (hc : PE X c (tM X.K mc))
    (hm : lastMarks [op, op'] [b, c] = false := by with_unfolding_all rfl) : PT X (.Compare a [op, op'] [b, c] pos) (tMT X.K (mB (mChain g g' ma mb mc))) :=
  pt_imp (pt_chain ho ho' ha hb hc hm) fun σ H Q h => tChain_of hs hs' σ H _ (tTest_of σ H Q h)

/-! and, or, not, if -/
def mAndV (ma mb : ME) : ME := fun E => (ma E).bind fun x => x.tr.bind fun k => if k = true then mb E else some (.c (.bool false))
def mOrV (ma mb : ME) : ME := fun E => (ma E).bind fun x => x.tr.bind fun k => if k = true then some (.c (.bool true)) else mb E
def mNotV (ma : ME) : ME := fun E => (ma E).bind fun x => x.tr.bind fun k => some (.c (.bool (!k)))
theorem R.tr_eq {K : PySem.W.Frag} {H : Hp} {v : V} {x : R} {k : Bool} (e : x.tr = some k) (h : Dp K H v x.d) : v = .bl k := by
  unfold R.tr at e
  split at e
  · rename_i k' e'
    cases e
    rw [e'] at h
    exact Dp_bool h
  · cases e
theorem m_and {rest : List Expr} (ha : PE X a (tM X.K ma)) (hb : PE X (.BoolOp .And (b :: rest) pos) (tM X.K mb)) : PE X (.BoolOp .And (a :: b :: rest) pos) (tM X.K (mAndV ma mb)) := pe_imp (pe_and ha hb) fun σ H Q ⟨E, W, rc, hH, hm, k⟩ => by
  obtain ⟨ra, ea, hm⟩ := bindSome hm
  obtain ⟨kk, ek, hm⟩ := bindSome hm
  refine ⟨E, W, ra, hH, ea, fun x H1 s1 r1 f1 => ⟨kk, R.tr_eq ek r1.dp, ?_⟩⟩
  cases kk with
  | false => rw [if_neg Bool.false_ne_true] at hm ⊢; cases hm; exact k _ H1 s1 (Dp.bl false) trivial
  | true => rw [if_pos rfl] at hm ⊢; exact ⟨E, W, rc, hH.grow s1, hm, fun v H2 s2 r2 f2 => k v H2 (s1.trans s2) r2 (f2.anti s1)⟩
theorem m_or {rest : List Expr} (ha : PE X a (tM X.K ma)) (hb : PE X (.BoolOp .Or (b :: rest) pos) (tM X.K mb)) : PE X (.BoolOp .Or (a :: b :: rest) pos) (tM X.K (mOrV ma mb)) := pe_imp (pe_or ha hb) fun σ H Q ⟨E, W, rc, hH, hm, k⟩ => by
  obtain ⟨ra, ea, hm⟩ := bindSome hm
  obtain ⟨kk, ek, hm⟩ := bindSome hm
  refine ⟨E, W, ra, hH, ea, fun x H1 s1 r1 f1 => ⟨kk, R.tr_eq ek r1.dp, ?_⟩⟩
  cases kk with
  | false => rw [if_neg Bool.false_ne_true] at hm ⊢; exact ⟨E, W, rc, hH.grow s1, hm, fun v H2 s2 r2 f2 => k v H2 (s1.trans s2) r2 (f2.anti s1)⟩
  | true => rw [if_pos rfl] at hm ⊢; cases hm; exact k _ H1 s1 (Dp.bl true) trivial
theorem m_one {op : BoolOp} {m : ME} (h : PE X a (tM X.K m)) : PE X (.BoolOp op [a] pos) (tM X.K m) := pe_one h
theorem m_not (ha : PE X a (tM X.K ma)) : PE X (.UnaryOp .Not a pos) (tM X.K (mNotV ma)) := pe_imp (pe_not ha) fun σ H Q ⟨E, W, rc, hH, hm, k⟩ => by
  obtain ⟨ra, ea, hm⟩ := bindSome hm
  obtain ⟨kk, ek, hm⟩ := bindSome hm
  cases hm
  exact ⟨E, W, ra, hH, ea, fun x H1 s1 r1 f1 => ⟨kk, R.tr_eq ek r1.dp, k _ H1 s1 (Dp.bl _) trivial⟩⟩
def mTAnd (ma mb : MT) : MT := fun E => (ma E).bind fun k => if k = true then mb E else some false
def mTOr (ma mb : MT) : MT := fun E => (ma E).bind fun k => if k = true then some true else mb E
def mTNot (ma : MT) : MT := fun E => (ma E).bind fun k => some (!k)
variable {na nb : MT}
theorem m_wor1 (ha : PT X a (tMT X.K na)) : PW X (.BoolOp .Or [a] pos) (tMT X.K na) := pw_or1 ha
theorem m_wor {rest : List Expr} (ha : PT X a (tMT X.K na)) (hb : PW X (.BoolOp .Or (b :: rest) pos) (tMT X.K nb)) : PW X (.BoolOp .Or (a :: b :: rest) pos) (tMT X.K (mTOr na nb)) := pw_imp (pw_or ha hb) fun σ H Q ⟨E, W, rc, hH, hm, k⟩ => by
  obtain ⟨kk, ea, hm⟩ := bindSome hm
  refine ⟨E, W, kk, hH, ea, fun H1 s1 => ?_⟩
  cases kk with
  | false => rw [if_neg Bool.false_ne_true] at hm ⊢; exact ⟨E, W, rc, hH.grow s1, hm, fun H2 s2 => k H2 (s1.trans s2)⟩
  | true => rw [if_pos rfl] at hm ⊢; cases hm; exact k H1 s1
theorem m_tnot (ha : PT X a (tMT X.K na)) : PT X (.UnaryOp .Not a pos) (tMT X.K (mTNot na)) := pt_imp (pt_not ha) fun σ H Q ⟨E, W, rc, hH, hm, k⟩ => by
  obtain ⟨kk, ea, hm⟩ := bindSome hm
  cases hm
  exact ⟨E, W, kk, hH, ea, fun H1 s1 => k H1 s1⟩
def mIf (n : MT) (ma mb : ME) : ME := fun E => (n E).bind fun k => if k = true then ma E else mb E
theorem m_ifExp (hc : PT X c (tMT X.K na)) (ha : PE X a (tM X.K ma)) (hb : PE X b (tM X.K mb)) : PE X (.IfExp c a b pos) (tM X.K (mIf na ma mb)) := pe_imp (pe_ifExp hc ha hb) fun σ H Q ⟨E, W, rc, hH, hm, k⟩ => by
  obtain ⟨kk, ea, hm⟩ := bindSome hm
  refine ⟨E, W, kk, hH, ea, fun H1 s1 => ?_⟩
  cases kk with
  | false => rw [if_neg Bool.false_ne_true] at hm ⊢; exact ⟨E, W, rc, hH.grow s1, hm, fun v H2 s2 r2 f2 => k v H2 (s1.trans s2) r2 (f2.anti s1)⟩
  | true => rw [if_pos rfl] at hm ⊢; exact ⟨E, W, rc, hH.grow s1, hm, fun v H2 s2 r2 f2 => k v H2 (s1.trans s2) r2 (f2.anti s1)⟩

/-! one place -/
abbrev G1 := R → Option R
def SUn (K : PySem.W.Frag) (r : V → Hp → VK → Prop) (g : G1) : Prop := ∀ (x : V) (ra rc : R) (H : Hp) (W : WM) (Q : VK), Dom W.w H → RA K H W x ra → g ra = some rc →
  (∀ v H', Same H H' → RA K H' W v rc → RF H H' v rc → Q v H') → r x H Q
def mUn (g : G1) (ma : ME) : ME := fun E => (ma E).bind g
theorem m_un {op : UnaryOp} {r : V → Hp → VK → Prop} {g : G1} (ho : UnR X (unaryOp op) r) (hs : SUn X.K r g) (ha : PE X a (tM X.K ma)) : PE X (.UnaryOp op a pos) (tM X.K (mUn g ma)) := pe_imp (pe_un ho ha) fun σ H Q ⟨E, W, rc, hH, hm, k⟩ => by
  obtain ⟨ra, ea, eg⟩ := bindSome hm
  exact ⟨E, W, ra, hH, ea, fun x H1 s1 r1 f1 => hs x ra rc H1 _ Q (hH.grow s1).dom r1 eg fun v H' s' r' f' => k v H' (s1.trans s') r' (f'.anti s1)⟩

/-! argument lists -/
def mNil : MA := fun _ => some []
def mCons (m : ME) (n : MA) : MA := fun E => (m E).bind fun x => (n E).bind fun xs => some (x :: xs)
theorem m_anil : PA X [] (tMA X.K mNil) := pa_imp pa_nil fun σ H Q ⟨E, W, rs, hH, hm, k⟩ => by
  cases hm
  exact k [] H (Same.refl H) .nil
theorem m_acons {es : List Expr} {n : MA} (ha : PE X a (tM X.K ma)) (hr : PA X es (tMA X.K n)) (hs : starEach (a :: es) X.env = (false, eval a X.env) :: starEach es X.env := by rfl) : PA X (a :: es) (tMA X.K (mCons ma n)) :=
  pa_imp (pa_cons ha hr hs) fun σ H Q ⟨E, W, rs, hH, hm, k⟩ => by
    obtain ⟨ra, ea, hm⟩ := bindSome hm
    obtain ⟨ras, eas, hm⟩ := bindSome hm
    cases hm
    exact ⟨E, W, ra, hH, ea, fun x H1 s1 r1 f1 => ⟨E, W, ras, hH.grow s1, eas, fun xs H2 s2 r2 => k _ H2 (s1.trans s2) (.cons (r1.grow s2) r2)⟩⟩
/-- calls of built-ins by values -/
abbrev GL := List R → Option R
def SCl (K : PySem.W.Frag) (r : List V → Hp → VK → Prop) (g : GL) : Prop := ∀ (xs : List V) (rs : List R) (rc : R) (H : Hp) (W : WM) (Q : VK), Dom W.w H → RAs K H W xs rs → g rs = some rc →
  (∀ v H', Same H H' → RA K H' W v rc → RF H H' v rc → Q v H') → r xs H Q
def mCl (g : GL) (n : MA) : ME := fun E => (n E).bind g
theorem tCB_of {r : List V → Hp → VK → Prop} {g : GL} {n : MA} {K : PySem.W.Frag} (hs : SCl K r g) : ∀ σ H Q, tM K (mCl g n) σ H Q → tCB r (tMA K n) σ H Q := fun σ H Q ⟨E, W, rc, hH, hm, k⟩ => by
  obtain ⟨rs, ea, eg⟩ := bindSome hm
  exact ⟨E, W, rs, hH, ea, fun xs H1 s1 r1 => hs xs rs rc H1 _ Q (hH.grow s1).dom r1 eg fun v H' s' r' f' => k v H' (s1.trans s') r' (f'.anti s1)⟩
end
end MD

namespace MD
open PySem PySem.Spec L2

/-! ### new lists and tuples -/
theorem same_new {H : Hp} {p : Addr} {o : HO} (h : H p = none) : Same H (upd H p o) := fun b u e => by rw [upd_ne (ne_of_none e h)]; exact e
theorem hid_new {H : Hp} {W : Msk} {p : Addr} {o : HO} (h : H p = none) : Same (hid W H) (hid (adm p W) (upd H p o)) := fun b u e => by
  rw [hid_eq] at e ⊢
  have hb : b ≠ p := ne_of_none e.2 h
  refine ⟨?_, by rw [upd_ne hb]; exact e.2⟩
  unfold adm
  rw [e.1, decide_eq_false hb]
  rfl
theorem lk_o {K : PySem.W.Frag} {H : Hp} {M : Msk} {p : Addr} {as : List Addr} {v : V} {l : List D} (h : Lk K H M v as (Tr.fl l)) : ∃ p vs, v = .ref p ∧ as = [p] ∧ H p = some (.lst vs) ∧ DpAll K (hid M H) vs l := by
  unfold Tr.fl at h
  cases h with
  | lst h1 h2 =>
    obtain ⟨e, q⟩ := fl_lks h2
    subst e
    exact ⟨_, _, rfl, rfl, h1, q⟩
theorem rf_o {H H' : Hp} {p : Addr} {l : List D} (h : H p = none) : RF H H' (.ref p) (.o l) := fun K M as q a ha => by
  obtain ⟨p', vs, e1, e2, _, _⟩ := lk_o (p := p) q
  cases e1
  subst e2
  cases List.mem_singleton.mp ha
  exact h
theorem new_o {K : PySem.W.Frag} {H : Hp} {W : WM} {p : Addr} {vs : List V} {l : List D} (hW : Dom W.w H) (h : H p = none) (ha : DpAll K (hid W.w H) vs l) : RA K (upd H p (.lst vs)) W (.ref p) (.o l) ∧ RF H (upd H p (.lst vs)) (.ref p) (.o l) := by
  refine ⟨⟨hW.grow (same_new h), [p], .lst upd_same (lks_fl ?_), by simp, fun a ha => by cases List.mem_singleton.mp ha; exact hW.free h⟩, rf_o h⟩
  rw [adms_one]
  exact Dpam ha (hid_new h)
theorem new_t {K : PySem.W.Frag} {H : Hp} {W : WM} {p : Addr} {vs : List V} {l : List D} (hW : Dom W.w H) (h : H p = none) (ha : DpAll K (hid W.w H) vs l) : RA K (upd H p (.tup vs)) W (.ref p) (.c (.tuple l)) :=
  Dp.tup (.inl (.inl (hid_eq.mpr ⟨hW.free h, upd_same⟩))) (Dpam ha (hid_same (same_new h)))
theorem new_tu {K : PySem.W.Frag} {H : Hp} {W : WM} {p : Addr} {vs : List V} {l : List D} (hW : Dom W.w H) (h : H p = none) (ha : DpAll K (hid W.z H) vs l) : RA K (upd H p (.tup vs)) W (.ref p) (.u (.tuple l)) :=
  Dp.tup (.inl (.inl (hid_eq.mpr ⟨by cases e : W.z p with | false => rfl | true => (have q := hW.free h; rw [WM.zw p e] at q; exact q), upd_same⟩))) (Dpam ha (hid_same (same_new h)))

def lim : Nat := 100000
theorem lim_line : lim ≤ sizeLine := by decide
def pros : List R → Option (List D)
  | [] => some []
  | r :: rs => r.pro.bind fun d => (pros rs).bind fun ds => some (d :: ds)
theorem RAs.pros {K : PySem.W.Frag} {H : Hp} {W : WM} (hW : Dom W.w H) : ∀ {vs : List V} {rs : List R} {ds : List D}, RAs K H W vs rs → pros rs = some ds → DpAll K (hid W.w H) vs ds
  | _, _, _, .nil, e => by cases e; exact .nil
  | _, _, _, .cons h t, e => by
    obtain ⟨d, e1, e⟩ := bindSome e
    obtain ⟨ds, e2, e⟩ := bindSome e
    cases e
    exact .cons (h.pro hW e1) (RAs.pros hW t e2)
theorem RAs.dps {K : PySem.W.Frag} {H : Hp} {W : WM} : ∀ {vs : List V} {rs : List R}, RAs K H W vs rs → DpAll K (hid W.z H) vs (rs.map R.d)
  | _, _, .nil => .nil
  | _, _, .cons h t => .cons h.dz (RAs.dps t)
theorem RAs.len {K : PySem.W.Frag} {H : Hp} {W : WM} : ∀ {vs : List V} {rs : List R}, RAs K H W vs rs → vs.length = rs.length
  | _, _, .nil => rfl
  | _, _, .cons h t => by simp [RAs.len t]

section
variable {X : Cx} {K : PySem.W.Frag}
/-! ### ints -/
def gI (f : Int → Int → D) : G2 := fun x y => match x.d, y.d with
  | .int i, .int j => some (.c (f i j))
  | _, _ => none
theorem s_I {f : Int → Int → V} {f' : Int → Int → D} (hf : ∀ i j H, Dp K H (f i j) (f' i j)) : SOp K (rI0 f) (gI f') := by
  intro x y ra rb rc H W Q hW hx hy hg k
  unfold gI at hg
  split at hg
  · rename_i i j ei ej
    cases hg
    have h1 := hx.dp
    have h2 := hy.dp
    rw [ei] at h1
    rw [ej] at h2
    exact ⟨i, j, Dp_int h1, Dp_int h2, k _ H (Same.refl H) (hf i j _) trivial⟩
  · cases hg
def gIc (C : Int → Int → Bool) (f : Int → Int → D) : G2 := fun x y => match x.d, y.d with
  | .int i, .int j => if C i j = true then some (.c (f i j)) else none
  | _, _ => none
theorem s_Ic {C : Int → Int → Prop} {C' : Int → Int → Bool} {f : Int → Int → V} {f' : Int → Int → D} (hc : ∀ i j, C' i j = true → C i j) (hf : ∀ i j H, Dp K H (f i j) (f' i j)) : SOp K (rI C f) (gIc C' f') := by
  intro x y ra rb rc H W Q hW hx hy hg k
  unfold gIc at hg
  split at hg
  · rename_i i j ei ej
    split at hg
    · rename_i hcc
      cases hg
      have h1 := hx.dp
      have h2 := hy.dp
      rw [ei] at h1
      rw [ej] at h2
      exact ⟨i, j, Dp_int h1, Dp_int h2, hc i j hcc, k _ H (Same.refl H) (hf i j _) trivial⟩
    · cases hg
  · cases hg
def gSub : G2 := gI fun i j => .int (i - j)
def gLt : G2 := gI fun i j => .bool (decide (i < j))
def gLe : G2 := gI fun i j => .bool (decide (i ≤ j))
def gGt : G2 := gI fun i j => .bool (decide (j < i))
def gGe : G2 := gI fun i j => .bool (decide (j ≤ i))
theorem s_sub : SOp K (rI0 fun i j => .int (i - j)) gSub := s_I fun _ _ _ => .int _
theorem s_lt : SOp K (rI0 fun i j => .bl (decide (i < j))) gLt := s_I fun _ _ _ => .bl _
theorem s_le : SOp K (rI0 fun i j => .bl (decide (i ≤ j))) gLe := s_I fun _ _ _ => .bl _
theorem s_gt : SOp K (rI0 fun i j => .bl (decide (j < i))) gGt := s_I fun _ _ _ => .bl _
theorem s_ge : SOp K (rI0 fun i j => .bl (decide (j ≤ i))) gGe := s_I fun _ _ _ => .bl _
/-- a product whose factors are not too long -/
def mulOk (i j : Int) : Bool := !(decide (Builtin.Int.intBits i > shortFactorBits) && decide (Builtin.Int.intBits j > shortFactorBits) && Builtin.Int.intTooBig (Builtin.Int.intBits i + Builtin.Int.intBits j))
theorem op_mulB : OpR X (binaryOp .Mult) (rI IntMulOk fun i j => .int (i * j)) := opI fun _ _ _ _ _ _ _ hc q => PyProof.Rows.mul_int q hc
theorem mulOk_ok {i j : Int} (h : mulOk i j = true) : IntMulOk i j := by
  unfold mulOk at h
  unfold IntMulOk
  intro q
  rw [q] at h
  cases h
theorem mulOk_of {i j : Int} (h : IntMulOk i j) : mulOk i j = true := by
  unfold IntMulOk at h
  unfold mulOk
  cases q : (decide (Builtin.Int.intBits i > shortFactorBits) && decide (Builtin.Int.intBits j > shortFactorBits) && Builtin.Int.intTooBig (Builtin.Int.intBits i + Builtin.Int.intBits j)) with
  | false => rfl
  | true => exact absurd q h
def gMul : G2 := gIc mulOk fun i j => .int (i * j)
theorem s_mul : SOp K (rI IntMulOk fun i j => .int (i * j)) gMul := s_Ic (fun _ _ h => mulOk_ok h) fun _ _ _ => .int _
def gDiv : G2 := gIc (fun _ j => decide (0 < j ∧ j < 1073741824)) fun i j => .int (i / j)
theorem s_div : SOp K (rI CDiv fun i j => .int (i / j)) gDiv := s_Ic (fun i j h => (of_decide_eq_true h : 0 < j ∧ j < 1073741824)) fun _ _ _ => .int _
def gMod : G2 := gIc (fun _ j => decide (0 < j)) fun i j => .int (i % j)
theorem s_mod : SOp K (rI (fun _ j => 0 < j) fun i j => .int (i % j)) gMod := s_Ic (fun _ _ h => of_decide_eq_true h) fun _ _ _ => .int _
def gPow : G2 := gIc (fun i j => decide (0 ≤ j ∧ j ≤ 1000000 ∧ i.natAbs < 2 ^ 64)) fun i j => .int (i ^ j.toNat)
theorem s_pow : SOp K (rI CPow fun i j => .int (i ^ j.toNat)) gPow := s_Ic (fun i j h => (of_decide_eq_true h : 0 ≤ j ∧ j ≤ 1000000 ∧ i.natAbs < 2 ^ 64)) fun _ _ _ => .int _
def gNeg : G1 := fun x => match x.d with | .int i => some (.c (.int (-i))) | _ => none
theorem s_neg : SUn K (rU fun i => .int (-i)) gNeg := by
  intro x ra rc H W Q hW hx hg k
  unfold gNeg at hg
  split at hg
  · rename_i i ei
    cases hg
    have h1 := hx.dp
    rw [ei] at h1
    exact ⟨i, Dp_int h1, k _ H (Same.refl H) (Dp.int _) trivial⟩
  · cases hg

/-! ### a + b: ints, lists -/
def rCatG (K : PySem.W.Frag) : R2 := fun x y H Q => ∃ l b xs zs, x = .ref l ∧ y = .ref b ∧ SqL K H l xs ∧ SqL K H b zs ∧ xs.length + zs.length ≤ sizeLine ∧ ∀ p, H p = none → Q (.ref p) (upd H p (.lst (xs ++ zs)))
theorem op_catG : OpR X (binaryOp .Add) (rCatG X.K) := by
  intro pins s σ H x y v u Q I rx ry h
  obtain ⟨l, b, xs, zs, rfl, rfl, hH, hB, hz, q⟩ := h
  cases rx
  cases ry
  obtain ⟨its, r, hl, z⟩ := I.list hH
  obtain ⟨its2, r2, hl2, z2⟩ := I.list hB
  have e1 := r.length
  have e2 := r2.length
  obtain ⟨⟨cls, dd, data, sl⟩, ho, hc, n, hd⟩ := hl.isList
  obtain ⟨⟨cls2, dd2, data2, sl2⟩, ho2, hc2, n2, hd2⟩ := hl2.isList
  simp only at hc hd hc2 hd2
  subst hc hd hc2 hd2
  have e : its.toArray ++ its2.toArray = (its ++ its2).toArray := by simp
  refine concat_meets ⟨_, ho, rfl⟩ ⟨_, ho2, rfl⟩ PySem.noFill_list_add PySem.seq_list_add PySem.F.slot_list_add PySem.F.entry_list_add (PySem.F.args_list_add_2 _ _) (PyProof.Rows.list_addW l b its.toArray its2.toArray n n2 dd dd2 sl sl2 (by simp only [List.size_toArray]; omega)) ⟨ho, ho2, ?_⟩
  rw [e]
  exact ⟨.ref _, _, I.lnew (t' := s.toks) (r.append r2) (by rw [List.length_append]; omega), rfl, q _ I.fresh⟩
def rAddG (K : PySem.W.Frag) : R2 := fun x y H Q => rI0 (fun i j => .int (i + j)) x y H Q ∨ rCatG K x y H Q
theorem op_addG : OpR X (binaryOp .Add) (rAddG X.K) := OpR.or op_add op_catG
def gAdd : G2 := fun x y => match x.d, y.d with
  | .int i, .int j => some (.c (.int (i + j)))
  | .list l, .list l' => if (x.cl || flats l) && (y.cl || flats l') && decide (l.length + l'.length ≤ lim) then some (.o (l ++ l')) else none
  | _, _ => none
theorem RA.items {H : Hp} {W : WM} {v : V} {r : R} {l : List D} (hW : Dom W.w H) (h : RA K H W v r) (e : r.d = .list l) (c : (r.cl || flats l) = true) : ∃ a xs, v = .ref a ∧ SqL K H a xs ∧ DpAll K (hid W.w H) xs l := by
  cases hc : r.cl with
  | true =>
    have q := h.cln hc
    rw [e] at q
    obtain ⟨a, xs, e1, e2, e3⟩ := Dp_list q
    exact ⟨a, xs, e1, (hid_sub).seq e2, e3⟩
  | false =>
    rw [hc, Bool.false_or] at c
    have q := h.dp
    rw [e] at q
    obtain ⟨a, xs, e1, e2, e3⟩ := Dp_list q
    exact ⟨a, xs, e1, e2, dpa_flat hW _ _ c e3⟩
theorem RA.itemsT {H : Hp} {W : WM} {v : V} {r : R} {l : List D} (hW : Dom W.w H) (h : RA K H W v r) (e : r.d = .tuple l) (c : (r.cl || flats l) = true) : ∃ a xs, v = .ref a ∧ SqT K H a xs ∧ DpAll K (hid W.w H) xs l := by
  cases hc : r.cl with
  | true =>
    have q := h.cln hc
    rw [e] at q
    obtain ⟨a, xs, e1, e2, e3⟩ := Dp_tup q
    exact ⟨a, xs, e1, same_tup hid_sub e2, e3⟩
  | false =>
    rw [hc, Bool.false_or] at c
    have q := h.dp
    rw [e] at q
    obtain ⟨a, xs, e1, e2, e3⟩ := Dp_tup q
    exact ⟨a, xs, e1, e2, dpa_flat hW _ _ c e3⟩
theorem s_add : SOp K (rAddG K) gAdd := by
  intro x y ra rb rc H W Q hW hx hy hg k
  unfold gAdd at hg
  split at hg
  · rename_i i j ei ej
    cases hg
    have h1 := hx.dp
    have h2 := hy.dp
    rw [ei] at h1
    rw [ej] at h2
    exact .inl ⟨i, j, Dp_int h1, Dp_int h2, k _ H (Same.refl H) (Dp.int _) trivial⟩
  · rename_i l l' el el'
    split at hg
    · rename_i hc
      cases hg
      simp only [Bool.and_eq_true, decide_eq_true_eq] at hc
      obtain ⟨⟨c1, c2⟩, c3⟩ := hc
      obtain ⟨a, xs, rfl, s1, d1⟩ := hx.items hW el c1
      obtain ⟨b, ys, rfl, s2, d2⟩ := hy.items hW el' c2
      refine .inr ⟨a, b, xs, ys, rfl, rfl, s1, s2, ?_, fun p hp => ?_⟩
      · rw [DpAll_len d1, DpAll_len d2]
        exact Nat.le_trans c3 lim_line
      · obtain ⟨q1, q2⟩ := new_o hW hp (DpAll_app d1 d2)
        exact k _ _ (same_new hp) q1 q2
    · cases hg
  · cases hg

/-! ### == and !=, in and not in, at any depth -/
def gEq : G2 := fun x y => if okD x.d && okD y.d then some (.c (.bool (deq x.d y.d))) else none
def gNe : G2 := fun x y => if okD x.d && okD y.d then some (.c (.bool (!deq x.d y.d))) else none
theorem okD_pd {H : Hp} {v : V} {d : D} (h : okD d = true) (hd : Dp K H v d) : L2.Dp K H v d.pd ∧ SeqAt.shaped d.pd = true := by
  unfold okD at h
  rw [Bool.and_eq_true] at h
  exact ⟨dp_pd _ _ h.1 hd, h.2⟩
theorem s_eq : SOp K (rEqD K) gEq := by
  intro x y ra rb rc H W Q hW hx hy hg k
  unfold gEq at hg
  split at hg
  · rename_i hc
    cases hg
    simp only [Bool.and_eq_true] at hc
    obtain ⟨a1, a2⟩ := okD_pd hc.1 hx.dp
    obtain ⟨b1, b2⟩ := okD_pd hc.2 hy.dp
    exact ⟨_, _, a1, b1, a2, b2, k _ H (Same.refl H) (Dp.bl _) trivial⟩
  · cases hg
theorem s_ne : SOp K (rNeD K) gNe := by
  intro x y ra rb rc H W Q hW hx hy hg k
  unfold gNe at hg
  split at hg
  · rename_i hc
    cases hg
    simp only [Bool.and_eq_true] at hc
    obtain ⟨a1, a2⟩ := okD_pd hc.1 hx.dp
    obtain ⟨b1, b2⟩ := okD_pd hc.2 hy.dp
    exact ⟨_, _, a1, b1, a2, b2, k _ H (Same.refl H) (Dp.bl _) trivial⟩
  · cases hg
mutual
def noDict : PySem.PyData → Bool
  | .dict _ => false
  | .list ds => noDicts ds
  | .tuple ds => noDicts ds
  | _ => true
def noDicts : List PySem.PyData → Bool
  | [] => true
  | d :: ds => noDict d && noDicts ds
end
open Classical in
noncomputable def datOf (h : Heap) (u : Value) : PySem.PyData := if q : ∃ d as, noDict d = true ∧ Reads h u d as then q.choose else .none
def rInD (K : PySem.W.Frag) (neg : Bool) : R2 := fun x y H Q => ∃ d p xs ds, L2.Dp K H x d ∧ y = .ref p ∧ (SqL K H p xs ∨ SqT K H p xs) ∧ L2.DpAll K H xs ds ∧ SeqAt.shaped d = true ∧ ds.all SeqAt.shaped = true ∧
  Q (.bl (neg != ds.any fun e => PySem.PyData.eqv e d)) H
def gIn (neg : Bool) : G2 := fun x y => match y.d with
  | .list l => if okD x.d && l.all okD then some (.c (.bool (neg != l.any fun e => deq e x.d))) else none
  | .tuple l => if okD x.d && l.all okD then some (.c (.bool (neg != l.any fun e => deq e x.d))) else none
  | _ => none
end
end MD

namespace MD
open PySem PySem.Spec L2

section
variable {X : Cx} {K : PySem.W.Frag} {e a b c : Expr} {m ma mb : ME} {n : MA} {pos p p2 : Pos} {es : List Expr}

/-! ### isinstance -/
inductive BT where
  | int | bool | list | tuple | str
def BT.s : BT → String
  | .int => "int" | .bool => "bool" | .list => "list" | .tuple => "tuple" | .str => "str"
def isi : BT → D → Option Bool
  | _, .obj _ _ _ => none
  | .int, .int _ => some true
  | .int, .bool _ => some true
  | .bool, .bool _ => some true
  | .list, .list _ => some true
  | .tuple, .tuple _ => some true
  | .str, .str _ => some true
  | _, _ => some false
def rIsi (K : PySem.W.Frag) (T : BT) : List V → Hp → VK → Prop := fun xs H Q => ∃ x d b, xs = [x, .ty T.s] ∧ Dp K H x d ∧ isi T d = some b ∧ Q (.bl b) H
theorem cr_isi (T : BT) : CallR X (.builtin "isinstance") (rIsi X.K T) := by
  intro pins s σ H xs us Q I r h
  obtain ⟨x, d, k, rfl, hd, hi, q⟩ := h
  obtain ⟨u, v, rfl, ru, rv⟩ := r.two
  cases rv
  have fin : EP X pins σ Q (.bool k) s := ⟨.bl k, H, I, rfl, q⟩
  have fin' : EP X pins σ Q (.bool k) { s with toks := s.toks + 1 } := ⟨.bl k, H, I.tok _, rfl, q⟩
  cases d with
  | none => cases hd; cases ru; cases T <;> (simp only [isi] at hi; cases hi) <;> first | exact IsiPair.NoneType_int fin' | exact IsiPair.NoneType_bool fin' | exact IsiPair.NoneType_list fin' | exact IsiPair.NoneType_tuple fin' | exact IsiPair.NoneType_str fin'
  | bool z => cases hd; cases ru; cases T <;> (simp only [isi] at hi; cases hi) <;> first | exact IsiPair.bool_int fin | exact IsiPair.bool_bool fin | exact IsiPair.bool_list fin' | exact IsiPair.bool_tuple fin' | exact IsiPair.bool_str fin'
  | int z => cases hd; obtain ⟨t, rfl⟩ := ru; cases T <;> (simp only [isi] at hi; cases hi) <;> first | exact IsiPair.int_int fin | exact IsiPair.int_bool fin' | exact IsiPair.int_list fin' | exact IsiPair.int_tuple fin' | exact IsiPair.int_str fin'
  | str z => cases hd; obtain ⟨t, rfl⟩ := ru; cases T <;> (simp only [isi] at hi; cases hi) <;> first | exact IsiPair.str_int fin' | exact IsiPair.str_bool fin' | exact IsiPair.str_list fin' | exact IsiPair.str_tuple fin' | exact IsiPair.str_str fin
  | list ds =>
    obtain ⟨a', xs, rfl, hs, _⟩ := Dp_list hd
    cases ru
    obtain ⟨its, _, ⟨o, _, ho, hc, _⟩, _⟩ := I.list hs
    cases T <;> (simp only [isi] at hi; cases hi) <;> first | exact IsiPair.list_int ho hc fin' | exact IsiPair.list_bool ho hc fin' | exact IsiPair.list_list ho hc fin | exact IsiPair.list_tuple ho hc fin' | exact IsiPair.list_str ho hc fin'
  | tuple ds =>
    obtain ⟨a', xs, rfl, hs, _⟩ := Dp_tup hd
    cases ru
    obtain ⟨its, _, ⟨o, ho, hc, _⟩, _⟩ := I.tuple hs
    cases T <;> (simp only [isi] at hi; cases hi) <;> first | exact IsiPair.tuple_int ho hc fin' | exact IsiPair.tuple_bool ho hc fin' | exact IsiPair.tuple_list ho hc fin' | exact IsiPair.tuple_tuple ho hc fin | exact IsiPair.tuple_str ho hc fin'
  | obj C ns ds => cases hi
def gIsi (T : BT) : G1 := fun x => (isi T x.d).map fun k => .c (.bool k)
theorem m_isi (T : BT) {y : Str} (hm : X.mg "isinstance" = none) (hy : X.mg y = none) (he : PE X e (tM X.K m)) (hv : bootBuiltins y = some (.type T.s) := by decide +kernel) (hg : Gl X "isinstance" := by rfl) (hgy : Gl X y := by rfl) (hn : y ≠ "__name__" := by decide) (hd : (y == ("__debug__" : Str)) = false := by decide)
    (h1 : starEach [e, .Name y p2] X.env = (false, eval e X.env) :: starEach [.Name y p2] X.env := by rfl) (h2 : (backTo pos (starEach [.Name y p2] X.env)).any (·.1) = false := by rfl)
    (h3 : starEach [.Name y p2] X.env = (false, eval (.Name y p2) X.env) :: starEach [] X.env := by rfl) :
    PE X (.Call (.Name "isinstance" p) [e, .Name y p2] [] pos) (tM X.K (mUn (gIsi T) m)) :=
  pe_imp (pe_callB (cr_isi T) hg hm PyProof.Rows.boot_isinstance (pa_cons he (pa_cons (pe_bltn (v := .ty T.s) hgy hy hv rfl hn hd) pa_nil h3) h1) (he := h1) (hpl := h2)) fun σ H Q ⟨E, W, rc, hH, hm, k⟩ => by
    obtain ⟨ra, ea, hm⟩ := bindSome hm
    unfold gIsi at hm
    cases hi : isi T ra.d with
    | none => rw [hi] at hm; cases hm
    | some z =>
      rw [hi] at hm
      cases hm
      exact ⟨E, W, ra, hH, ea, fun x H1 s1 r1 f1 => ⟨x, ra.d, z, rfl, r1.dp, hi, k _ H1 s1 (Dp.bl z) trivial⟩⟩

/-! ### built-in calls -/
def gLen : GL := fun rs => match rs with
  | [x] => (match x.d with | .list l => some (.c (.int l.length)) | .tuple l => some (.c (.int l.length)) | _ => none)
  | _ => none
theorem s_len : SCl K (fun xs H Q => ∃ p ys, xs = [V.ref p] ∧ (SqL K H p ys ∨ SqT K H p ys) ∧ Q (.int ys.length) H) gLen := by
  intro xs rs rc H W Q hW hx hg k
  unfold gLen at hg
  split at hg
  · rename_i x
    cases hx with
    | cons h t =>
      cases t
      have q := h.dp
      split at hg
      · rename_i l el
        cases hg
        rw [el] at q
        obtain ⟨a, ys, rfl, h1, h2⟩ := Dp_list q
        exact ⟨a, ys, rfl, .inl h1, by rw [DpAll_len h2]; exact k _ H (Same.refl H) (Dp.int _) trivial⟩
      · rename_i l el
        cases hg
        rw [el] at q
        obtain ⟨a, ys, rfl, h1, h2⟩ := Dp_tup q
        exact ⟨a, ys, rfl, .inr h1, by rw [DpAll_len h2]; exact k _ H (Same.refl H) (Dp.int _) trivial⟩
      · cases hg
  · cases hg
def gAbs : GL := fun rs => match rs with
  | [x] => (match x.d with | .int i => some (.c (.int (if i < 0 then -i else i))) | _ => none)
  | _ => none
theorem s_abs : SCl K (fun xs H Q => ∃ i, xs = [V.int i] ∧ Q (.int (if i < 0 then -i else i)) H) gAbs := by
  intro xs rs rc H W Q hW hx hg k
  unfold gAbs at hg
  split at hg
  · rename_i x
    cases hx with
    | cons h t =>
      cases t
      have q := h.dp
      split at hg
      · rename_i l el
        cases hg
        rw [el] at q
        cases Dp_int q
        exact ⟨l, rfl, k _ H (Same.refl H) (Dp.int _) trivial⟩
      · cases hg
  · cases hg
def gMax2 : GL := fun rs => match rs with
  | [x, y] => (match x.d, y.d with | .int i, .int j => some (.c (.int (if j > i then j else i))) | _, _ => none)
  | _ => none
theorem s_max2 : SCl K (fun xs H Q => ∃ i j, xs = [V.int i, V.int j] ∧ Q (.int (if j > i then j else i)) H) gMax2 := by
  intro xs rs rc H W Q hW hx hg k
  unfold gMax2 at hg
  split at hg
  · rename_i x y
    cases hx with
    | cons h t =>
      cases t with
      | cons h' t =>
        cases t
        have q := h.dp
        have q' := h'.dp
        split at hg
        · rename_i i j ei ej
          cases hg
          rw [ei] at q
          rw [ej] at q'
          cases Dp_int q
          cases Dp_int q'
          exact ⟨i, j, rfl, k _ H (Same.refl H) (Dp.int _) trivial⟩
        · cases hg
  · cases hg
def gMin2 : GL := fun rs => match rs with
  | [x, y] => (match x.d, y.d with | .int i, .int j => some (.c (.int (if j < i then j else i))) | _, _ => none)
  | _ => none
def ints? : List D → Option (List Int)
  | [] => some []
  | .int i :: ds => (ints? ds).map (i :: ·)
  | _ :: _ => none
theorem ints?_eq : ∀ {ds : List D} {ns : List Int}, ints? ds = some ns → ds = ns.map .int
  | [], _, h => by cases h; rfl
  | .int i :: ds, ns, h => by
    unfold ints? at h
    cases e : ints? ds with
    | none => rw [e] at h; cases h
    | some ms => rw [e] at h; cases h; rw [ints?_eq e]; rfl
  | .none :: _, _, h => by simp [ints?] at h
  | .bool _ :: _, _, h => by simp [ints?] at h
  | .str _ :: _, _, h => by simp [ints?] at h
  | .list _ :: _, _, h => by simp [ints?] at h
  | .tuple _ :: _, _, h => by simp [ints?] at h
  | .obj _ _ _ :: _, _, h => by simp [ints?] at h
theorem ints?_map : ∀ (ns : List Int), ints? (ns.map .int) = some ns
  | [] => rfl
  | n :: ns => by show (ints? (ns.map .int)).map (n :: ·) = _; rw [ints?_map ns]; rfl
def bls? : List D → Option (List Bool)
  | [] => some []
  | .bool i :: ds => (bls? ds).map (i :: ·)
  | _ :: _ => none
theorem bls?_eq : ∀ {ds : List D} {ns : List Bool}, bls? ds = some ns → ds = ns.map .bool
  | [], _, h => by cases h; rfl
  | .bool i :: ds, ns, h => by
    unfold bls? at h
    cases e : bls? ds with
    | none => rw [e] at h; cases h
    | some ms => rw [e] at h; cases h; rw [bls?_eq e]; rfl
  | .none :: _, _, h => by simp [bls?] at h
  | .int _ :: _, _, h => by simp [bls?] at h
  | .str _ :: _, _, h => by simp [bls?] at h
  | .list _ :: _, _, h => by simp [bls?] at h
  | .tuple _ :: _, _, h => by simp [bls?] at h
  | .obj _ _ _ :: _, _, h => by simp [bls?] at h
theorem bls?_map : ∀ (ns : List Bool), bls? (ns.map .bool) = some ns
  | [] => rfl
  | n :: ns => by show (bls? (ns.map .bool)).map (n :: ·) = _; rw [bls?_map ns]; rfl
def gSum : GL := fun rs => match rs with
  | [x] => (match x.d with | .list l => (ints? l).map fun ns => .c (.int ns.sum) | _ => none)
  | _ => none
theorem s_sum : SCl K (rSum K) gSum := by
  intro xs rs rc H W Q hW hx hg k
  unfold gSum at hg
  split at hg
  · rename_i x
    cases hx with
    | cons h t =>
      cases t
      have q := h.dp
      split at hg
      · rename_i l el
        cases e : ints? l with
        | none => rw [e] at hg; cases hg
        | some ns =>
          rw [e] at hg
          cases hg
          rw [el] at q
          obtain ⟨a, ys, rfl, h1, h2⟩ := Dp_list q
          rw [ints?_eq e] at h2
          rw [DpAll_ints h2] at h1
          exact ⟨a, ns, rfl, h1, k _ H (Same.refl H) (Dp.int _) trivial⟩
      · cases hg
  · cases hg
def gAny : GL := fun rs => match rs with
  | [x] => (match x.d with | .list l => (bls? l).map fun ns => .c (.bool (ns.any id)) | _ => none)
  | _ => none
def gAll : GL := fun rs => match rs with
  | [x] => (match x.d with | .list l => (bls? l).map fun ns => .c (.bool (ns.all id)) | _ => none)
  | _ => none
theorem s_any : SCl K (rAny K) gAny := by
  intro xs rs rc H W Q hW hx hg k
  unfold gAny at hg
  split at hg
  · rename_i x
    cases hx with
    | cons h t =>
      cases t
      have q := h.dp
      split at hg
      · rename_i l el
        cases e : bls? l with
        | none => rw [e] at hg; cases hg
        | some ns =>
          rw [e] at hg
          cases hg
          rw [el] at q
          obtain ⟨a, ys, rfl, h1, h2⟩ := Dp_list q
          rw [bls?_eq e] at h2
          rw [DpAll_bls h2] at h1
          exact ⟨a, ns, rfl, h1, k _ H (Same.refl H) (Dp.bl _) trivial⟩
      · cases hg
  · cases hg
theorem s_all : SCl K (rAll K) gAll := by
  intro xs rs rc H W Q hW hx hg k
  unfold gAll at hg
  split at hg
  · rename_i x
    cases hx with
    | cons h t =>
      cases t
      have q := h.dp
      split at hg
      · rename_i l el
        cases e : bls? l with
        | none => rw [e] at hg; cases hg
        | some ns =>
          rw [e] at hg
          cases hg
          rw [el] at q
          obtain ⟨a, ys, rfl, h1, h2⟩ := Dp_list q
          rw [bls?_eq e] at h2
          rw [DpAll_bls h2] at h1
          exact ⟨a, ns, rfl, h1, k _ H (Same.refl H) (Dp.bl _) trivial⟩
      · cases hg
  · cases hg
def gList : GL := fun rs => match rs with
  | [x] => (match x.d with | .list l => if x.cl || flats l then some (.o l) else none | .tuple l => if x.cl || flats l then some (.o l) else none | _ => none)
  | _ => none
theorem s_list : SCl K (fun xs H Q => ∃ p ys, xs = [V.ref p] ∧ (SqL K H p ys ∨ SqT K H p ys) ∧ ∀ l, H l = none → Q (.ref l) (upd H l (.lst ys))) gList := by
  intro xs rs rc H W Q hW hx hg k
  unfold gList at hg
  split at hg
  · rename_i x
    cases hx with
    | cons h t =>
      cases t
      split at hg
      · rename_i l el
        split at hg
        · rename_i hc
          cases hg
          obtain ⟨a, ys, rfl, h1, h2⟩ := h.items hW el hc
          refine ⟨a, ys, rfl, .inl h1, fun q hq => ?_⟩
          obtain ⟨q1, q2⟩ := new_o hW hq h2
          exact k _ _ (same_new hq) q1 q2
        · cases hg
      · rename_i l el
        split at hg
        · rename_i hc
          cases hg
          obtain ⟨a, ys, rfl, h1, h2⟩ := h.itemsT hW el hc
          refine ⟨a, ys, rfl, .inr h1, fun q hq => ?_⟩
          obtain ⟨q1, q2⟩ := new_o hW hq h2
          exact k _ _ (same_new hq) q1 q2
        · cases hg
      · cases hg
  · cases hg
theorem m_callB {x : Str} {id : String} {r : List V → Hp → VK → Prop} {g : GL} (hc : CallR X (.builtin id) r) (hs : SCl X.K r g) (hm : X.mg x = none) (ha : PA X (e :: es) (tMA X.K n)) (hv : bootBuiltins x = some (.builtin id) := by decide +kernel) (hg : Gl X x := by rfl) (hn : x ≠ "__name__" := by decide) (hdb : (x == ("__debug__" : Str)) = false := by decide)
    (he : starEach (e :: es) X.env = (false, eval e X.env) :: starEach es X.env := by rfl) (hpl : (backTo pos (starEach es X.env)).any (·.1) = false := by rfl) : PE X (.Call (.Name x p) (e :: es) [] pos) (tM X.K (mCl g n)) :=
  pe_imp (pe_callB hc hg hm hv ha hn hdb he hpl) (tCB_of hs)
theorem m_callT {x : Str} {T : String} {r : List V → Hp → VK → Prop} {g : GL} (hc : CallR X (.type T) r) (hs : SCl X.K r g) (hm : X.mg x = none) (ha : PA X (e :: es) (tMA X.K n)) (hv : bootBuiltins x = some (.type T) := by decide +kernel) (hg : Gl X x := by rfl) (hn : x ≠ "__name__" := by decide) (hdb : (x == ("__debug__" : Str)) = false := by decide)
    (he : starEach (e :: es) X.env = (false, eval e X.env) :: starEach es X.env := by rfl) (hpl : (backTo pos (starEach es X.env)).any (·.1) = false := by rfl) : PE X (.Call (.Name x p) (e :: es) [] pos) (tM X.K (mCl g n)) :=
  pe_imp (pe_callTy hc hg hm hv ha hn hdb he hpl) (tCB_of hs)

/-! ### displays, items, slices -/
def mTup (n : MA) : ME := fun E => (n E).bind fun rs => if rs.length ≤ lim then some (match pros rs with | some ds => .c (.tuple ds) | none => .u (.tuple (rs.map R.d))) else none
theorem m_tup {x1 : Nat} (h : PA X es (tMA X.K n)) : PE X (.Tuple es x1 pos) (tM X.K (mTup n)) := pe_imp (pe_tup h) fun σ H Q ⟨E, W, rc, hH, hm, k⟩ => by
  obtain ⟨rs, ea, hm⟩ := bindSome hm
  split at hm
  · rename_i hl
    refine ⟨E, W, rs, hH, ea, fun vs H1 s1 r1 => ⟨by rw [r1.len]; exact Nat.le_trans hl lim_line, fun q hq => ?_⟩⟩
    have hd := (hH.grow s1).dom
    have cm := (Option.some.inj hm).symm
    cases ep : pros rs with
    | some ds => rw [ep] at cm; subst cm; exact k _ _ (s1.trans (same_new hq)) (new_t hd hq (r1.pros hd ep)) trivial
    | none => rw [ep] at cm; subst cm; exact k _ _ (s1.trans (same_new hq)) (new_tu hd hq r1.dps) trivial
  · cases hm
def mLst (n : MA) : ME := fun E => (n E).bind fun rs => if rs.length ≤ lim then (pros rs).map R.o else none
theorem m_lst (h : PA X es (tMA X.K n)) : PE X (.List es pos) (tM X.K (mLst n)) := pe_imp (pe_lst h) fun σ H Q ⟨E, W, rc, hH, hm, k⟩ => by
  obtain ⟨rs, ea, hm⟩ := bindSome hm
  split at hm
  · rename_i hl
    refine ⟨E, W, rs, hH, ea, fun vs H1 s1 r1 => ⟨by rw [r1.len]; exact Nat.le_trans hl lim_line, fun q hq => ?_⟩⟩
    have hd := (hH.grow s1).dom
    cases ep : pros rs with
    | some ds =>
      rw [ep] at hm
      cases hm
      obtain ⟨q1, q2⟩ := new_o hd hq (r1.pros hd ep)
      exact k _ _ (s1.trans (same_new hq)) q1 (q2.anti s1)
    | none => rw [ep] at hm; cases hm
  · cases hm
def R.mk' (cl : Bool) (d : D) : R := if cl || flat d then .c d else .u d
def gIx : G2 := fun x y => match x.d, y.d with
  | .list l, .int i => (atI l i).map (R.mk' x.cl)
  | .tuple l, .int i => (atI l i).map (R.mk' x.cl)
  | _, _ => none
theorem atI_D {H : Hp} {xs : List V} {ds : List D} {i : Int} {d : D} (h : DpAll K H xs ds) (e : atI ds i = some d) : ∃ v, atI xs i = some v ∧ Dp K H v d := by
  unfold atI at e ⊢
  rw [DpAll_len h]
  obtain ⟨j, e1, e2⟩ := bindSome e
  rw [e1]
  exact DpAll_get h e2
theorem mk'_ok {H : Hp} {W : WM} {v : V} {d : D} {cl : Bool} (hW : Dom W.w H) (h1 : cl = true → Dp K (hid W.w H) v d) (h2 : Dp K (hid W.z H) v d) : RA K H W v (R.mk' cl d) := by
  unfold R.mk'
  cases cl with
  | true => exact h1 rfl
  | false =>
    cases f : flat d with
    | true => exact dp_flat hW _ _ f (Dpm h2 hid_sub)
    | false => exact h2
theorem mk'_f {H H' : Hp} {v : V} {d : D} {cl : Bool} : RF H H' v (R.mk' cl d) := by
  unfold R.mk'
  split <;> trivial
def rIxD (K : PySem.W.Frag) : R2 := fun x y H Q => rIxL K x y H Q ∨ rIxT K x y H Q
theorem ix_D : IxR X (rIxD X.K) := IxR.or ix_list ix_tup
theorem RA.seqL {H : Hp} {W : WM} {v : V} {r : R} {l : List D} (h : RA K H W v r) (e : r.d = .list l) : ∃ a xs, v = .ref a ∧ SqL K H a xs ∧ DpAll K (hid W.z H) xs l ∧ (r.cl = true → DpAll K (hid W.w H) xs l) := by
  cases hc : r.cl with
  | true =>
    have q := h.cln hc
    rw [e] at q
    obtain ⟨a, xs, e1, e2, e3⟩ := Dp_list q
    exact ⟨a, xs, e1, hid_sub.seq e2, Dpam e3 (hid_mono WM.zw), fun _ => e3⟩
  | false =>
    have q := h.dz
    rw [e] at q
    obtain ⟨a, xs, e1, e2, e3⟩ := Dp_list q
    exact ⟨a, xs, e1, hid_sub.seq e2, e3, fun z => by cases z⟩
theorem RA.seqT {H : Hp} {W : WM} {v : V} {r : R} {l : List D} (h : RA K H W v r) (e : r.d = .tuple l) : ∃ a xs, v = .ref a ∧ SqT K H a xs ∧ DpAll K (hid W.z H) xs l ∧ (r.cl = true → DpAll K (hid W.w H) xs l) := by
  cases hc : r.cl with
  | true =>
    have q := h.cln hc
    rw [e] at q
    obtain ⟨a, xs, e1, e2, e3⟩ := Dp_tup q
    exact ⟨a, xs, e1, same_tup hid_sub e2, Dpam e3 (hid_mono WM.zw), fun _ => e3⟩
  | false =>
    have q := h.dz
    rw [e] at q
    obtain ⟨a, xs, e1, e2, e3⟩ := Dp_tup q
    exact ⟨a, xs, e1, same_tup hid_sub e2, e3, fun z => by cases z⟩
theorem atI_V {xs : List V} {ds : List D} {H : Hp} {i : Int} {v : V} (h : DpAll K H xs ds) (e : atI xs i = some v) {d : D} (ed : atI ds i = some d) : Dp K H v d := by
  obtain ⟨v', e1, q⟩ := atI_D h ed
  rw [e] at e1
  cases e1
  exact q
theorem s_ix : SOp K (rIxD K) gIx := by
  intro x y ra rb rc H W Q hW hx hy hg k
  unfold gIx at hg
  split at hg
  · rename_i l i el ei
    cases e : atI l i with
    | none => rw [e] at hg; cases hg
    | some d =>
      rw [e] at hg
      cases hg
      have h2 := hy.dp
      rw [ei] at h2
      cases Dp_int h2
      obtain ⟨a, xs, rfl, h1, hz, hw⟩ := hx.seqL el
      obtain ⟨v, e1, dv⟩ := atI_D hz e
      exact .inl ⟨a, xs, i, v, rfl, rfl, h1, e1, k v H (Same.refl H) (mk'_ok hW (fun hc => atI_V (hw hc) e1 e) dv) mk'_f⟩
  · rename_i l i el ei
    cases e : atI l i with
    | none => rw [e] at hg; cases hg
    | some d =>
      rw [e] at hg
      cases hg
      have h2 := hy.dp
      rw [ei] at h2
      cases Dp_int h2
      obtain ⟨a, xs, rfl, h1, hz, hw⟩ := hx.seqT el
      obtain ⟨v, e1, dv⟩ := atI_D hz e
      exact .inr ⟨a, xs, i, v, rfl, rfl, h1, e1, k v H (Same.refl H) (mk'_ok hW (fun hc => atI_V (hw hc) e1 e) dv) mk'_f⟩
  · cases hg
theorem m_ix (ha : PE X a (tM X.K ma)) (hb : PE X b (tM X.K mb)) (hs : PlainIx b := by intro _ _; rfl) : PE X (.Subscript a b pos) (tM X.K (mOp gIx ma mb)) := pe_imp (pe_ix ix_D ha hb hs) (tOp_of s_ix)

/-! slices of lists -/
def tMO (K : PySem.W.Frag) (m : Ev → Option (Option Int)) : TO := fun σ H Q => ∃ E W r, Held K H W σ E ∧ m E = some r ∧ ∀ H', Same H H' → Q r H'
theorem po_imp {o : Option Expr} {t t' : TO} (h : PO X o t) (i : ∀ σ H Q, t' σ H Q → t σ H Q) : PO X o t' := fun pins s σ H Q I q => h pins s σ H Q I (i σ H Q q)
def mNoPart : Ev → Option (Option Int) := fun _ => some none
theorem m_ponone : PO X none (tMO X.K mNoPart) := po_imp po_none fun σ H Q ⟨E, W, r, hH, hm, k⟩ => by cases hm; exact k H (Same.refl H)
def mPart (m : ME) : Ev → Option (Option Int) := fun E => (m E).bind fun r => match r.d with | .int i => some (some i) | _ => none
theorem m_posome (h : PE X e (tM X.K m)) : PO X (some e) (tMO X.K (mPart m)) := po_imp (po_some h) fun σ H Q ⟨E, W, r, hH, hm, k⟩ => by
  obtain ⟨ra, ea, hm⟩ := bindSome hm
  split at hm
  · rename_i i ei
    cases hm
    refine ⟨E, W, ra, hH, ea, fun x H1 s1 r1 f1 => ⟨i, ?_, k H1 s1⟩⟩
    have q := r1.dp
    rw [ei] at q
    exact Dp_int q
  · cases hm
def cutD (xs : List D) (lo hi : Option Int) : List D := (xs.drop (HT.sIx xs.length 0 lo)).take (HT.sIx xs.length xs.length hi - HT.sIx xs.length 0 lo)
theorem cut_D {H : Hp} {xs : List V} {ds : List D} (lo hi : Option Int) (h : DpAll K H xs ds) : DpAll K H (cutV xs lo hi) (cutD ds lo hi) := by
  unfold cutV cutD
  rw [DpAll_len h]
  exact DpAll_take _ (DpAll_drop _ h)
def gCut (x : R) (lo hi : Option Int) : Option R := match x.d with
  | .list l => if x.cl || flats l then some (.o (cutD l lo hi)) else none
  | _ => none
def mSl (m : ME) (ml mh : Ev → Option (Option Int)) : ME := fun E => (m E).bind fun x => (ml E).bind fun lo => (mh E).bind fun hi => gCut x lo hi
theorem m_slice {lo hi : Option Expr} {ml mh : Ev → Option (Option Int)} (he : PE X e (tM X.K m)) (hl : PO X lo (tMO X.K ml)) (hu : PO X hi (tMO X.K mh)) : PE X (.Subscript e (.Slice lo hi none p2) pos) (tM X.K (mSl m ml mh)) :=
  pe_imp (pe_slice sl_list he hl hu) fun σ H Q ⟨E, W, rc, hH, hm, k⟩ => by
    obtain ⟨ra, ea, hm⟩ := bindSome hm
    obtain ⟨l1, el, hm⟩ := bindSome hm
    obtain ⟨l2, eh, hm⟩ := bindSome hm
    refine ⟨E, W, ra, hH, ea, fun x H1 s1 r1 f1 => ⟨E, W, l1, hH.grow s1, el, fun H2 s2 => ⟨E, W, l2, (hH.grow s1).grow s2, eh, fun H3 s3 => ?_⟩⟩⟩
    have S := (s1.trans s2).trans s3
    have hd := (hH.grow S).dom
    unfold gCut at hm
    split at hm
    · rename_i l ell
      split at hm
      · rename_i hc
        cases hm
        obtain ⟨a, ys, rfl, h1, h2⟩ := (r1.grow (s2.trans s3)).items hd ell hc
        refine ⟨a, ys, rfl, h1, fun q hq => ?_⟩
        obtain ⟨q1, q2⟩ := new_o hd hq (cut_D l1 l2 h2)
        exact k _ _ (S.trans (same_new hq)) q1 (q2.anti S)
      · cases hm
    · cases hm
/-! xs[::-1] -/
def tRev (K : PySem.W.Frag) (te : TE) : TE := fun σ H Q => te σ H fun x H1 => ∃ a xs, x = .ref a ∧ SqL K H1 a xs ∧ ∀ p, H1 p = none → Q (.ref p) (upd H1 p (.lst xs.reverse))
def mRev (m : ME) : ME := fun E => (m E).bind fun x => match x.d with
  | .list l => if x.cl || flats l then some (.o l.reverse) else none
  | _ => none
/-! ### calls of defs -/
def R.up : R → R
  | .u d => .c d
  | r => r
mutual
def Tr.fleaf : Tr → Bool
  | .leaf d => flat d
  | .lst l => Tr.fleafs l
  | .tup l => Tr.fleafs l
  | .obj _ _ l => Tr.fleafs l
def Tr.fleafs : List Tr → Bool
  | [] => true
  | t :: ts => t.fleaf && Tr.fleafs ts
end
theorem Tr.fleafs_fl : ∀ l : List D, Tr.fleafs (l.map .leaf) = flats l
  | [] => by simp [Tr.fleafs, flats]
  | d :: l => by simp [Tr.fleafs, Tr.fleaf, flats, Tr.fleafs_fl l]
theorem Tr.fleaf_fl (l : List D) : (Tr.fl l).fleaf = flats l := by unfold Tr.fl; rw [Tr.fleaf, Tr.fleafs_fl]
mutual
theorem lk_flat {H : Hp} {M M' : Msk} (hM : Dom M' H) : ∀ (T : Tr) (v : V) (as : List Addr), T.fleaf = true → Lk K H M v as T → Lk K H M' v as T
  | .leaf d, _, _, f, h => by cases h with | leaf h => exact .leaf (dp_flat hM _ _ (by simpa [Tr.fleaf] using f) (Dpm h hid_sub))
  | .lst l, _, _, f, h => by cases h with | lst h1 h2 => exact .lst h1 (lks_flat hM l _ _ (by simpa [Tr.fleaf] using f) h2)
  | .tup l, _, _, f, h => by cases h with | tup h1 h2 => exact .tup h1 (lks_flat hM l _ _ (by simpa [Tr.fleaf] using f) h2)
  | .obj C ns l, _, _, f, h => by cases h with | obj h1 h2 => exact .obj h1 (lks_flat hM l _ _ (by simpa [Tr.fleaf] using f) h2)
theorem lks_flat {H : Hp} {M M' : Msk} (hM : Dom M' H) : ∀ (l : List Tr) (vs : List V) (as : List Addr), Tr.fleafs l = true → Lks K H M vs as l → Lks K H M' vs as l
  | [], _, _, _, h => by cases h; exact .nil
  | t :: ts, _, _, f, h => by
    simp only [Tr.fleafs, Bool.and_eq_true] at f
    cases h with | cons h1 h2 => exact .cons (lk_flat hM t _ _ f.1 h1) (lks_flat hM ts _ _ f.2 h2)
end
def R.taint : R → R
  | .c d => if flat d then .c d else .u d
  | .u d => if flat d then .c d else .u d
  | .t T => if T.fleaf then .t T else .u T.d
def spD (K : PySem.W.Frag) (n : Nat) (g : List D → Option R) : Sp := fun vs H Q _ => vs.length = n ∧ ∃ Z ds r, Dom Z H ∧ DpAll K (hid Z H) vs ds ∧ g ds = some r ∧ ∀ v H', Same H H' → RA K H' ⟨Z, noM⟩ v r → RF H H' v r → Q v H'
def mCall (n0 : Nat) (g : List D → Option R) (n : MA) : ME := fun E => (n E).bind fun rs => if rs.length = n0 then (match pros rs with
  | some ds => (g ds).map R.up
  | none => (g (rs.map R.d)).map R.taint) else none
theorem up_ok {H' : Hp} {W : WM} {v : V} {r : R} (h : RA K H' ⟨W.w, noM⟩ v r) : RA K H' W v r.up := by
  cases r with
  | c d => have h : Dp K (hid (WM.mk W.w noM).w H') v d := h; rw [WM.w0] at h; exact h
  | u d => exact h
  | t T =>
    obtain ⟨hd, as, h1, h2, h3⟩ := h
    rw [WM.w0] at hd h1 h3
    exact ⟨hd, as, h1, h2, h3⟩
theorem up_f {H H' : Hp} {v : V} {r : R} (h : RF H H' v r) : RF H H' v r.up := by cases r <;> exact h
theorem adms_dom {H : Hp} {W M : Msk} {v : V} {as : List Addr} {T : Tr} (hW : Dom W H) (h : Lk K H M v as T) : Dom (adms as W) H := fun a ha => by
  rcases adms_mem ha with q | q
  · exact hW a q
  · exact lk_lst T v as h a q
theorem taint_ok {H H' : Hp} {W : WM} {v : V} {r : R} (hW : Dom W.w H) (s : Same H H') (h : RA K H' ⟨W.z, noM⟩ v r) (f : RF H H' v r) : RA K H' W v r.taint := by
  have hW' := hW.grow s
  have one : ∀ {d : D}, Dp K (hid W.z H') v d → RA K H' W v (if flat d then .c d else .u d) := fun {d} q => by
    split
    · rename_i fl
      exact dp_flat hW' _ _ fl (Dpm q hid_sub)
    · exact q
  cases r with
  | c d => have h : Dp K (hid (WM.mk W.z noM).w H') v d := h; rw [WM.w0] at h; exact one h
  | u d => exact one h
  | t T =>
    have hz := h.dz
    obtain ⟨hd, as, h1, h2, h3⟩ := h
    have hf := f K _ as h1
    show RA K H' W v (if T.fleaf then .t T else .u T.d)
    split
    · rename_i fl
      exact ⟨hW', as, lk_flat (adms_dom hW' h1) T v as fl h1, h2, fun a ha => hW.free (hf a ha)⟩
    · exact hz
theorem taint_f {H H' : Hp} {v : V} {r : R} (h : RF H H' v r) : RF H H' v r.taint := by
  cases r with
  | c d => show RF H H' v (if flat d then .c d else .u d); split <;> trivial
  | u d => show RF H H' v (if flat d then .c d else .u d); split <;> trivial
  | t T =>
    show RF H H' v (if T.fleaf then .t T else .u T.d)
    split
    · exact h
    · trivial
theorem mapSome {α β : Type} {a : Option α} {f : α → β} {b : β} (h : a.map f = some b) : ∃ x, a = some x ∧ f x = b := by
  cases a with
  | none => cases h
  | some x => exact ⟨x, rfl, Option.some.inj h⟩
theorem tCall_of {g : List D → Option R} {n0 : Nat} : ∀ σ H Q, tM K (mCall n0 g n) σ H Q → tCall (spD K n0 g) [] E0 (tMA K n) σ H Q := fun σ H Q ⟨E, W, rc, hH, hm, k⟩ => by
  obtain ⟨rs, ea, hm⟩ := bindSome hm
  split at hm
  · rename_i hn
    refine ⟨E, W, rs, hH, ea, fun vs H1 s1 r1 => ?_⟩
    have hd := (hH.grow s1).dom
    show spD K n0 g (vs ++ []) H1 Q E0
    rw [List.append_nil]
    refine ⟨by rw [r1.len]; exact hn, ?_⟩
    split at hm
    · rename_i ds ep
      obtain ⟨r, eg, e2⟩ := mapSome hm
      subst e2
      exact ⟨W.w, ds, r, hd, r1.pros hd ep, eg, fun v H' s' ra rf => k v H' (s1.trans s') (up_ok ra) (up_f (rf.anti s1))⟩
    · obtain ⟨r, eg, e2⟩ := mapSome hm
      subst e2
      exact ⟨W.z, _, r, fun a ha => hd a (WM.zw a ha), r1.dps, eg, fun v H' s' ra rf => k v H' (s1.trans s') (taint_ok hd s' ra rf) (taint_f (rf.anti s1))⟩
  · cases hm
theorem m_call {x : Str} {f : Addr} {fd : FuncData} {ps : List Str} {k n0 : Nat} {g : List D → Option R} (F : FnOk X.prog X.w X.K X.mg X.base CX0 k f fd ps (spD X.K n0 g)) (hr : Room k X.A) (hm : X.mg x = some (.ref f)) (hk : PySem.W.keepIn X.K (.ref f) = true) (hb : Binds X.K fd ps [])
    (ha : PA X (e :: es) (tMA X.K n)) (hg : Gl X x := by rfl) (hdb : (x == ("__debug__" : Str)) = false := by decide) (he : starEach (e :: es) X.env = (false, eval e X.env) :: starEach es X.env := by rfl) (hpl : (backTo pos (starEach es X.env)).any (·.1) = false := by rfl) :
    PE X (.Call (.Name x p) (e :: es) [] pos) (tM X.K (mCall n0 g n)) :=
  pe_imp (pe_call (E := E0) F hr hg hm hk hb .nil pass0 ha hdb he hpl) tCall_of
end
end MD

namespace MD
open PySem PySem.Spec L2

/-! ### the names' values change -/
def setAll (σ : L2.St) : List Nat → List V → L2.St
  | i :: is, v :: vs => setAll (σ.set i (some v)) is vs
  | _, _ => σ
def setAllE (E : Ev) : List Nat → List D → Ev
  | i :: is, d :: ds => setAllE (E.set i (some (.v d))) is ds
  | _, _ => E
theorem Held.setv {K : PySem.W.Frag} {H : Hp} {W : WM} {σ : L2.St} {E : Ev} (h : Held K H W σ E) (i : Nat) {x : V} {d : D} (hx : Dp K (hid W.w H) x d) : Held K H W (σ.set i (some x)) (E.set i (some (.v d))) := by
  refine ⟨h.dom, by rw [List.length_set, List.length_set]; exact h.len, fun j d' e => ?_, fun j T e => ?_, fun j j' T T' y y' as bs M M' a e e' q q' => ?_⟩
  · rw [List.getElem?_set] at e ⊢
    rw [h.len]
    split at e
    · split at e
      · cases e
        rename_i h1 h2
        rw [if_pos h1, if_pos h2]
        exact ⟨x, rfl, hx⟩
      · cases e
    · rename_i h1
      rw [if_neg h1]
      exact h.val j d' e
  · rw [List.getElem?_set] at e ⊢
    rw [h.len]
    split at e
    · split at e <;> cases e
    · rename_i h1
      rw [if_neg h1]
      exact h.own j T e
  · rw [List.getElem?_set] at e e' q q'
    split at e
    · split at e <;> cases e
    · split at e'
      · split at e' <;> cases e'
      · rename_i h1 h2
        rw [if_neg h1] at q
        rw [if_neg h2] at q'
        exact h.inj j j' T T' y y' as bs M M' a e e' q q'
theorem Held.setn {K : PySem.W.Frag} {H : Hp} {W : WM} {σ : L2.St} {E : Ev} (h : Held K H W σ E) (i : Nat) (x : Option V) : Held K H W (σ.set i x) (E.set i none) := by
  refine ⟨h.dom, by rw [List.length_set, List.length_set]; exact h.len, fun j d' e => ?_, fun j T e => ?_, fun j j' T T' y y' as bs M M' a e e' q q' => ?_⟩
  · rw [List.getElem?_set] at e ⊢
    rw [h.len]
    split at e
    · split at e
      · cases e
      · cases e
    · rename_i h1
      rw [if_neg h1]
      exact h.val j d' e
  · rw [List.getElem?_set] at e ⊢
    rw [h.len]
    split at e
    · split at e <;> cases e
    · rename_i h1
      rw [if_neg h1]
      exact h.own j T e
  · rw [List.getElem?_set] at e e' q q'
    split at e
    · split at e <;> cases e
    · split at e'
      · split at e' <;> cases e'
      · rename_i h1 h2
        rw [if_neg h1] at q
        rw [if_neg h2] at q'
        exact h.inj j j' T T' y y' as bs M M' a e e' q q'
theorem Held.setAll {K : PySem.W.Frag} {H : Hp} {W : WM} : ∀ {is : List Nat} {vs : List V} {ds : List D} {σ : L2.St} {E : Ev}, Held K H W σ E → DpAll K (hid W.w H) vs ds → Held K H W (MD.setAll σ is vs) (setAllE E is ds)
  | [], _, _, _, _, h, _ => h
  | i :: is, _, _, _, _, h, .nil => h
  | i :: is, _, _, _, _, h, .cons hd t => Held.setAll (is := is) (h.setv i hd) t
def wipeE (E : Ev) : List Nat → Ev
  | [] => E
  | i :: is => (wipeE E is).set i none
theorem Held.wipe {K : PySem.W.Frag} {H : Hp} {W : WM} {σ : L2.St} {E : Ev} (h : Held K H W σ E) : ∀ is : List Nat, Held K H W (L2.wipe σ is) (wipeE E is)
  | [] => h
  | i :: is => (Held.wipe h is).setn i none
theorem wipe_get (σ : L2.St) (j : Nat) : ∀ is : List Nat, (L2.wipe σ is)[j]? = if j ∈ is then (if j < σ.length then some none else none) else σ[j]?
  | [] => by simp [L2.wipe]
  | i :: is => by
    unfold L2.wipe
    rw [List.getElem?_set, wipe_get σ j is, L2.wipe_length]
    by_cases h : i = j
    · subst h; simp
    · have h' : ¬ j = i := fun z => h z.symm
      simp [h, h']
theorem setAll_len : ∀ (is : List Nat) (vs : List V) (σ : L2.St), (MD.setAll σ is vs).length = σ.length
  | [], _, _ => by simp [MD.setAll]
  | _ :: _, [], _ => by simp [MD.setAll]
  | i :: is, v :: vs, σ => by
    show (MD.setAll (σ.set i (some v)) is vs).length = _
    rw [setAll_len is vs, List.length_set]
theorem setAll_get : ∀ (is : List Nat) (vs : List V) (σ : L2.St) (j : Nat), j ∉ is → (MD.setAll σ is vs)[j]? = σ[j]?
  | [], _, _, _, _ => by simp [MD.setAll]
  | _ :: _, [], _, _, _ => by simp [MD.setAll]
  | i :: is, v :: vs, σ, j, h => by
    show (MD.setAll (σ.set i (some v)) is vs)[j]? = _
    rw [setAll_get is vs _ j (fun z => h (List.mem_cons_of_mem _ z)), List.getElem?_set, if_neg (fun z => h (by rw [z]; exact List.mem_cons_self))]
theorem wipe_setAll (σ : L2.St) (is : List Nat) (vs : List V) : L2.wipe (MD.setAll (L2.wipe σ is) is vs) is = L2.wipe σ is := by
  apply List.ext_getElem?
  intro j
  rw [wipe_get, wipe_get, setAll_len, L2.wipe_length]
  by_cases h : j ∈ is
  · simp [h]
  · simp only [h, if_false]
    rw [setAll_get is vs _ j h, wipe_get]
    simp [h]

/-! ### what a for or a comprehension goes over -/
def Walk (K : PySem.W.Frag) (J : It) (B : Hp) (l : List D) : Prop := ∀ (i : Nat) (M : Msk) (H : Hp), Same B (hid M H) → Dom M H →
  (∀ d, l[i]? = some d → J.go i H ∧ ∀ x H', J.yld i H x H' → Same H H' ∧ Dp K (hid M H') x d) ∧ (l.length ≤ i → J.stop i H)
abbrev MI := Ev → Option (Bool × List D)
def WM.of (W : WM) (c : Bool) : Msk := if c = true then W.w else W.z
def tMI (K : PySem.W.Frag) (m : MI) : TI := fun σ H Q => ∃ E W c l, Held K H W σ E ∧ m E = some (c, l) ∧ ∀ J H', Same H H' → Walk K J (hid (W.of c) H') l → Q J H'
theorem pi_imp {X : Cx} {tg e : Expr} {t t' : TI} (h : PI X tg e t) (i : ∀ σ H Q, t' σ H Q → t σ H Q) : PI X tg e t' := fun pins s σ H Q I q => h pins s σ H Q I (i σ H Q q)
section
variable {X : Cx} {K : PySem.W.Frag} {e tg : Expr} {m ma mb : ME} {n : MA} {pos p : Pos} {es : List Expr}
def mIL (m : ME) : MI := fun E => (m E).bind fun r => match r.d with | .list l => some (r.cl, l) | _ => none
theorem walk_list {H1 : Hp} {B : Hp} {a : Addr} {xs : List V} {l : List D} (h1 : SqL K B a xs) (h2 : DpAll K B xs l) : Walk K (Itl K a) B l := by
  intro i M H e _
  have hs : SqL K H a xs := hid_sub.seq (e.seq h1)
  have hs' : SqL K (hid M H) a xs := e.seq h1
  refine ⟨fun d hd => ?_, fun hi => ⟨xs, hs, by rw [DpAll_len h2]; exact hi⟩⟩
  obtain ⟨v, hv, dv⟩ := DpAll_get h2 hd
  refine ⟨⟨xs, v, hs, hv⟩, fun x H' y => ?_⟩
  obtain ⟨e1, hy⟩ := y
  subst e1
  have := hy xs hs
  rw [hv] at this
  cases this
  exact ⟨Same.refl _, Dpm dv e⟩
theorem m_ilist (h : PE X e (tM X.K m)) : PI X tg e (tMI X.K (mIL m)) := pi_imp (pi_list h) fun σ H Q ⟨E, W, c, l, hH, hm, k⟩ => by
  obtain ⟨r, ea, hm⟩ := bindSome hm
  split at hm
  · rename_i l' el
    cases hm
    refine ⟨E, W, r, hH, ea, fun x H1 s1 r1 f1 => ?_⟩
    cases hc : r.cl with
    | true =>
      rw [hc] at k
      have q := r1.cln hc
      rw [el] at q
      obtain ⟨a, xs, rfl, h1, h2⟩ := Dp_list q
      exact ⟨a, rfl, ⟨xs, hid_sub.seq h1⟩, k _ H1 s1 (walk_list (H1 := H1) h1 h2)⟩
    | false =>
      rw [hc] at k
      have q := r1.dz
      rw [el] at q
      obtain ⟨a, xs, rfl, h1, h2⟩ := Dp_list q
      exact ⟨a, rfl, ⟨xs, hid_sub.seq h1⟩, k _ H1 s1 (walk_list (H1 := H1) h1 h2)⟩
  · cases hm
def rng (lo : Int) (n : Nat) : List D := (List.range n).map fun (i : Nat) => D.int (lo + i)
theorem walk_rng {B : Hp} (lo : Int) (n : Nat) : Walk K (Itr lo n) B (rng lo n) := by
  intro i M H e _
  refine ⟨fun d hd => ?_, fun hi => show n ≤ i by simpa [rng] using hi⟩
  unfold rng at hd
  rw [List.getElem?_map] at hd
  have hi : i < n := by
    cases q : (List.range n)[i]? with
    | none => rw [q] at hd; cases hd
    | some z => have := (List.getElem?_eq_some_iff.mp q).1; simpa using this
  have hz : (List.range n)[i]? = some i := by simp [hi]
  rw [hz] at hd
  cases hd
  refine ⟨hi, fun x H' y => ?_⟩
  obtain ⟨e1, e2⟩ := y
  subst e1 e2
  exact ⟨Same.refl _, Dp.int _⟩
def big62 (j : Int) : Bool := decide (-(2 ^ 62) ≤ j ∧ j < 2 ^ 62)
def mIR1 (n : MA) : MI := fun E => (n E).bind fun rs => match rs with
  | [x] => (match x.d with | .int j => if big62 j then some (true, rng 0 j.toNat) else none | _ => none)
  | _ => none
theorem m_irange1 {a : Expr} (hm : X.mg "range" = none) (ha : PA X [a] (tMA X.K n)) (hg : Gl X "range" := by rfl) (hs : starEach [a] X.env = [(false, eval a X.env)] := by rfl) : PI X tg (.Call (.Name "range" p) [a] [] pos) (tMI X.K (mIR1 n)) :=
  pi_imp (pi_range1 hg hm ha hs) fun σ H Q ⟨E, W, c, l, hH, hm, k⟩ => by
    obtain ⟨rs, ea, hm⟩ := bindSome hm
    split at hm
    · rename_i x
      split at hm
      · rename_i j ej
        split at hm
        · rename_i hb
          cases hm
          have hb := of_decide_eq_true hb
          refine ⟨E, W, _, hH, ea, fun vs H1 s1 r1 => ?_⟩
          cases r1 with
          | cons h t =>
            cases t
            have q := h.dp
            rw [ej] at q
            cases Dp_int q
            exact ⟨j, rfl, hb.1, hb.2, k _ H1 s1 (walk_rng _ _)⟩
        · cases hm
      · cases hm
    · cases hm
def mIR2 (n : MA) : MI := fun E => (n E).bind fun rs => match rs with
  | [x, y] => (match x.d, y.d with | .int i, .int j => if big62 i && big62 j then some (true, rng i (j - i).toNat) else none | _, _ => none)
  | _ => none
theorem m_irange2 {a b : Expr} (hm : X.mg "range" = none) (ha : PA X [a, b] (tMA X.K n)) (hg : Gl X "range" := by rfl) (hs : starEach [a, b] X.env = [(false, eval a X.env), (false, eval b X.env)] := by rfl) (hs2 : starEach [b] X.env = [(false, eval b X.env)] := by rfl) :
    PI X tg (.Call (.Name "range" p) [a, b] [] pos) (tMI X.K (mIR2 n)) :=
  pi_imp (pi_range2 hg hm ha hs hs2) fun σ H Q ⟨E, W, c, l, hH, hm, k⟩ => by
    obtain ⟨rs, ea, hm⟩ := bindSome hm
    split at hm
    · rename_i x y
      split at hm
      · rename_i i j ei ej
        split at hm
        · rename_i hb
          cases hm
          rw [Bool.and_eq_true] at hb
          have hb1 := of_decide_eq_true hb.1
          have hb2 := of_decide_eq_true hb.2
          refine ⟨E, W, _, hH, ea, fun vs H1 s1 r1 => ?_⟩
          cases r1 with
          | cons h t =>
            cases t with
            | cons h' t =>
              cases t
              have q := h.dp
              have q' := h'.dp
              rw [ei] at q
              rw [ej] at q'
              cases Dp_int q
              cases Dp_int q'
              exact ⟨i, j, rfl, ⟨hb1.1, hb1.2, hb2.1, hb2.2⟩, k _ H1 s1 (walk_rng _ _)⟩
        · cases hm
      · cases hm
    · cases hm
def zips : List D → List D → List D
  | x :: xs, y :: ys => .tuple [x, y] :: zips xs ys
  | _, _ => []
theorem zips_get : ∀ {xs ys : List D} {i : Nat} {d : D}, (zips xs ys)[i]? = some d → ∃ x y, d = .tuple [x, y] ∧ xs[i]? = some x ∧ ys[i]? = some y
  | [], _, _, _, h => by simp [zips] at h
  | _ :: _, [], _, _, h => by simp [zips] at h
  | x :: xs, y :: ys, 0, d, h => by simp [zips] at h; exact ⟨x, y, h.symm, rfl, rfl⟩
  | x :: xs, y :: ys, i + 1, d, h => by
    have h : (zips xs ys)[i]? = some d := by simpa [zips] using h
    obtain ⟨a, b, e1, e2, e3⟩ := zips_get h
    exact ⟨a, b, e1, by simpa using e2, by simpa using e3⟩
theorem zips_len : ∀ {xs ys : List D}, (zips xs ys).length = min xs.length ys.length
  | [], _ => by simp [zips]
  | _ :: _, [] => by simp [zips]
  | _ :: xs, _ :: ys => by simp [zips, zips_len (xs := xs) (ys := ys)]
def mIZ (n : MA) : MI := fun E => (n E).bind fun rs => match rs with
  | [x, y] => (match x.d, y.d with | .list l, .list l' => some (x.cl && y.cl, zips l l') | _, _ => none)
  | _ => none
theorem walk_zip {B : Hp} {a b : Addr} {xs ys : List V} {l l' : List D} (h1 : SqL K B a xs) (h2 : DpAll K B xs l) (g1 : SqL K B b ys) (g2 : DpAll K B ys l') : Walk K (Itz K a b) B (zips l l') := by
  intro i M H e hM
  have hs : SqL K H a xs := hid_sub.seq (e.seq h1)
  have gs : SqL K H b ys := hid_sub.seq (e.seq g1)
  refine ⟨fun d hd => ?_, fun hi => ⟨xs, ys, hs, gs, ?_⟩⟩
  · obtain ⟨dx, dy, rfl, ex, ey⟩ := zips_get hd
    obtain ⟨v, hv, dv⟩ := DpAll_get h2 ex
    obtain ⟨v', hv', dv'⟩ := DpAll_get g2 ey
    refine ⟨⟨xs, ys, v, v', hs, gs, hv, hv'⟩, fun z H' y => ?_⟩
    obtain ⟨T, x1, y1, e1, hT, e2, q1, q2⟩ := y
    subst e1 e2
    have z1 := q1 xs hs
    have z2 := q2 ys gs
    rw [hv] at z1
    rw [hv'] at z2
    cases z1
    cases z2
    have sn : Same (hid M H) (hid M (upd H T (.tup [v, v']))) := hid_same (same_new hT)
    exact ⟨same_new hT, Dp.tup (.inl (.inl (hid_eq.mpr ⟨hM.free hT, upd_same⟩))) (.cons (Dpm dv (e.trans sn)) (.cons (Dpm dv' (e.trans sn)) .nil))⟩
  · rw [zips_len, ← DpAll_len h2, ← DpAll_len g2] at hi
    omega
theorem m_izip {a b : Expr} {elts : List Expr} {kk : Nat} {tpos : Pos} (hm : X.mg "zip" = none) (ha : PA X [a, b] (tMA X.K n)) (hg : Gl X "zip" := by rfl) (hs : starEach [a, b] X.env = (false, eval a X.env) :: starEach [b] X.env := by rfl) (hpl : (backTo pos (starEach [b] X.env)).any (·.1) = false := by rfl) :
    PI X (.Tuple elts kk tpos) (.Call (.Name "zip" p) [a, b] [] pos) (tMI X.K (mIZ n)) :=
  pi_imp (pi_zip hg hm ha hs hpl) fun σ H Q ⟨E, W, c, l, hH, hm, k⟩ => by
    obtain ⟨rs, ea, hm⟩ := bindSome hm
    split at hm
    · rename_i x y
      split at hm
      · rename_i l1 l2 e1 e2
        cases hm
        refine ⟨E, W, _, hH, ea, fun vs H1 s1 r1 => ?_⟩
        cases r1 with
        | cons h t =>
          cases t with
          | cons h' t =>
            cases t
            obtain ⟨a', xs, rfl, h1, h2, h3⟩ := h.seqL e1
            obtain ⟨b', ys, rfl, g1, g2, g3⟩ := h'.seqL e2
            refine ⟨a', b', xs, ys, rfl, h1, g1, k _ H1 s1 ?_⟩
            cases hc : (x.cl && y.cl) with
            | true =>
              rw [Bool.and_eq_true] at hc
              have q := h.cln hc.1
              have q' := h'.cln hc.2
              rw [e1] at q
              rw [e2] at q'
              obtain ⟨_, _, z1, z2, z3⟩ := Dp_list q
              obtain ⟨_, _, w1, w2, w3⟩ := Dp_list q'
              cases z1
              cases w1
              exact walk_zip z2 z3 w2 w3
            | false =>
              have q := h.dz
              have q' := h'.dz
              rw [e1] at q
              rw [e2] at q'
              obtain ⟨_, _, z1, z2, z3⟩ := Dp_list q
              obtain ⟨_, _, w1, w2, w3⟩ := Dp_list q'
              cases z1
              cases w1
              exact walk_zip z2 z3 w2 w3
      · cases hm
    · cases hm

/-! ### targets -/
def TgOk (K : PySem.W.Frag) (g : TG) (is : List Nat) (pick : D → Option (List D)) : Prop :=
  ∀ (M : Msk) (v : V) (d : D) (ds : List D) (σ : L2.St) (H : Hp) (Q : L2.St → Hp → Prop), Dp K (hid M H) v d → pick d = some ds → (∀ vs, DpAll K (hid M H) vs ds → Q (MD.setAll σ is vs) H) → g v σ H Q
def pick1 : D → Option (List D) := fun d => some [d]
theorem tg1 (i : Nat) : TgOk K (gName i) [i] pick1 := fun M v d ds σ H Q h e k => by
  cases e
  exact k [v] (.cons h .nil)
def pick2 : D → Option (List D) := fun d => match d with | .tuple [x, y] => some [x, y] | _ => none
theorem tg2 (i j : Nat) : TgOk K (gTup K 2 (gCons (gName i) (gCons (gName j) gNil))) [i, j] pick2 := fun M v d ds σ H Q h e k => by
  unfold pick2 at e
  split at e
  · cases e
    obtain ⟨a, xs, rfl, h1, h2⟩ := Dp_tup h
    cases h2 with
    | cons d1 t =>
      cases t with
      | cons d2 t =>
        cases t
        exact ⟨a, _, rfl, same_tup hid_sub h1, rfl, _, _, rfl, _, _, rfl, rfl, k _ (.cons d1 (.cons d2 .nil))⟩
  · cases e

/-! ### comprehensions -/
def lcD (is : List Nat) (pick : D → Option (List D)) (c : Bool) (mt : MT) (me : ME) (E0 : Ev) : List D → Option (List D)
  | [] => some []
  | d :: ds => if c || flat d then (pick d).bind fun qs => (mt (setAllE E0 is qs)).bind fun b => if b = true then (me (setAllE E0 is qs)).bind fun x => x.pro.bind fun y => (lcD is pick c mt me E0 ds).bind fun ys => some (y :: ys) else lcD is pick c mt me E0 ds else none
def mLc (is : List Nat) (pick : D → Option (List D)) (mi : MI) (mt : MT) (me : ME) : ME := fun E => (mi E).bind fun cl => if cl.2.length ≤ lim then (lcD is pick cl.1 mt me (wipeE E is) cl.2).map R.o else none
theorem Held.inj_of {H H' : Hp} {W W' : WM} {σ : L2.St} {E : Ev} (h : Held K H W σ E) (own : ∀ (i : Nat) (T : Tr), E[i]? = some (some (.t T)) → ∀ x as, σ[i]? = some (some x) → Lk K H W.w x as T → Lk K H' W'.w x as T) :
    ∀ (i j : Nat) (T T' : Tr) (x x' : V) (as bs : List Addr) (M M' : Msk) (a : Addr), E[i]? = some (some (.t T)) → E[j]? = some (some (.t T')) → σ[i]? = some (some x) → σ[j]? = some (some x') → Lk K H' M x as T → Lk K H' M' x' bs T' → a ∈ as → a ∈ bs → i = j := by
  intro i j T T' x x' as bs M M' a e1 e2 q1 q2 l1 l2 ha hb
  obtain ⟨y, as', g1, g2, g3, g4⟩ := h.own i T e1
  obtain ⟨y', bs', k1, k2, k3, k4⟩ := h.own j T' e2
  rw [q1] at g1
  cases g1
  rw [q2] at k1
  cases k1
  have z1 := lk_det T _ _ _ l1 (own i T e1 _ _ q1 g2)
  have z2 := lk_det T' _ _ _ l2 (own j T' e2 _ _ q2 k2)
  subst z1 z2
  exact h.inj i j T T' _ _ _ _ _ _ a e1 e2 q1 q2 g2 k2 ha hb
theorem Held.hide {H : Hp} {W : WM} {σ : L2.St} {E : Ev} (h : Held K H W σ E) {D : Addr} (hD : H D = none) (vs : List V) : Held K (upd H D (.lst vs)) (W.add D) σ E := by
  have sn := same_new (o := .lst vs) hD
  have hw : (W.add D).w = adm D W.w := W.add_w D
  have sm : Same (hid W.w H) (hid (W.add D).w (upd H D (.lst vs))) := by rw [hw]; exact hid_new hD
  refine ⟨fun a ha => ?_, h.len, fun i d q => let ⟨x, h1, h2⟩ := h.val i d q; ⟨x, h1, Dpm h2 sm⟩, fun i T q => ?_, h.inj_of fun i T q x as _ l => lk_mono sn sm T x as l⟩
  · rw [hw] at ha
    unfold adm at ha
    rw [Bool.or_eq_true, decide_eq_true_eq] at ha
    rcases ha with ha | ha
    · obtain ⟨xs, e⟩ := h.dom a ha
      exact ⟨xs, sn _ _ e⟩
    · subst ha; exact ⟨vs, upd_same⟩
  · obtain ⟨x, as, h1, h2, h3, h4⟩ := h.own i T q
    refine ⟨x, as, h1, lk_mono sn sm T x as h2, h3, fun a ha => ⟨(h4 a ha).1, ?_⟩⟩
    obtain ⟨xs, e⟩ := lk_lst T x as h2 a ha
    show (W.z a || decide (a = D)) = false
    rw [(h4 a ha).2, decide_eq_false (ne_of_none e hD)]
    rfl
theorem hid_in {W : Msk} {H : Hp} {D : Addr} {o : HO} (h : W D = true) : hid W (upd H D o) = hid W H := by
  funext b
  unfold hid
  by_cases e : W b = true
  · rw [if_pos e, if_pos e]
  · rw [if_neg e, if_neg e]
    exact upd_ne (fun z => e (by rw [z]; exact h))
mutual
theorem lk_away {H : Hp} {M : Msk} {D : Addr} {xs ys : List V} (hD : H D = some (.lst xs)) (hM : M D = true) : ∀ (T : Tr) (v : V) (as : List Addr), D ∉ as → Lk K H M v as T → Lk K (upd H D (.lst ys)) M v as T
  | .leaf d, _, _, _, h => by cases h with | leaf h => exact .leaf (by rw [hid_in hM]; exact h)
  | .lst l, _, _, n, h => by
    cases h with
    | lst h1 h2 => exact .lst (by rw [upd_ne (fun z => n (by rw [z]; exact List.mem_cons_self))]; exact h1) (lks_away hD hM l _ _ (fun z => n (List.mem_cons_of_mem _ z)) h2)
  | .tup l, _, _, n, h => by
    cases h with
    | tup h1 h2 => exact .tup (by rw [upd_ne (fun z => by rw [z, hD] at h1; cases h1)]; exact h1) (lks_away hD hM l _ _ n h2)
  | .obj C ns l, _, _, n, h => by
    cases h with
    | obj h1 h2 => exact .obj (by rw [upd_ne (fun z => by rw [z, hD] at h1; cases h1)]; exact h1) (lks_away hD hM l _ _ n h2)
theorem lks_away {H : Hp} {M : Msk} {D : Addr} {xs ys : List V} (hD : H D = some (.lst xs)) (hM : M D = true) : ∀ (l : List Tr) (vs : List V) (as : List Addr), D ∉ as → Lks K H M vs as l → Lks K (upd H D (.lst ys)) M vs as l
  | [], _, _, _, h => by cases h; exact .nil
  | t :: ts, _, _, n, h => by
    cases h with
    | cons h1 h2 => exact .cons (lk_away hD hM t _ _ (fun z => n (List.mem_append_left _ z)) h1) (lks_away hD hM ts _ _ (fun z => n (List.mem_append_right _ z)) h2)
end
theorem Held.updz {H : Hp} {W : WM} {σ : L2.St} {E : Ev} (h : Held K H W σ E) {D : Addr} (hD : W.z D = true) (vs : List V) : Held K (upd H D (.lst vs)) W σ E := by
  have eq : hid W.w (upd H D (.lst vs)) = hid W.w H := hid_in (WM.zw D hD)
  obtain ⟨xs, eD⟩ := h.dom D (WM.zw D hD)
  have away : ∀ (i : Nat) (T : Tr), E[i]? = some (some (.t T)) → ∀ x as, σ[i]? = some (some x) → Lk K H W.w x as T → Lk K (upd H D (.lst vs)) W.w x as T := fun i T q x as q2 l => by
    obtain ⟨y, as', g1, g2, g3, g4⟩ := h.own i T q
    rw [q2] at g1
    cases g1
    have z := lk_det T _ _ _ l g2
    subst z
    exact lk_away eD (WM.zw D hD) T x as (fun hm => by rw [(g4 D hm).2] at hD; cases hD) l
  refine ⟨fun a ha => ?_, h.len, fun i d q => by rw [eq]; exact h.val i d q, fun i T q => ?_, h.inj_of away⟩
  · by_cases e : a = D
    · subst e; exact ⟨vs, upd_same⟩
    · rw [upd_ne e]; exact h.dom a ha
  · obtain ⟨x, as, h1, h2, h3, h4⟩ := h.own i T q
    exact ⟨x, as, h1, away i T q x as h1 h2, h3, h4⟩
theorem adm_self {p : Addr} {W : Msk} : adm p W p = true := by unfold adm; simp
theorem tLc_of {is : List Nat} {pick : D → Option (List D)} {mi : MI} {mt : MT} {me : ME} {g : TG} (hg : TgOk K g is pick) : ∀ σ H Q, tM K (mLc is pick mi mt me) σ H Q → tLc (tMI K mi) g (tMT K mt) (tM K me) is σ H Q := fun σ H Q ⟨E, W, rc, hH, hm, k⟩ => by
  obtain ⟨⟨c, l⟩, ei, hm⟩ := bindSome hm
  split at hm
  · rename_i hlim
    obtain ⟨res, er, e2⟩ := mapSome hm
    subst e2
    have hlim : l.length ≤ lim := hlim
    refine ⟨E, W, c, l, hH, ei, fun J H1 s1 hw D hD => ?_⟩
    have hH1 := hH.grow s1
    have hD0 : W.w D = false := hH1.dom.free hD
    have zD : (W.add D).z D = true := adm_self
    -- the turns: the list so far, and what is to come
    let INV : Nat → Hp → Prop := fun i H2 => Same H1 H2 ∧ Held K H2 (W.add D) (L2.wipe σ is) (wipeE E is) ∧ ∃ acc ad rest, H2 D = some (.lst acc) ∧ DpAll K (hid (adm D W.w) H2) acc ad ∧ lcD is pick c mt me (wipeE E is) (l.drop i) = some rest ∧ ad ++ rest = res ∧ acc.length ≤ i
    refine ⟨fun i m H2 => m = l.length - i ∧ i ≤ l.length ∧ INV i H2, ⟨l.length, by simp, Nat.zero_le _, same_new hD, (hH1.hide hD []).wipe is, [], [], res, upd_same, .nil, by simpa using er, rfl, Nat.le_refl _⟩, ?_⟩
    rintro i mm H2 ⟨rfl, hi, S, hh, acc, ad, rest, eD, da, el, ea, hl⟩
    have hM : Dom (adm D (W.of c)) H2 := fun a ha => by
      have q : (W.add D).w a = true := by
        rw [W.add_w D]
        unfold adm at ha ⊢
        rw [Bool.or_eq_true] at ha ⊢
        rcases ha with ha | ha
        · left
          unfold WM.of at ha
          cases c with
          | true => exact ha
          | false => exact WM.zw a ha
        · exact .inr ha
      exact hh.dom a q
    have hB : Same (hid (W.of c) H1) (hid (adm D (W.of c)) H2) := fun b o e => by
      rw [hid_eq] at e ⊢
      refine ⟨?_, S _ _ e.2⟩
      unfold adm
      rw [e.1, decide_eq_false (ne_of_none e.2 hD)]
      rfl
    obtain ⟨hgo, hst⟩ := hw i _ H2 hB hM
    by_cases hlt : i < l.length
    · have hd : l[i]? = some l[i] := by simp [hlt]
      have edrop : l.drop i = l[i] :: l.drop (i + 1) := (List.drop_eq_getElem_cons hlt)
      rw [edrop] at el
      obtain ⟨g1, g2⟩ := hgo _ hd
      unfold lcD at el
      split at el
      · rename_i hcf
        obtain ⟨qs, ep, el⟩ := bindSome el
        obtain ⟨bt, et, el⟩ := bindSome el
        refine .inr ⟨g1, fun H' => INV (i + 1) H', fun H' p' => ⟨l.length - (i + 1), by omega, rfl, hlt, p'⟩, fun x H3 y => ?_⟩
        obtain ⟨s3, dx⟩ := g2 x H3 y
        have hh3 := hh.grow s3
        have dx' : Dp K (hid (W.add D).w H3) x l[i] := by
          rw [W.add_w D]
          cases c with
          | true => exact dx
          | false =>
            have := hh3.dom
            rw [W.add_w D] at this
            exact dp_flat this _ _ (by simpa using hcf) (Dpm dx hid_sub)
        refine hg (W.add D).w x _ qs _ H3 _ dx' ep fun vs dvs => ?_
        have hh4 := hh3.setAll (is := is) dvs
        refine ⟨wipe_setAll σ is vs, _, W.add D, bt, hh4, et, fun H4 s4 => ?_⟩
        cases bt with
        | false =>
          rw [if_neg Bool.false_ne_true] at el ⊢
          exact ⟨(S.trans s3).trans s4, (hh3.grow s4), acc, ad, rest, s4 _ _ (s3 _ _ eD), Dpam da (hid_same (s3.trans s4)), el, ea, Nat.le_succ_of_le hl⟩
        | true =>
          rw [if_pos rfl] at el ⊢
          obtain ⟨rx, ex, el⟩ := bindSome el
          obtain ⟨yd, ey, el⟩ := bindSome el
          obtain ⟨rest', el', e5⟩ := bindSome el
          cases e5
          refine ⟨_, W.add D, rx, hh4.grow s4, ex, fun yv H5 s5 r5 f5 => ?_⟩
          have hh5 := (hh3.grow s4).grow s5
          have S5 : Same H2 H5 := (s3.trans s4).trans s5
          have dy := r5.pro (hh5.dom) ey
          rw [W.add_w D] at dy
          have eD5 := S5 _ _ eD
          refine ⟨acc, eD5, Nat.lt_of_le_of_lt hl (Nat.lt_of_lt_of_le hlt (Nat.le_trans hlim lim_line)), ?_, hh5.updz zD _, acc ++ [yv], ad ++ [yd], rest', upd_same, ?_, el', by rw [List.append_assoc]; exact ea, by simp; exact hl⟩
          · intro b o e
            rw [upd_ne (ne_of_none e hD)]
            exact S5 _ _ (S _ _ e)
          · rw [hid_in adm_self]
            exact DpAll_app (Dpam da (hid_same S5)) (.cons dy .nil)
      · cases el
    · have e : i = l.length := by omega
      subst e
      rw [List.drop_length] at el
      cases el
      rw [List.append_nil] at ea
      subst ea
      exact .inl ⟨hst (Nat.le_refl _), k _ H2 (s1.trans S) ⟨(hH1.grow S).dom, [D], .lst eD (lks_fl (by rw [adms_one]; exact da)), by simp, fun a ha => by cases List.mem_singleton.mp ha; exact hD0⟩ (rf_o (s1.free hD))⟩
  · cases hm
theorem pts_imp {ifs : List Expr} {t t' : TT} (h : PTs X ifs t) (i : ∀ σ H Q, t' σ H Q → t σ H Q) : PTs X ifs t' := fun pins s σ H Q I q => h pins s σ H Q I (i σ H Q q)
def mYes : MT := fun _ => some true
theorem m_pts0 : PTs X [] (tMT X.K mYes) := pts_imp pts_nil fun σ H Q ⟨E, W, b, hH, hm, k⟩ => by cases hm; exact k H (Same.refl H)
theorem m_lc {elt iter : Expr} {ifs : List Expr} {scope : Scope} {own : List (Str × Nat)} {mi : MI} {mt : MT} {me : ME} {g : TG} {pick : D → Option (List D)} (hc : X.calm = true) (hN : X.N.Nodup) (ht' : TgOk X.K g (own.map (·.2)) pick) (hi : PI X tg iter (tMI X.K mi)) (ok : BlkOk X.N X.env.scope scope own)
    (hg : ∀ (s : Shared) (H : Hp) (C : Addr) (cl : List (Str × Addr)) (fp : List Addr), PG (X.blk s H scope (compEnvC scope cl C X.env) fp) tg g) (ht : ∀ (s : Shared) (H : Hp) (C : Addr) (cl : List (Str × Addr)) (fp : List Addr), PTs (X.blk s H scope (compEnvC scope cl C X.env) fp) ifs (tMT X.K mt))
    (he : ∀ (s : Shared) (H : Hp) (C : Addr) (cl : List (Str × Addr)) (fp : List Addr), PE (X.blk s H scope (compEnvC scope cl C X.env) fp) elt (tM X.K me)) (hs : ∀ x, foldedSetIterable iter X.env x = pure x := by intro _; rfl) :
    PE X (.ListComp elt [⟨tg, iter, ifs, 0⟩] scope pos) (tM X.K (mLc (own.map (·.2)) pick mi mt me)) :=
  pe_imp (pe_lc hc hN hi ok hg ht he hs) (tLc_of ht')
end
end MD

namespace MD
open PySem PySem.Spec L2

/-! ### statements -/
inductive Out where
  | nx (E : Ev)
  | bk (E : Ev)
  | ct (E : Ev)
  | rt (r : R)
abbrev MS := Ev → Option Out
/-- nothing but own lists was changed -/
def Fr (f : Bool) (H : Hp) (O : Msk) (H' : Hp) (O' : Msk) : Prop := (∀ a o, H a = some o → O a = false → H' a = some o ∧ O' a = false) ∧ (f = true → Same H H' ∧ O' = O)
theorem Fr.refl {f : Bool} {H : Hp} {O : Msk} : Fr f H O H O := ⟨fun _ _ h z => ⟨h, z⟩, fun _ => ⟨Same.refl H, rfl⟩⟩
theorem Fr.of {f : Bool} {H H' : Hp} {O : Msk} (s : Same H H') : Fr f H O H' O := ⟨fun a o h z => ⟨s a o h, z⟩, fun _ => ⟨s, rfl⟩⟩
theorem Fr.trans {f : Bool} {H H1 H2 : Hp} {O O1 O2 : Msk} (a : Fr f H O H1 O1) (b : Fr f H1 O1 H2 O2) : Fr f H O H2 O2 := ⟨fun p o h z => let ⟨h1, z1⟩ := a.1 p o h z; b.1 p o h1 z1, fun hf => let ⟨s1, e1⟩ := a.2 hf; let ⟨s2, e2⟩ := b.2 hf; ⟨s1.trans s2, e2.trans e1⟩⟩
theorem Fr.weak {f : Bool} {H H' : Hp} {O O' : Msk} (a : Fr f H O H' O') : Fr false H O H' O' := ⟨a.1, fun h => by cases h⟩
def RG (H : Hp) (O : Msk) (H' : Hp) (v : V) : R → Prop
  | .t T => ∀ K M as, Lk K H' M v as T → ∀ a ∈ as, ∀ o, H a = some o → O a = true
  | _ => True
theorem RG.back {f : Bool} {H H1 H' : Hp} {O O1 : Msk} {v : V} {r : R} (a : Fr f H O H1 O1) (h : RG H1 O1 H' v r) : RG H O H' v r := by
  cases r with
  | c d => trivial
  | u d => trivial
  | t T =>
    refine fun K M as l p hp o e => ?_
    cases z : O p with
    | true => rfl
    | false => obtain ⟨e1, z1⟩ := a.1 p o e z; rw [h K M as l p hp o e1] at z1; cases z1
def EndsK (K : PySem.W.Frag) (f : Bool) (D : Ends) (Z : Msk) (H : Hp) (O : Msk) : Out → Prop
  | .nx E' => ∀ σ' H' O', Held K H' ⟨Z, O'⟩ σ' E' → Fr f H O H' O' → D.nx σ' H'
  | .bk E' => ∀ σ' H' O', Held K H' ⟨Z, O'⟩ σ' E' → Fr f H O H' O' → D.bk σ' H'
  | .ct E' => ∀ σ' H' O', Held K H' ⟨Z, O'⟩ σ' E' → Fr f H O H' O' → D.ct σ' H'
  | .rt r => ∀ v H' O', Fr f H O H' O' → RA K H' ⟨Z, noM⟩ v r → RG H O H' v r → D.rt v H'
def sM (K : PySem.W.Frag) (f : Bool) (m : MS) : TS := fun D σ H => ∃ E W o, Held K H W σ E ∧ m E = some o ∧ EndsK K f D W.z H W.o o
theorem EndsK.later {K : PySem.W.Frag} {f : Bool} {D : Ends} {Z : Msk} {H H1 : Hp} {O O1 : Msk} {o : Out} (a : Fr f H O H1 O1) (h : EndsK K f D Z H O o) : EndsK K f D Z H1 O1 o := by
  cases o with
  | nx E => exact fun σ' H' O' hh f => h σ' H' O' hh (a.trans f)
  | bk E => exact fun σ' H' O' hh f => h σ' H' O' hh (a.trans f)
  | ct E => exact fun σ' H' O' hh f => h σ' H' O' hh (a.trans f)
  | rt r => exact fun v H' O' f q g => h v H' O' (a.trans f) q (g.back a)

section
variable {X : Cx} {K : PySem.W.Frag} {ff : Bool} {st : Stmt} {rest : List Stmt} {e : Expr} {m : ME} {n : MA} {s t : MS} {pos : Pos}
def mNext : MS := fun E => some (.nx E)
theorem m_snil : PSs X [] (sM X.K ff mNext) := pss_imp pss_nil fun D σ H ⟨E, W, o, hH, hm, k⟩ => by
  cases hm
  exact k σ H W.o hH Fr.refl
def mSeq (s t : MS) : MS := fun E => (s E).bind fun o => match o with | .nx E' => t E' | o => some o
theorem tSeq_of : ∀ D σ H, sM K ff (mSeq s t) D σ H → tSeq (sM K ff s) (sM K ff t) D σ H := fun D σ H ⟨E, W, o, hH, hm, k⟩ => by
  obtain ⟨o1, e1, hm⟩ := bindSome hm
  refine ⟨E, W, o1, hH, e1, ?_⟩
  cases o1 with
  | nx E1 => exact fun σ' H' O' hh f => ⟨E1, ⟨W.z, O'⟩, o, hh, hm, k.later f⟩
  | bk E1 => cases hm; exact k
  | ct E1 => cases hm; exact k
  | rt r => cases hm; exact k
theorem m_cons (h1 : PS X st (sM X.K ff s)) (h2 : PSs X rest (sM X.K ff t)) : PSs X (st :: rest) (sM X.K ff (mSeq s t)) := pss_imp (pss_cons h1 h2) tSeq_of
theorem m_sone (h1 : PS X st (sM X.K ff s)) : PSs X [st] (sM X.K ff s) := pss_one h1
def mNo : MS := fun _ => none
theorem m_never : PS X st (sM X.K ff mNo) := ps_imp ps_never fun D σ H ⟨E, W, o, hH, hm, k⟩ => by cases hm
def mBrk : MS := fun E => some (.bk E)
def mCnt : MS := fun E => some (.ct E)
def mIfS (c : MT) (s t : MS) : MS := fun E => (c E).bind fun b => if b = true then s E else t E
theorem m_if {c : Expr} {a b : List Stmt} {mc : MT} (hc : PT X c (tMT X.K mc)) (ha : PSs X a (sM X.K ff s)) (hb : PSs X b (sM X.K ff t)) : PS X (.If c a b pos) (sM X.K ff (mIfS mc s t)) := ps_imp (ps_if hc ha hb) fun D σ H ⟨E, W, o, hH, hm, k⟩ => by
  obtain ⟨bb, e1, hm⟩ := bindSome hm
  refine ⟨E, W, bb, hH, e1, fun H1 s1 => ?_⟩
  cases bb with
  | true => rw [if_pos rfl] at hm ⊢; exact ⟨E, W, o, hH.grow s1, hm, k.later (Fr.of s1)⟩
  | false => rw [if_neg Bool.false_ne_true] at hm ⊢; exact ⟨E, W, o, hH.grow s1, hm, k.later (Fr.of s1)⟩
/-- return e -/
def mRet (m : ME) : MS := fun E => (m E).bind fun r => some (.rt r.up)
theorem RA.ret {H' : Hp} {W : WM} {v : V} {r : R} (h : RA K H' W v r) : RA K H' ⟨W.z, noM⟩ v r.up := by
  cases r with
  | c d => show Dp K (hid (WM.mk W.z noM).w H') v d; rw [WM.w0]; exact Dpm h (hid_mono WM.zw)
  | u d => show Dp K (hid (WM.mk W.z noM).w H') v d; rw [WM.w0]; exact h
  | t T =>
    obtain ⟨hd, as, h1, h2, h3⟩ := h
    refine ⟨by rw [WM.w0]; exact fun a ha => hd a (WM.zw a ha), as, ?_, h2, fun a ha => ?_⟩
    · rw [WM.w0]
      refine lk_mono (Same.refl H') (hid_mono fun a ha => ?_) T v as h1
      rcases adms_mem ha with q | q
      · exact adms_le a (WM.zw a q)
      · exact adms_in q
    · rw [WM.w0]
      cases z : W.z a with
      | false => rfl
      | true => have := h3 a ha; rw [WM.zw a z] at this; cases this
theorem m_ret (he : PE X e (tM X.K m)) : PS X (.Return (some e) pos) (sM X.K ff (mRet m)) := ps_imp (ps_ret he) fun D σ H ⟨E, W, o, hH, hm, k⟩ => by
  obtain ⟨r, e1, hm⟩ := bindSome hm
  cases hm
  refine ⟨E, W, r, hH, e1, fun v H1 s1 r1 f1 => k v H1 W.o (Fr.of s1) r1.ret ?_⟩
  cases r with
  | c d => trivial
  | u d => trivial
  | t T => exact fun K M as l a ha o q => by rw [f1 K M as l a ha] at q; cases q
/-- return x, an own thing -/
def mRetO (i : Nat) : MS := fun E => match E[i]? with | some (some (.t T)) => some (.rt (.t T)) | _ => none
theorem own_ret {H : Hp} {W : WM} {v : V} {as : List Addr} {T : Tr} (hd : Dom W.w H) (h2 : Lk K H W.w v as T) (h3 : as.Nodup) (h4 : ∀ a ∈ as, W.o a = true ∧ W.z a = false) : RA K H ⟨W.z, noM⟩ v (.t T) ∧ RG H W.o H v (.t T) := by
  refine ⟨⟨by rw [WM.w0]; exact fun a ha => hd a (WM.zw a ha), as, ?_, h3, fun a ha => by rw [WM.w0]; exact (h4 a ha).2⟩, fun K' M bs l a ha o q => ?_⟩
  · rw [WM.w0]
    refine lk_mono (Same.refl H) (hid_mono fun a ha => ?_) T v as h2
    rcases adms_mem ha with q | q
    · exact WM.zw a q
    · exact WM.ow a (h4 a q).1
  · have z : bs = as := by
      clear h3 h4 ha q
      exact lk_det2 T v bs as l h2
    subst z
    exact (h4 a ha).1
theorem m_reto {i : Nat} (he : PE X e (tVar i)) : PS X (.Return (some e) pos) (sM X.K ff (mRetO i)) := ps_imp (ps_ret he) fun D σ H ⟨E, W, o, hH, hm, k⟩ => by
  unfold mRetO at hm
  split at hm
  · rename_i T el
    cases hm
    obtain ⟨x, as, h1, h2, h3, h4⟩ := hH.own i T el
    obtain ⟨q1, q2⟩ := own_ret hH.dom h2 h3 h4
    exact ⟨x, h1, k _ H W.o Fr.refl q1 q2⟩
  · cases hm
/-- return (x, e), x an own thing -/
def mRetP (i : Nat) (m : ME) : MS := fun E => match E[i]? with
  | some (some (.t T)) => (m E).bind fun r => r.pro.bind fun d => some (.rt (.t (.tup [T, .leaf d])))
  | _ => none
def mRetN : MS := fun _ => some (.rt (.c .none))
/-- x = e -/
def mAsgV (i : Nat) (m : ME) : MS := fun E => (m E).bind fun r => r.pro.bind fun d => some (.nx (E.set i (some (.v d))))
theorem asgV_of {i : Nat} : ∀ D σ H, sM K ff (mAsgV i m) D σ H → tAsg (tM K m) (gName i) D σ H := fun D σ H ⟨E, W, o, hH, hm, k⟩ => by
  obtain ⟨r, e1, hm⟩ := bindSome hm
  obtain ⟨d, e2, hm⟩ := bindSome hm
  cases hm
  refine ⟨E, W, r, hH, e1, fun v H1 s1 r1 f1 => ?_⟩
  have hH1 := hH.grow s1
  exact k _ H1 W.o (hH1.setv i (r1.pro hH1.dom e2)) (Fr.of s1)
theorem Held.seto {H H' : Hp} {W : WM} {σ : L2.St} {E : Ev} {T : Tr} {v : V} (h : Held K H W σ E) (s : Same H H') (i : Nat) (hr : RA K H' W v (.t T)) (hf : RF H H' v (.t T)) : ∃ O', Held K H' ⟨W.z, O'⟩ (σ.set i (some v)) (E.set i (some (.t T))) ∧ Fr false H W.o H' O' := by
  obtain ⟨hd, as, h1, h2, h3⟩ := hr
  have hfr := hf K _ as h1
  have hw : (WM.mk W.z (adms as W.o)).w = adms as W.w := by
    funext a
    show (W.z a || (W.o a || decide (a ∈ as))) = ((W.z a || W.o a) || decide (a ∈ as))
    rw [Bool.or_assoc]
  have sm : Same (hid W.w H) (hid (adms as W.w) H') := fun b o q => by
    rw [hid_eq] at q ⊢
    refine ⟨?_, s _ _ q.2⟩
    unfold adms
    rw [q.1, decide_eq_false (fun hb => by rw [hfr b hb] at q; cases q.2)]
    rfl
  have tr : ∀ (j : Nat) (T' : Tr), E[j]? = some (some (.t T')) → ∀ x bs, σ[j]? = some (some x) → Lk K H W.w x bs T' → Lk K H' (WM.mk W.z (adms as W.o)).w x bs T' := fun j T' e x bs q l => by
    rw [hw]
    exact lk_mono s sm T' x bs l
  refine ⟨adms as W.o, ⟨fun a ha => ?_, by rw [List.length_set, List.length_set]; exact h.len, fun j d' e => ?_, fun j T' e => ?_, fun j j' T1 T2 y y' bs cs M M' a e e' q q' l l' hb hc => ?_⟩, ⟨fun a o q z => ⟨s _ _ q, ?_⟩, fun z => by cases z⟩⟩
  · rw [hw] at ha
    exact adms_dom (hd) h1 a ha
  · rw [hw]
    rw [List.getElem?_set] at e ⊢
    rw [h.len]
    split at e
    · split at e <;> cases e
    · rename_i h1
      rw [if_neg h1]
      obtain ⟨x, q1, q2⟩ := h.val j d' e
      exact ⟨x, q1, Dpm q2 sm⟩
  · rw [hw]
    rw [List.getElem?_set] at e ⊢
    rw [h.len]
    split at e
    · split at e
      · cases e
        rename_i g1 g2
        rw [if_pos g1, if_pos g2]
        refine ⟨v, as, rfl, h1, h2, fun a ha => ⟨adms_in ha, ?_⟩⟩
        cases z : W.z a with
        | false => rfl
        | true => have := h3 a ha; rw [WM.zw a z] at this; cases this
      · cases e
    · rename_i g1
      rw [if_neg g1]
      obtain ⟨x, bs, q1, q2, q3, q4⟩ := h.own j T' e
      exact ⟨x, bs, q1, lk_mono s sm T' x bs q2, q3, fun a ha => ⟨adms_le a (q4 a ha).1, (q4 a ha).2⟩⟩
  · rw [List.getElem?_set] at e e' q q'
    -- an old own thing reaches none of the new lists
    have nof : ∀ (k : Nat) (T3 : Tr) (z : V) (ds : List Addr) (M3 : Msk), E[k]? = some (some (.t T3)) → σ[k]? = some (some z) → Lk K H' M3 z ds T3 → a ∈ ds → a ∈ as → False := fun k T3 z ds M3 z1 z2 z3 hm hm2 => by
      obtain ⟨z', ds', q1, q2, q3, q4⟩ := h.own k T3 z1
      rw [q1] at z2
      cases z2
      have ee := lk_det T3 _ _ _ z3 (tr k T3 z1 _ _ q1 q2)
      subst ee
      obtain ⟨xs, ex⟩ := lk_lst T3 _ _ q2 a hm
      rw [hfr a hm2] at ex
      cases ex
    split at e
    · rename_i z1
      split at e'
      · rename_i z2
        rw [← z1, ← z2]
      · exfalso
        rename_i z2
        rw [if_pos z1] at q
        rw [if_neg z2] at q'
        split at q
        · cases q
          split at e
          · cases e
            exact nof _ _ _ _ _ e' q' l' hc (by rw [lk_det T _ _ _ h1 l]; exact hb)
          · cases e
        · cases q
    · rename_i z1
      split at e'
      · exfalso
        rename_i z2
        rw [if_pos z2] at q'
        rw [if_neg z1] at q
        split at q'
        · cases q'
          split at e'
          · cases e'
            exact nof _ _ _ _ _ e q l hb (by rw [lk_det T _ _ _ h1 l']; exact hc)
          · cases e'
        · cases q'
      · rename_i z2
        rw [if_neg z1] at q
        rw [if_neg z2] at q'
        obtain ⟨w1, w2, g1, g2, g3, g4⟩ := h.own j T1 e
        obtain ⟨u1, u2, k1, k2, k3, k4⟩ := h.own j' T2 e'
        rw [q] at g1
        cases g1
        rw [q'] at k1
        cases k1
        have y1 := lk_det T1 _ _ _ l (tr j T1 e _ _ q g2)
        have y2 := lk_det T2 _ _ _ l' (tr j' T2 e' _ _ q' k2)
        subst y1 y2
        exact h.inj j j' T1 T2 _ _ _ _ _ _ a e e' q q' g2 k2 hb hc
  · unfold adms
    rw [z, decide_eq_false (fun hb => by rw [hfr a hb] at q; cases q)]
    rfl
def rAsgO (i : Nat) (E : Ev) (r : R) : Option Out := match r with | .t T => some (.nx (E.set i (some (.t T)))) | _ => none
def mAsgO (i : Nat) (m : ME) : MS := fun E => (m E).bind (rAsgO i E)
theorem asgO_of {i : Nat} : ∀ D σ H, sM K false (mAsgO i m) D σ H → tAsg (tM K m) (gName i) D σ H := fun D σ H ⟨E, W, o, hH, hm, k⟩ => by
  obtain ⟨r, e1, hm⟩ := bindSome hm
  cases r with
  | c d => cases hm
  | u d => cases hm
  | t T =>
    cases hm
    refine ⟨E, W, .t T, hH, e1, fun v H1 s1 r1 f1 => ?_⟩
    obtain ⟨O', h1, h2⟩ := hH.seto s1 i r1 f1
    exact k _ H1 O' h1 h2
theorem m_set {i : Nat} {x : Str} {pos' : Pos} (hN : X.N.Nodup) (he : PE X e (tM X.K m)) (hi : X.N[i]? = some x := by rfl) (hx : Loc X.env.scope x := by first | exact Or.inl rfl | exact Or.inr rfl) (hs : swapsWith e (some (.Name x pos')) pos.line X.env = pure false := by rfl) (hf : X.fn x = true ∨ X.env.scope.names.lookup x = some .local := by first | exact .inl rfl | exact .inr rfl | assumption) :
    PS X (.Assign [.Name x pos'] e pos) (sM X.K ff (mAsgV i m)) := ps_imp (ps_set hN hi hx he hs hf) asgV_of
theorem m_seto {i : Nat} {x : Str} {pos' : Pos} (hN : X.N.Nodup) (he : PE X e (tM X.K m)) (hi : X.N[i]? = some x := by rfl) (hx : Loc X.env.scope x := by first | exact Or.inl rfl | exact Or.inr rfl) (hs : swapsWith e (some (.Name x pos')) pos.line X.env = pure false := by rfl) (hf : X.fn x = true ∨ X.env.scope.names.lookup x = some .local := by first | exact .inl rfl | exact .inr rfl | assumption) :
    PS X (.Assign [.Name x pos'] e pos) (sM X.K false (mAsgO i m)) := ps_imp (ps_set hN hi hx he hs hf) asgO_of
/-- x = [..], a comprehension -/
theorem m_setLc {i : Nat} {y : Str} {py spos : Pos} {elt tg iter : Expr} {ifs : List Expr} {scope : Scope} {own : List (Str × Nat)} {mi : MI} {mt : MT} {me : ME} {g : TG} {pick : D → Option (List D)} (hc : X.calm = true) (hN : X.N.Nodup) (ht' : TgOk X.K g (own.map (·.2)) pick) (hi : PI X tg iter (tMI X.K mi)) (ok : BlkOk X.N X.env.scope scope own)
    (hg : ∀ (s : Shared) (H : Hp) (C : Addr) (cl : List (Str × Addr)) (fp : List Addr), PG (X.blk s H scope (compEnvC scope cl C X.env) fp) tg g) (ht : ∀ (s : Shared) (H : Hp) (C : Addr) (cl : List (Str × Addr)) (fp : List Addr), PTs (X.blk s H scope (compEnvC scope cl C X.env) fp) ifs (tMT X.K mt))
    (he : ∀ (s : Shared) (H : Hp) (C : Addr) (cl : List (Str × Addr)) (fp : List Addr), PE (X.blk s H scope (compEnvC scope cl C X.env) fp) elt (tM X.K me)) (hy : X.N[i]? = some y := by rfl) (hyl : X.env.scope.names.lookup y = some .local := by rfl) (hsw : swapsWith (.ListComp elt [⟨tg, iter, ifs, 0⟩] scope pos) (some (.Name y py)) spos.line X.env = pure true := by exact sw_true rfl rfl rfl (by decide +kernel)) (hs : ∀ x, foldedSetIterable iter X.env x = pure x := by intro _; rfl) :
    PS X (.Assign [.Name y py] (.ListComp elt [⟨tg, iter, ifs, 0⟩] scope pos) spos) (sM X.K ff (mAsgV i (mLc (own.map (·.2)) pick mi mt me))) :=
  ps_imp (ps_setLc hc hN hy hyl hsw hi ok hg ht he hs) fun D σ H h => tLc_of ht' σ H _ (asgV_of D σ H h)
theorem m_setLcO {i : Nat} {y : Str} {py spos : Pos} {elt tg iter : Expr} {ifs : List Expr} {scope : Scope} {own : List (Str × Nat)} {mi : MI} {mt : MT} {me : ME} {g : TG} {pick : D → Option (List D)} (hc : X.calm = true) (hN : X.N.Nodup) (ht' : TgOk X.K g (own.map (·.2)) pick) (hi : PI X tg iter (tMI X.K mi)) (ok : BlkOk X.N X.env.scope scope own)
    (hg : ∀ (s : Shared) (H : Hp) (C : Addr) (cl : List (Str × Addr)) (fp : List Addr), PG (X.blk s H scope (compEnvC scope cl C X.env) fp) tg g) (ht : ∀ (s : Shared) (H : Hp) (C : Addr) (cl : List (Str × Addr)) (fp : List Addr), PTs (X.blk s H scope (compEnvC scope cl C X.env) fp) ifs (tMT X.K mt))
    (he : ∀ (s : Shared) (H : Hp) (C : Addr) (cl : List (Str × Addr)) (fp : List Addr), PE (X.blk s H scope (compEnvC scope cl C X.env) fp) elt (tM X.K me)) (hy : X.N[i]? = some y := by rfl) (hyl : X.env.scope.names.lookup y = some .local := by rfl) (hsw : swapsWith (.ListComp elt [⟨tg, iter, ifs, 0⟩] scope pos) (some (.Name y py)) spos.line X.env = pure true := by exact sw_true rfl rfl rfl (by decide +kernel)) (hs : ∀ x, foldedSetIterable iter X.env x = pure x := by intro _; rfl) :
    PS X (.Assign [.Name y py] (.ListComp elt [⟨tg, iter, ifs, 0⟩] scope pos) spos) (sM X.K false (mAsgO i (mLc (own.map (·.2)) pick mi mt me))) :=
  ps_imp (ps_setLc hc hN hy hyl hsw hi ok hg ht he hs) fun D σ H h => tLc_of ht' σ H _ (asgO_of D σ H h)
/-- a, b = e, e' (names, written) -/
def mPar (i j : Nat) (n : MA) : MS := fun E => (n E).bind fun rs => (pros rs).bind fun ds => match ds with | [d, d'] => some (.nx ((E.set i (some (.v d))).set j (some (.v d')))) | _ => none
theorem m_par {i j : Nat} {x y : Str} {a b : Expr} {px py pt : Pos} {kt k2 : Nat} {pt2 : Pos} (hc : X.calm = true) (hN : X.N.Nodup) (ha : PA X [a, b] (tMA X.K n)) (hi : X.N[i]? = some x := by rfl) (hj : X.N[j]? = some y := by rfl) (hij : i ≠ j := by decide)
    (hx : X.env.scope.names.lookup x = some .local := by rfl) (hy : X.env.scope.names.lookup y = some .local := by rfl)
    (hw : swappedStores [.Tuple [.Name x px, .Name y py] kt pt] (.Tuple [a, b] k2 pt2) X.env = pure (some [x, y]) := by rfl)
    (hs : swapsWithSole [.Tuple [.Name x px, .Name y py] kt pt] (.Tuple [a, b] k2 pt2) pos.line X.env = pure false := by rfl) :
    PS X (.Assign [.Tuple [.Name x px, .Name y py] kt pt] (.Tuple [a, b] k2 pt2) pos) (sM X.K ff (mPar i j n)) :=
  ps_imp (ps_par hc hN hi hj hij hx hy ha hw hs) fun D σ H ⟨E, W, o, hH, hm, k⟩ => by
    obtain ⟨rs, e1, hm⟩ := bindSome hm
    obtain ⟨ds, e2, hm⟩ := bindSome hm
    split at hm
    · rename_i d d'
      cases hm
      refine ⟨E, W, rs, hH, e1, fun vs H1 s1 r1 => ?_⟩
      have hH1 := hH.grow s1
      have q := r1.pros hH1.dom e2
      cases q with
      | cons q1 t =>
        cases t with
        | cons q2 t =>
          cases t
          exact ⟨_, _, rfl, k _ H1 W.o ((hH1.setv i q1).setv j q2) (Fr.of s1)⟩
    · cases hm
/-- targets = e, any targets -/
def mAsgT (is : List Nat) (pick : D → Option (List D)) (m : ME) : MS := fun E => (m E).bind fun r => r.pro.bind fun d => (pick d).bind fun ds => some (.nx (setAllE E is ds))
theorem m_asgT {tg : Expr} {g : TG} {is : List Nat} {pick : D → Option (List D)} (ht : TgOk X.K g is pick) (he : PE X e (tM X.K m)) (hg : PG X tg g) (hs : swapsWithSole [tg] e pos.line X.env = pure false := by rfl) (hw : swappedStores [tg] e X.env = pure none := by rfl)
    (h1 : (assignEach [tg] X.env).map (·.2) = [assign tg X.env] := by rfl) : PS X (.Assign [tg] e pos) (sM X.K ff (mAsgT is pick m)) := ps_imp (ps_asg he hg hs hw h1) fun D σ H ⟨E, W, o, hH, hm, k⟩ => by
  obtain ⟨r, e1, hm⟩ := bindSome hm
  obtain ⟨d, e2, hm⟩ := bindSome hm
  obtain ⟨ds, e3, hm⟩ := bindSome hm
  cases hm
  refine ⟨E, W, r, hH, e1, fun v H1 s1 r1 f1 => ?_⟩
  have hH1 := hH.grow s1
  exact ht W.w v d ds σ H1 _ (r1.pro hH1.dom e2) e3 fun vs dvs => k _ H1 W.o (hH1.setAll dvs) (Fr.of s1)

/-! own lists change -/
theorem Held.ownl {H : Hp} {W : WM} {σ : L2.St} {E : Ev} {i : Nat} {l : List Tr} (h : Held K H W σ E) (e : E[i]? = some (some (.t (.lst l)))) : ∃ a vs as, σ[i]? = some (some (.ref a)) ∧ H a = some (.lst vs) ∧ Lks K H W.w vs as l ∧ (a :: as).Nodup ∧ ∀ b ∈ a :: as, W.o b = true ∧ W.z b = false := by
  obtain ⟨x, as, h1, h2, h3, h4⟩ := h.own i _ e
  cases h2 with
  | lst q1 q2 => exact ⟨_, _, _, h1, q1, q2, h3, h4⟩
theorem Held.updo {H : Hp} {W : WM} {σ : L2.St} {E : Ev} {i : Nat} {l l' : List Tr} {a : Addr} {vs vs' : List V} {as as' : List Addr} (h : Held K H W σ E) (e : E[i]? = some (some (.t (.lst l)))) (ha : σ[i]? = some (some (.ref a))) (hH : H a = some (.lst vs)) (hl : Lks K H W.w vs as l)
    (hv : Lks K H W.w vs' as' l') (hn : as'.Nodup) (hs : ∀ x ∈ as', x ∈ as) :
    Held K (upd H a (.lst vs')) W σ (E.set i (some (.t (.lst l')))) ∧ Fr false H W.o (upd H a (.lst vs')) W.o := by
  obtain ⟨x, as0, h1, h2, h3, h4⟩ := h.own i _ e
  rw [ha] at h1
  cases h1
  have e0 : as0 = a :: as := lk_det _ _ _ _ h2 (.lst hH hl)
  subst e0
  have oa := h4 a List.mem_cons_self
  have hM : W.w a = true := WM.ow a oa.1
  have eq : hid W.w (upd H a (.lst vs')) = hid W.w H := hid_in hM
  have hi : i < E.length := (List.getElem?_eq_some_iff.mp e).1
  have nas : a ∉ as := (List.nodup_cons.mp h3).1
  have nas' : a ∉ as' := fun z => nas (hs a z)
  have new : Lk K (upd H a (.lst vs')) W.w (.ref a) (a :: as') (.lst l') := .lst upd_same (lks_away hH hM l' _ _ nas' hv)
  have away : ∀ (j : Nat) (T : Tr), i ≠ j → E[j]? = some (some (.t T)) → ∀ x bs, σ[j]? = some (some x) → Lk K H W.w x bs T → Lk K (upd H a (.lst vs')) W.w x bs T := fun j T hij q x bs q2 lk =>
    lk_away hH hM T x bs (fun z => hij (h.inj i j _ T _ _ _ _ _ _ a e q ha q2 (.lst hH hl) lk List.mem_cons_self z)) lk
  refine ⟨⟨fun b hb => ?_, by rw [List.length_set]; exact h.len, fun j d q => ?_, fun j T q => ?_, fun j j' T1 T2 y y' bs cs M M' b q q' z z' lk lk' hb hc => ?_⟩, ⟨fun b o q z => ?_, fun z => by cases z⟩⟩
  · by_cases eb : b = a
    · subst eb; exact ⟨vs', upd_same⟩
    · rw [upd_ne eb]; exact h.dom b hb
  · rw [eq]
    rw [List.getElem?_set] at q
    split at q
    · cases q
    · exact h.val j d q
  · rw [List.getElem?_set] at q
    split at q
    · rename_i hij
      cases q
      subst hij
      refine ⟨.ref a, a :: as', ha, new, List.nodup_cons.mpr ⟨nas', hn⟩, fun b hb => ?_⟩
      rcases List.mem_cons.mp hb with z | z
      · subst z; exact oa
      · exact h4 b (List.mem_cons_of_mem _ (hs b z))
    · rename_i hij
      obtain ⟨x, bs, q1, q2, q3, q4⟩ := h.own j T q
      exact ⟨x, bs, q1, away j T hij q x bs q1 q2, q3, q4⟩
  · -- what an own thing reaches now, it reached before
    have old : ∀ (k : Nat) (T3 : Tr) (w : V) (ds : List Addr) (M3 : Msk), (E.set i (some (.t (.lst l'))))[k]? = some (some (.t T3)) → σ[k]? = some (some w) → Lk K (upd H a (.lst vs')) M3 w ds T3 → b ∈ ds → ∃ T4 ds', E[k]? = some (some (.t T4)) ∧ Lk K H W.w w ds' T4 ∧ b ∈ ds' := fun k T3 w ds M3 y1 y2 y3 y4 => by
      rw [List.getElem?_set] at y1
      split at y1
      · rename_i hik
        subst hik
        cases y1
        rw [ha] at y2
        cases y2
        have ee := lk_det _ _ _ _ y3 new
        subst ee
        refine ⟨_, a :: as, e, .lst hH hl, ?_⟩
        rcases List.mem_cons.mp y4 with u | u
        · rw [u]; exact List.mem_cons_self
        · exact List.mem_cons_of_mem _ (hs b u)
      · rename_i hik
        obtain ⟨w', ds', g1, g2, g3, g4⟩ := h.own k T3 y1
        rw [y2] at g1
        cases g1
        have ee := lk_det _ _ _ _ y3 (away k T3 hik y1 _ _ y2 g2)
        subst ee
        exact ⟨T3, _, y1, g2, y4⟩
    obtain ⟨T3, ds, y1, y2, y3⟩ := old j T1 y bs M q z lk hb
    obtain ⟨T4, ds', y1', y2', y3'⟩ := old j' T2 y' cs M' q' z' lk' hc
    exact h.inj j j' T3 T4 _ _ _ _ _ _ b y1 y1' z z' y2 y2' y3 y3'
  · refine ⟨?_, z⟩
    rw [upd_ne (fun y => by rw [y, oa.1] at z; cases z)]
    exact q
def mApp (i : Nat) (n : MA) : MS := fun E => match E[i]? with
  | some (some (.t (.lst l))) => (n E).bind fun rs => (pros rs).bind fun ds => (match ds with | [d] => if l.length < lim then some (.nx (E.set i (some (.t (.lst (l ++ [.leaf d])))))) else none | _ => none)
  | _ => none
theorem app_of {i : Nat} : ∀ D σ H, sM K false (mApp i n) D σ H → tDrop (tBM K "list" rAppend (tVar i) (tMA K n)) D σ H := fun D σ H ⟨E, W, o, hH, hm, k⟩ => by
  unfold mApp at hm
  split at hm
  · rename_i l el
    obtain ⟨rs, e1, hm⟩ := bindSome hm
    obtain ⟨ds, e2, hm⟩ := bindSome hm
    split at hm
    · rename_i d
      split at hm
      · rename_i hl
        cases hm
        obtain ⟨a, vs, as, h1, h2, h3, h4, h5⟩ := hH.ownl el
        refine ⟨.ref a, h1, .inl ⟨rfl, vs, SqL.of h2⟩, E, W, rs, hH, e1, fun xs H1 s1 r1 => ?_⟩
        have hH1 := hH.grow s1
        have q := r1.pros hH1.dom e2
        cases q with
        | cons q1 t =>
          cases t
          have hlen : vs.length = l.length := lks_len h3
          refine ⟨a, vs, _, rfl, rfl, s1 _ _ h2, by rw [hlen]; exact Nat.lt_of_lt_of_le hl lim_line, ?_⟩
          have h3' := lks_mono s1 (hid_same s1) l vs as h3
          have lk := lks_app h3' (Lks.cons (.leaf q1) .nil)
          rw [List.append_nil, List.append_nil] at lk
          obtain ⟨g1, g2⟩ := hH1.updo el h1 (s1 _ _ h2) h3' lk (List.nodup_cons.mp h4).2 fun _ z => z
          exact k _ _ W.o g1 ((Fr.of s1).trans g2)
      · cases hm
    · cases hm
  · cases hm
theorem m_append {i : Nat} {o : Expr} {apos cpos : Pos} {es : List Expr} (ho : PE X o (tVar i)) (ha : PA X (e :: es) (tMA X.K n)) (hbase : attributeBase o "append" X.env (eval o X.env) = eval o X.env := by rfl)
    (hfew : ((backTo cpos (starEach (e :: es) X.env)).all (fun x => !x.1) && (backToKw cpos (keywordEach [] X.env)).all (fun x => x.1.isSome)
      && decide ((e :: es).length + ([] : List Keyword).length + (if ([] : List Keyword).isEmpty then 0 else 1) < 30)) = true := by rfl)
    (hline : (apos.endLine == cpos.line) = true := by rfl) (hs : starEach (e :: es) X.env = (false, eval e X.env) :: starEach es X.env := by rfl) (hplain : (backTo cpos (starEach es X.env)).any (·.1) = false := by rfl)
    (hsw : swapsWith (.Call (.Attribute o "append" apos) (e :: es) [] cpos) none pos.line X.env = pure false := by rfl) : PS X (.Expr (.Call (.Attribute o "append" apos) (e :: es) [] cpos) pos) (sM X.K false (mApp i n)) :=
  ps_imp (ps_expr (pe_bm PySem.F.plainAttrs_list PySem.F.slot_list_append PySem.F.type_list_append mt_append ho ha hbase hfew hline hs hplain) hsw) app_of
/-! xs.insert(k, e) -/
def insAt {α : Type} (l : List α) (x : Int) (y : α) : List α :=
  l.take (if x < 0 then (x + (l.length : Int)).toNat else min x.toNat l.length) ++ y :: l.drop (if x < 0 then (x + (l.length : Int)).toNat else min x.toNat l.length)
theorem insAt_len {α : Type} (l : List α) (x : Int) (y : α) : (insAt l x y).length = l.length + 1 := by
  unfold insAt
  rw [List.length_append, List.length_cons, List.length_take, List.length_drop]
  omega
theorem vals_ins {vs : List V} {us : List Value} {v : V} {u : Value} (x : Int) (h : Vals vs us) (r : RelV v u) : Vals (insAt vs x v) (insAt us x u) := by
  unfold insAt
  rw [h.length]
  exact (h.take _).append (.cons r (h.drop _))
theorem lks_ins {H : Hp} {M : Msk} {vs : List V} {l : List Tr} {as : List Addr} {v : V} {d : D} (x : Int) (h : Lks K H M vs as l) (r : Dp K (hid M H) v d) : Lks K H M (insAt vs x v) as (insAt l x (.leaf d)) := by
  unfold insAt
  rw [lks_len h]
  obtain ⟨bs, cs, e, q1, q2⟩ := lks_cut (if x < 0 then (x + (l.length : Int)).toNat else min x.toNat l.length) h
  subst e
  exact lks_app q1 (Lks.cons (.leaf r) q2)
theorem insAt_map (l : List D) (x : Int) (d : D) : insAt (l.map Tr.leaf) x (.leaf d) = (insAt l x d).map Tr.leaf := by
  unfold insAt
  simp
def rInsert : V → List V → Hp → VK → Prop := fun x vs H Q => ∃ l xs k y, x = .ref l ∧ vs = [.int k, y] ∧ H l = some (.lst xs) ∧ (-(2 ^ 63) ≤ k ∧ k < 2 ^ 63) ∧ xs.length < sizeLine ∧ Q .non (upd H l (.lst (insAt xs k y)))
theorem mt_insert : MtM X "list.insert" rInsert := by
  intro pins s σ H x vs v us Q I rx rv h
  obtain ⟨l, xs, k, y, rfl, rfl, hH, hk, hz, q⟩ := h
  cases rx
  obtain ⟨u1, u, rfl, ⟨t, rfl⟩, ru⟩ := rv.two
  obtain ⟨z, its, n, r, hl, e⟩ := I.lstM hH
  have hf : Builtin.List.listFitsIndex k = true := fitsIndex_both hk.1 hk.2
  refine call_meets PySem.F.slot_list_insert ⟨_, e, rfl⟩ PySem.F.entry_list_insert (PySem.F.args_list_insert_3 _ _ _) (PySem.AutoSeq1.list_insert_list_int_val_1 l its.toArray n k t u (by simp [hf]) (by rw [List.size_toArray]; omega)) ⟨e, ?_⟩
  refine ⟨.non, _, I.lset (its' := insAt its k u) hH e ?_ (vals_ins k r ru) (by rw [insAt_len]; omega), rfl, q⟩
  show (its.toArray.extract 0 (if k < 0 then (k + (its.toArray.size : Int)).toNat else min k.toNat its.toArray.size)).push u ++ its.toArray.extract (if k < 0 then (k + (its.toArray.size : Int)).toNat else min k.toNat its.toArray.size) = (insAt its k u).toArray
  rw [PySem.W.kl_ins_eq, List.size_toArray]
  rfl
def mIns (i : Nat) (n : MA) : MS := fun E => match E[i]? with
  | some (some (.t (.lst l))) => (n E).bind fun rs => (pros rs).bind fun ds => (match ds with | [.int k, d] => if l.length < lim ∧ -(2 ^ 63) ≤ k ∧ k < 2 ^ 63 then some (.nx (E.set i (some (.t (.lst (insAt l k (.leaf d))))))) else none | _ => none)
  | _ => none
theorem ins_of {i : Nat} : ∀ D σ H, sM K false (mIns i n) D σ H → tDrop (tBM K "list" rInsert (tVar i) (tMA K n)) D σ H := fun D σ H ⟨E, W, o, hH, hm, k⟩ => by
  unfold mIns at hm
  split at hm
  · rename_i l el
    obtain ⟨rs, e1, hm⟩ := bindSome hm
    obtain ⟨ds, e2, hm⟩ := bindSome hm
    split at hm
    · rename_i kk d
      split at hm
      · rename_i hl
        cases hm
        obtain ⟨a, vs, as, h1, h2, h3, h4, h5⟩ := hH.ownl el
        refine ⟨.ref a, h1, .inl ⟨rfl, vs, SqL.of h2⟩, E, W, rs, hH, e1, fun xs H1 s1 r1 => ?_⟩
        have hH1 := hH.grow s1
        have q := r1.pros hH1.dom e2
        cases q with
        | cons q0 t =>
          cases t with
          | cons q1 t =>
            cases t
            cases Dp_int q0
            have hlen : vs.length = l.length := lks_len h3
            refine ⟨a, vs, kk, _, rfl, rfl, s1 _ _ h2, hl.2, by rw [hlen]; exact Nat.lt_of_lt_of_le hl.1 lim_line, ?_⟩
            have h3' := lks_mono s1 (hid_same s1) l vs as h3
            obtain ⟨g1, g2⟩ := hH1.updo el h1 (s1 _ _ h2) h3' (lks_ins kk h3' q1) (List.nodup_cons.mp h4).2 fun _ z => z
            exact k _ _ W.o g1 ((Fr.of s1).trans g2)
      · cases hm
    · cases hm
  · cases hm
theorem m_insert {i : Nat} {o : Expr} {apos cpos : Pos} {es : List Expr} (ho : PE X o (tVar i)) (ha : PA X (e :: es) (tMA X.K n)) (hbase : attributeBase o "insert" X.env (eval o X.env) = eval o X.env := by rfl)
    (hfew : ((backTo cpos (starEach (e :: es) X.env)).all (fun x => !x.1) && (backToKw cpos (keywordEach [] X.env)).all (fun x => x.1.isSome)
      && decide ((e :: es).length + ([] : List Keyword).length + (if ([] : List Keyword).isEmpty then 0 else 1) < 30)) = true := by rfl)
    (hline : (apos.endLine == cpos.line) = true := by rfl) (hs : starEach (e :: es) X.env = (false, eval e X.env) :: starEach es X.env := by rfl) (hplain : (backTo cpos (starEach es X.env)).any (·.1) = false := by rfl)
    (hsw : swapsWith (.Call (.Attribute o "insert" apos) (e :: es) [] cpos) none pos.line X.env = pure false := by rfl) : PS X (.Expr (.Call (.Attribute o "insert" apos) (e :: es) [] cpos) pos) (sM X.K false (mIns i n)) :=
  ps_imp (ps_expr (pe_bm PySem.F.plainAttrs_list PySem.F.slot_list_insert PySem.F.type_list_insert mt_insert ho ha hbase hfew hline hs hplain) hsw) ins_of
/-! xs[k] = e -/
theorem lks_set {H : Hp} {M : Msk} {v : V} {d : D} (r : Dp K (hid M H) v d) : ∀ {l : List Tr} {vs : List V} {as : List Addr} (j : Nat), Lks K H M vs as l → ∃ bs, bs.Sublist as ∧ Lks K H M (vs.set j v) bs (l.set j (.leaf d))
  | [], _, _, _, h => by cases h; exact ⟨[], .slnil, .nil⟩
  | t :: ts, _, _, 0, h => by
    cases h with
    | cons h1 h2 => exact ⟨[] ++ _, by rw [List.nil_append]; exact List.sublist_append_right _ _, .cons (.leaf r) h2⟩
  | t :: ts, _, _, j + 1, h => by
    cases h with
    | cons h1 h2 =>
      obtain ⟨bs, sb, q⟩ := lks_set r j h2
      exact ⟨_ ++ bs, List.Sublist.append (List.Sublist.refl _) sb, .cons h1 q⟩
def mSetI (i : Nat) (mi m : ME) : MS := fun E => (m E).bind fun r => r.pro.bind fun d => match E[i]? with
  | some (some (.t (.lst l))) => (mi E).bind fun ri => (match ri.d with | .int k => (ixN l.length k).bind fun j => some (.nx (E.set i (some (.t (.lst (l.set j (.leaf d))))))) | _ => none)
  | _ => none
theorem seti_of {i : Nat} {mi : ME} : ∀ D σ H, sM K false (mSetI i mi m) D σ H → tAsg (tM K m) (L2.gSub (tVar i) (tM K mi) rSetL) D σ H := fun D σ H ⟨E, W, o, hH, hm, k⟩ => by
  obtain ⟨r, e1, hm⟩ := bindSome hm
  obtain ⟨d, e2, hm⟩ := bindSome hm
  split at hm
  · rename_i l el
    obtain ⟨ri, e3, hm⟩ := bindSome hm
    split at hm
    · rename_i kk ek
      obtain ⟨j, e4, hm⟩ := bindSome hm
      cases hm
      refine ⟨E, W, r, hH, e1, fun v H1 s1 r1 f1 => ?_⟩
      have hH1 := hH.grow s1
      obtain ⟨a, vs, as, h1, h2, h3, h4, h5⟩ := hH1.ownl el
      refine ⟨.ref a, h1, E, W, ri, hH1, e3, fun vi H2 s2 r2 f2 => ?_⟩
      have hH2 := hH1.grow s2
      have q := r2.dp
      rw [ek] at q
      cases Dp_int q
      refine ⟨a, vs, kk, j, rfl, rfl, s2 _ _ h2, by rw [lks_len h3]; exact e4, ?_⟩
      have h3' := lks_mono s2 (hid_same s2) l vs as h3
      obtain ⟨bs, sb, lk⟩ := lks_set ((r1.grow s2).pro hH2.dom e2) j h3'
      obtain ⟨g1, g2⟩ := hH2.updo el h1 (s2 _ _ h2) h3' lk (List.Nodup.sublist sb (List.nodup_cons.mp h4).2) fun _ z => sb.mem z
      exact k _ _ W.o g1 ((Fr.of (s1.trans s2)).trans g2)
    · cases hm
  · cases hm
theorem m_setI {i : Nat} {o ix : Expr} {mi : ME} {tpos : Pos} (ho : PE X o (tVar i)) (hi : PE X ix (tM X.K mi)) (he : PE X e (tM X.K m))
    (ha : ∀ v, assign (.Subscript o ix tpos) X.env v = (do
      let ov ← holding [v] (eval o X.env)
      let iv ← holding [v, ov] (eval ix X.env)
      standAt tpos
      holding [v, ov, iv] (setItem ov iv v)
      release [v, ov, iv] []) := by intro _; rfl)
    (hs : swapsWithSole [.Subscript o ix tpos] e pos.line X.env = pure false := by rfl) (hw : swappedStores [.Subscript o ix tpos] e X.env = pure none := by rfl)
    (h1 : (assignEach [.Subscript o ix tpos] X.env).map (·.2) = [assign (.Subscript o ix tpos) X.env] := by rfl) : PS X (.Assign [.Subscript o ix tpos] e pos) (sM X.K false (mSetI i mi m)) :=
  ps_imp (ps_asg he (pg_sub ho hi set_list ha) hs hw h1) seti_of

/-! a, b = x, x an own pair: x is not known behind -/
def mUnpk (k i j : Nat) : MS := fun E => match E[k]? with
  | some (some (.t (.tup [T1, .leaf d]))) => some (.nx (((E.set k none).set i (some (.t T1))).set j (some (.v d))))
  | _ => none
/-! for -/
def forD (is : List Nat) (pick : D → Option (List D)) (mb : MS) : List D → Ev → Option Out
  | [], E => some (.nx E)
  | d :: ds, E => (pick d).bind fun qs => (mb (setAllE E is qs)).bind fun o => match o with
    | .nx E' => forD is pick mb ds E'
    | .ct E' => forD is pick mb ds E'
    | .bk E' => some (.nx E')
    | .rt r => some (.rt r)
def mFor (is : List Nat) (pick : D → Option (List D)) (mi : MI) (mb : MS) : MS := fun E => (mi E).bind fun cl => if cl.1 = true then forD is pick mb cl.2 E else none
theorem for_of {is : List Nat} {pick : D → Option (List D)} {mi : MI} {mb : MS} {g : TG} (hg : TgOk K g is pick) : ∀ D σ H, sM K ff (mFor is pick mi mb) D σ H → tFor (tMI K mi) g (sM K ff mb) D σ H := fun D σ H ⟨E, W, o, hH, hm, k⟩ => by
  obtain ⟨⟨c, l⟩, ei, hm⟩ := bindSome hm
  split at hm
  · rename_i hc
    have hc : c = true := hc
    subst hc
    have hm : forD is pick mb l E = some o := hm
    refine ⟨E, W, true, l, hH, ei, fun J H1 s1 hw => ?_⟩
    have k1 : EndsK K ff D W.z H1 W.o o := k.later (Fr.of s1)
    let INV : Nat → L2.St → Hp → Prop := fun i σ2 H2 => ∃ E2 O2, Held K H2 ⟨W.z, O2⟩ σ2 E2 ∧ Fr ff H1 W.o H2 O2 ∧ forD is pick mb (l.drop i) E2 = some o
    refine ⟨fun i mm σ2 H2 => mm = l.length - i ∧ i ≤ l.length ∧ INV i σ2 H2, ⟨l.length, by simp, Nat.zero_le _, E, W.o, hH.grow s1, Fr.refl, by simpa using hm⟩, ?_⟩
    rintro i mm σ2 H2 ⟨rfl, hi, E2, O2, hh, fr, ef⟩
    have hB : Same (hid W.w H1) (hid (WM.mk W.z O2).w H2) := fun b ob q => by
      rw [hid_eq] at q ⊢
      have zb : W.z b = false := by
        cases z : W.z b with
        | false => rfl
        | true => rw [WM.zw b z] at q; cases q.1
      have ob' : W.o b = false := by
        cases z : W.o b with
        | false => rfl
        | true => rw [WM.ow b z] at q; cases q.1
      obtain ⟨f1, f2⟩ := fr.1 b ob q.2 ob'
      refine ⟨?_, f1⟩
      show (W.z b || O2 b) = false
      rw [zb, f2]
      rfl
    obtain ⟨hgo, hst⟩ := hw i _ H2 hB hh.dom
    by_cases hlt : i < l.length
    · have hd : l[i]? = some l[i] := by simp [hlt]
      have edrop : l.drop i = l[i] :: l.drop (i + 1) := (List.drop_eq_getElem_cons hlt)
      rw [edrop] at ef
      obtain ⟨g1, g2⟩ := hgo _ hd
      unfold forD at ef
      obtain ⟨qs, ep, ef⟩ := bindSome ef
      obtain ⟨ob, eb, ef⟩ := bindSome ef
      refine .inr ⟨g1, fun σ' H' => INV (i + 1) σ' H', fun σ' H' p' => ⟨l.length - (i + 1), by omega, rfl, hlt, p'⟩, fun x H3 y => ?_⟩
      obtain ⟨s3, dx⟩ := g2 x H3 y
      have hh3 := hh.grow s3
      refine hg _ x _ qs _ H3 _ dx ep fun vs dvs => ⟨_, ⟨W.z, O2⟩, ob, hh3.setAll (is := is) dvs, eb, ?_⟩
      have fr3 : Fr ff H1 W.o H3 O2 := fr.trans (Fr.of s3)
      cases ob with
      | nx E' => exact fun σ' H' O' h' f' => ⟨E', O', h', fr3.trans f', ef⟩
      | ct E' => exact fun σ' H' O' h' f' => ⟨E', O', h', fr3.trans f', ef⟩
      | bk E' => cases ef; exact fun σ' H' O' h' f' => k1 σ' H' O' h' (fr3.trans f')
      | rt r => cases ef; exact fun v H' O' f' q gq => k1 v H' O' (fr3.trans f') q (gq.back fr3)
    · have e : i = l.length := by omega
      subst e
      rw [List.drop_length] at ef
      cases ef
      exact .inl ⟨hst (Nat.le_refl _), k1 σ2 H2 O2 hh fr⟩
  · cases hm
/-- over a list that may be an own one: the block changes no own list -/
def mForP (is : List Nat) (pick : D → Option (List D)) (mi : MI) (mb : MS) : MS := fun E => (mi E).bind fun cl => if (cl.1 || flats cl.2) = true then forD is pick mb cl.2 E else none
theorem m_for {iter tg : Expr} {body : List Stmt} {is : List Nat} {pick : D → Option (List D)} {mi : MI} {mb : MS} {g : TG} (ht : TgOk X.K g is pick) (hp : PassesOwn (model X.prog X.w) X.A X.env X.xe) (hc : X.calm = true) (hi : PI X tg iter (tMI X.K mi)) (hg : PG X tg g) (hb : PSs X body (sM X.K ff mb)) (hs : ∀ x, foldedSetIterable iter X.env x = pure x := by intro _; rfl) :
    PS X (.For tg iter body [] pos) (sM X.K ff (mFor is pick mi mb)) := ps_imp (ps_for hp hc hi hg hb hs) (for_of ht)
end

/-! ### a def -/
def startE (N : List Str) (ds : List D) : Ev := ds.map (fun d => some (.v d)) ++ List.replicate (N.length - ds.length) none
theorem held_start {K : PySem.W.Frag} {H : Hp} {Z : Msk} {N : List Str} {vs : List V} {ds : List D} (hZ : Dom Z H) (h : DpAll K (hid Z H) vs ds) : Held K H ⟨Z, noM⟩ (L2.start N vs) (startE N ds) := by
  have hl := DpAll_len h
  have nov : ∀ (j : Nat) (s : Sl), (startE N ds)[j]? = some (some s) → ∃ d, ds[j]? = some d ∧ s = .v d := fun j s q => by
    unfold startE at q
    rw [List.getElem?_append] at q
    split at q
    · rw [List.getElem?_map] at q
      cases e : ds[j]? with
      | none => rw [e] at q; cases q
      | some d => rw [e] at q; cases q; exact ⟨d, rfl, rfl⟩
    · rw [List.getElem?_replicate] at q
      split at q <;> cases q
  refine ⟨by rw [WM.w0]; exact hZ, ?_, fun j d q => ?_, fun j l q => ?_, fun j j' T T' x x' as bs M M' a q => ?_⟩
  · unfold L2.start startE
    simp only [List.length_append, List.length_map, List.length_replicate, hl]
  · obtain ⟨d', e, e2⟩ := nov j _ q
    cases e2
    obtain ⟨v, ev, dv⟩ := DpAll_get h e
    refine ⟨v, ?_, by rw [WM.w0]; exact dv⟩
    unfold L2.start
    rw [List.getElem?_append_left (by simpa using (List.getElem?_eq_some_iff.mp ev).1), List.getElem?_map, ev]
    rfl
  · obtain ⟨d', e, e2⟩ := nov j _ q
    cases e2
  · obtain ⟨d', e, e2⟩ := nov j _ q
    cases e2
theorem fn_D {P : Program} {w : World} {K : PySem.W.Frag} {mg : Str → Option Value} {base : Heap} {x qual : Str} {st : Stmt} {f : Addr} {fd : FuncData} {N ps : List Str} {k n0 : Nat} {g : List D → Option R} {m : MS} (F : Fun K x qual st f fd) (S : FnScope N ps (defScope st)) (hn : n0 = ps.length)
    (hbody : ∀ (cdv : Value) (A : Around) (outer : List Env) (s : Shared) (H : Hp) (E : XK), Room k (A.deeper (PyProof.Rows.envOfC qual (defScope st) s.heap.objs.size f cdv)) →
      PSs (cxOf CX0 P w K mg base N qual (defScope st) f cdv A outer s H E).nox (defBody st) (sM K false m))
    (hm : ∀ ds r, g ds = some r → ds.length = n0 → ∃ r', m (startE N ds) = some (.rt r') ∧ r'.up = r) : FnOk P w K mg base CX0 (k + 1) f fd ps (spD K n0 g) := by
  refine F.ok S (fun vs H Q E h => by rw [← hn]; exact h.1) (fun cdv A outer s H vs Q E hr h => ?_)
  obtain ⟨hl, Z, ds, r, hZ, hd, hg, q⟩ := h
  obtain ⟨r', hm, hup⟩ := hm ds r hg (by rw [← DpAll_len hd]; exact hl)
  refine ⟨_, hbody cdv A outer s H E hr, startE N ds, ⟨Z, noM⟩, .rt r', held_start hZ hd, hm, ?_⟩
  intro v H' O' fr ra rg
  have sm : Same H H' := fun a o e => (fr.1 a o e rfl).1
  subst hup
  have ra' : RA K H' ⟨(WM.mk Z noM).w, noM⟩ v r' := by rw [WM.w0]; exact ra
  refine q v H' sm (up_ok ra') (up_f ?_)
  cases r' with
  | c d => trivial
  | u d => trivial
  | t T =>
    refine fun K' M as l p hp => ?_
    cases y : H p with
    | none => rfl
    | some ob => have := rg K' M as l p hp ob y; cases this
end MD

namespace MD
open PySem PySem.Spec L2

/-! ### defs of the text, and what they promise -/
structure Cal (P : Program) (w : World) (K : PySem.W.Frag) (mg : Str → Option Value) (base : Heap) (x : Str) (k : Nat) (ps : List Str) (g : List D → Option R) : Prop where
  ex : ∃ f fd, FnOk P w K mg base CX0 k f fd ps (spD K ps.length g) ∧ mg x = some (.ref f) ∧ PySem.W.keepIn K (.ref f) = true ∧ Binds K fd ps []
structure FunG (K : PySem.W.Frag) (mg : Str → Option Value) (x : Str) (st : Stmt) (ps : List Str) : Prop where
  ex : ∃ f fd, Fun K x x st f fd ∧ mg x = some (.ref f) ∧ Binds K fd ps []
theorem cal_of {P : Program} {w : World} {K : PySem.W.Frag} {mg : Str → Option Value} {base : Heap} {x : Str} {st : Stmt} {N ps : List Str} {k : Nat} {g : List D → Option R} {m : MS} (F : FunG K mg x st ps) (S : FnScope N ps (defScope st))
    (hbody : ∀ (f : Addr) (cdv : Value) (A : Around) (outer : List Env) (s : Shared) (H : Hp) (E : XK), Room k (A.deeper (PyProof.Rows.envOfC x (defScope st) s.heap.objs.size f cdv)) →
      PSs (cxOf CX0 P w K mg base N x (defScope st) f cdv A outer s H E).nox (defBody st) (sM K false m))
    (hm : ∀ ds r, g ds = some r → ∃ r', m (startE N ds) = some (.rt r') ∧ r'.up = r) : Cal P w K mg base x (k + 1) ps g := by
  obtain ⟨f, fd, h1, h2, h3⟩ := F.ex
  exact ⟨f, fd, fn_D h1 S rfl (hbody f) (fun ds r h _ => hm ds r h), h2, h1.kp, h3⟩
theorem m_callC {X : Cx} {x : Str} {k : Nat} {ps : List Str} {g : List D → Option R} {e : Expr} {es : List Expr} {n : MA} {p pos : Pos} (C : Cal X.prog X.w X.K X.mg X.base x k ps g) (hr : Room k X.A)
    (ha : PA X (e :: es) (tMA X.K n)) (hg : Gl X x := by rfl) (hdb : (x == ("__debug__" : Str)) = false := by decide) (he : starEach (e :: es) X.env = (false, eval e X.env) :: starEach es X.env := by rfl) (hpl : (backTo pos (starEach es X.env)).any (·.1) = false := by rfl) :
    PE X (.Call (.Name x p) (e :: es) [] pos) (tM X.K (mCall ps.length g n)) := by
  obtain ⟨f, fd, h1, h2, h3, h4⟩ := C.ex
  exact m_call h1 hr h2 h3 h4 ha hg hdb he hpl
theorem _root_.L2.Room.u1 {k : Nat} {A : Around} (r : Room k A) : A.in1.units + 64 < cLine := by have := r.un; show A.units + 1 + 64 < _; omega
/-- a module's number -/
theorem m_gint {X : Cx} {x : Str} {i : Int} {pos : Pos} (h : ∃ t, X.mg x = some (.int i t)) (hg : Gl X x := by rfl) (hd : (x == ("__debug__" : Str)) = false := by decide) : PE X (.Name x pos) (tM X.K (mC (.int i))) := by
  obtain ⟨t, h⟩ := h
  exact m_c (pe_glob (v := .int i) hg h ⟨t, rfl⟩ hd) fun _ => .int i

/-! a promise by typed arguments -/
open Classical in
noncomputable def gOf {α : Type} (args : α → List D) (pre : α → Prop) (f : α → R) : List D → Option R := fun ds => if h : ∃ a, pre a ∧ args a = ds then some (f h.choose) else none
/-! ### loops and comprehensions over known lists -/
theorem lcD_map {α : Type} {is : List Nat} {pick : D → Option (List D)} {c : Bool} {mt : MT} {me : ME} {E0 : Ev} {enc : α → D} {qs : α → List D} {b : α → Bool} {y : α → D} : ∀ (l : List α),
    (∀ a ∈ l, (c || flat (enc a)) = true ∧ pick (enc a) = some (qs a) ∧ mt (setAllE E0 is (qs a)) = some (b a) ∧ (b a = true → ∃ r, me (setAllE E0 is (qs a)) = some r ∧ r.pro = some (y a))) →
    lcD is pick c mt me E0 (l.map enc) = some ((l.filter b).map y)
  | [], _ => rfl
  | a :: l, h => by
    obtain ⟨h1, h2, h3, h4⟩ := h a List.mem_cons_self
    have ih := lcD_map (b := b) (y := y) (qs := qs) l fun x hx => h x (List.mem_cons_of_mem _ hx)
    show (if (c || flat (enc a)) = true then _ else none) = _
    rw [if_pos h1, h2]
    show (mt (setAllE E0 is (qs a))).bind _ = _
    rw [h3]
    show (if b a = true then _ else _) = _
    rw [List.filter_cons]
    split
    · rename_i hb
      obtain ⟨r, e1, e2⟩ := h4 hb
      rw [e1]
      show (r.pro).bind _ = _
      rw [e2]
      show (lcD is pick c mt me E0 (l.map enc)).bind _ = _
      rw [ih]
      rfl
    · exact ih
end MD
namespace MD
open PySem PySem.Spec L2
/-- what a def gives, by its mirror -/
def runD (m : MS) (N : List Str) : List D → Option R := fun ds => match m (startE N ds) with
  | some (.rt r) => some r.up
  | _ => none
theorem runD_ok {m : MS} {N : List Str} : ∀ ds r, runD m N ds = some r → ∃ r', m (startE N ds) = some (.rt r') ∧ r'.up = r := fun ds r h => by
  unfold runD at h
  split at h
  · rename_i r' e
    exact ⟨r', e, Option.some.inj h⟩
  · cases h
theorem runD_eq {m : MS} {N : List Str} {ds : List D} {r : R} (h : m (startE N ds) = some (.rt r)) : runD m N ds = some r.up := by
  unfold runD
  rw [h]
theorem cal_ex {P : Program} {w : World} {K : PySem.W.Frag} {mg : Str → Option Value} {base : Heap} {x : Str} {st : Stmt} {N ps : List Str} {k : Nat} {m : MS} {Spec : (List D → Option R) → Prop} (F : FunG K mg x st ps) (S : FnScope N ps (defScope st))
    (hbody : ∀ (f : Addr) (cdv : Value) (A : Around) (outer : List Env) (s : Shared) (H : Hp) (E : XK), Room k (A.deeper (PyProof.Rows.envOfC x (defScope st) s.heap.objs.size f cdv)) →
      PSs (cxOf CX0 P w K mg base N x (defScope st) f cdv A outer s H E).nox (defBody st) (sM K false m))
    (hs : Spec (runD m N)) : ∃ g, Cal P w K mg base x (k + 1) ps g ∧ Spec g := ⟨runD m N, cal_of F S hbody runD_ok, hs⟩
end MD

namespace MD
open PySem PySem.Spec L2
/-! ### reckoning with mirrors -/
theorem Rd_c (d : D) : (R.c d).d = d := rfl
theorem Rd_u (d : D) : (R.u d).d = d := rfl
theorem Rd_t (T : Tr) : (R.t T).d = T.d := rfl
theorem Rd_o (l : List D) : (R.o l).d = .list l := Tr.fl_d l
theorem Rcl_c (d : D) : (R.c d).cl = true := rfl
theorem Rcl_u (d : D) : (R.u d).cl = false := rfl
theorem Rcl_t (T : Tr) : (R.t T).cl = true := rfl
theorem Rcl_o (l : List D) : (R.o l).cl = true := rfl
theorem Rtr_b (k : Bool) : (R.c (.bool k)).tr = some k := rfl
theorem Rup_c (d : D) : (R.c d).up = .c d := rfl
theorem Rup_u (d : D) : (R.u d).up = .c d := rfl
theorem Rup_t (T : Tr) : (R.t T).up = .t T := rfl
theorem Rup_o (l : List D) : (R.o l).up = .o l := rfl
theorem Rpro_c (d : D) : (R.c d).pro = some d := rfl
theorem Rpro_o (l : List D) : (R.o l).pro = some (.list l) := by show (if (true || _) = true then some (Tr.fl l).d else none) = _; rw [Bool.true_or, if_pos rfl, Tr.fl_d]
theorem Rpro_t (T : Tr) : (R.t T).pro = some T.d := rfl
theorem Rpro_u (d : D) : (R.u d).pro = if flat d = true then some d else none := by show (if (false || _) = true then _ else none) = _; rw [Bool.false_or]; rfl
theorem Rtaint_o (l : List D) : (R.o l).taint = if flats l = true then .o l else .u (.list l) := by
  show (if (Tr.fl l).fleaf = true then R.t (Tr.fl l) else .u (Tr.fl l).d) = _
  rw [Tr.fleaf_fl, Tr.fl_d]
  rfl
theorem Rtaint_c (d : D) : (R.c d).taint = if flat d = true then .c d else .u d := rfl
theorem Rmk_t (d : D) : R.mk' true d = .c d := rfl
theorem Rmk_f (d : D) : R.mk' false d = if flat d = true then .c d else .u d := by unfold R.mk'; rw [Bool.false_or]
theorem pros_nil : pros [] = some [] := rfl
theorem pros_cons (r : R) (rs : List R) : pros (r :: rs) = r.pro.bind fun d => (pros rs).bind fun ds => some (d :: ds) := rfl
theorem sh_int (i : Int) : okD (.int i) = true := rfl
theorem sh_bool (i : Bool) : okD (.bool i) = true := rfl
theorem peqv_int (i j : Int) : PySem.PyData.eqv (.int i) (.int j) = decide (i = j) := by rw [PySem.PyData.eqv]; rfl
theorem eqv_int (i j : Int) : deq (.int i) (.int j) = decide (i = j) := by unfold deq; rw [D.pd, D.pd, peqv_int]
theorem eqv_bool (i j : Bool) : deq (.bool i) (.bool j) = decide (i = j) := by unfold deq; rw [D.pd, D.pd, PySem.PyData.eqv]; cases i <;> cases j <;> rfl
theorem flat_int (i : Int) : flat (.int i) = true := by simp [flat]
theorem flat_bool (i : Bool) : flat (.bool i) = true := by simp [flat]
theorem flat_list (l : List D) : flat (.list l) = false := by simp [flat]
theorem atI_0 {α : Type} (x : α) (l : List α) : atI (x :: l) 0 = some x := by simp [atI, ixN]
/-! points -/
abbrev Pt := Int × Int
def eP (p : Pt) : D := .tuple [.int p.1, .int p.2]
theorem flat_P (p : Pt) : flat (eP p) = true := by simp [eP, flat, flats]
theorem flats_P : ∀ ps : List Pt, flats (ps.map eP) = true
  | [] => by simp [flats]
  | p :: ps => by simp [flats, flat_P, flats_P ps]
def pP (p : Pt) : PySem.PyData := .tuple [.int p.1, .int p.2]
theorem pd_P (p : Pt) : (eP p).pd = pP p := by simp [eP, D.pd, D.pds, pP]
theorem pds_P : ∀ ps : List Pt, D.pds (ps.map eP) = ps.map pP
  | [] => by simp [D.pds]
  | p :: ps => by simp [D.pds, pd_P, pds_P ps]
theorem pure_P (p : Pt) : (eP p).pure = true := by simp [eP, D.pure, D.pures]
theorem pures_P : ∀ ps : List Pt, D.pures (ps.map eP) = true
  | [] => by simp [D.pures]
  | p :: ps => by simp [D.pures, pure_P, pures_P ps]
theorem sh_P (p : Pt) : okD (eP p) = true := rfl
theorem lay_P (p : Pt) : (pP p).canLay0 = true := rfl
theorem lays_P : ∀ ps : List Pt, PySem.PyData.canLayAll0 (ps.map pP) = true
  | [] => by simp [PySem.PyData.canLayAll0]
  | p :: ps => by simp [PySem.PyData.canLayAll0, lay_P, lays_P ps]
theorem dep_P (p : Pt) : (pP p).depth = 1 := by simp [pP, PySem.PyData.depth, PySem.PyData.depthAll]
theorem deps_P : ∀ ps : List Pt, PySem.PyData.depthAll (ps.map pP) ≤ 1
  | [] => by simp [PySem.PyData.depthAll]
  | p :: ps => by
    have := deps_P ps
    simp [PySem.PyData.depthAll, dep_P]
    omega
theorem sh_L (ps : List Pt) : okD (.list (ps.map eP)) = true := by
  unfold okD SeqAt.shaped
  have := deps_P ps
  rw [D.pure, pures_P, D.pd, pds_P, PySem.PyData.canLay0, lays_P, PySem.PyData.depth]
  simp
  omega
theorem shs_P (ps : List Pt) : (ps.map eP).all okD = true := by
  rw [List.all_eq_true]
  intro x hx
  obtain ⟨p, _, rfl⟩ := List.mem_map.mp hx
  exact sh_P p
theorem peqv_P (p q : Pt) : PySem.PyData.eqv (pP p) (pP q) = decide (p = q) := by
  obtain ⟨a, b⟩ := p
  obtain ⟨c, d⟩ := q
  show PySem.PyData.eqv (.tuple [.int a, .int b]) (.tuple [.int c, .int d]) = _
  rw [PySem.PyData.eqv, PySem.PyData.eqvAll, PySem.PyData.eqvAll, PySem.PyData.eqvAll, peqv_int, peqv_int]
  by_cases h1 : a = c <;> by_cases h2 : b = d <;> simp [h1, h2]
theorem eqv_P (p q : Pt) : deq (eP p) (eP q) = decide (p = q) := by unfold deq; rw [pd_P, pd_P, peqv_P]
theorem eqvs_P : ∀ ps qs : List Pt, PySem.PyData.eqvAll (ps.map pP) (qs.map pP) = decide (ps = qs)
  | [], [] => by simp [PySem.PyData.eqvAll]
  | [], _ :: _ => by simp [PySem.PyData.eqvAll]
  | _ :: _, [] => by simp [PySem.PyData.eqvAll]
  | p :: ps, q :: qs => by
    rw [List.map_cons, List.map_cons, PySem.PyData.eqvAll, peqv_P, eqvs_P ps qs]
    by_cases h1 : p = q <;> by_cases h2 : ps = qs <;> simp [h1, h2]
theorem eqv_L (ps qs : List Pt) : deq (.list (ps.map eP)) (.list (qs.map eP)) = decide (ps = qs) := by unfold deq; rw [D.pd, D.pd, pds_P, pds_P, PySem.PyData.eqv, eqvs_P]
theorem any_P (ps : List Pt) (q : Pt) : ((ps.map eP).any fun e => deq e (eP q)) = decide (q ∈ ps) := by
  rw [List.any_map]
  induction ps with
  | nil => simp
  | cons p ps ih =>
    rw [List.any_cons, ih]
    show (deq (eP p) (eP q) || _) = _
    rw [eqv_P]
    by_cases h1 : p = q
    · subst h1; simp
    · have h2 : ¬ q = p := fun z => h1 z.symm
      by_cases h3 : q ∈ ps <;> simp [h1, h2, h3]
theorem ix_P0 (p : Pt) : gIx (.c (eP p)) (.c (.int 0)) = some (.c (.int p.1)) := rfl
theorem ix_P1 (p : Pt) : gIx (.c (eP p)) (.c (.int 1)) = some (.c (.int p.2)) := rfl
theorem mul_l {i j : Int} (h : -(2 ^ 64) < i ∧ i < 2 ^ 64) : mulOk i j = true := mulOk_of (.of_left (intBits_le_64 h.1 h.2))
theorem mul_r {i j : Int} (h : -(2 ^ 64) < j ∧ j < 2 ^ 64) : mulOk i j = true := mulOk_of (.of_right (intBits_le_64 h.1 h.2))
theorem tup_P (i j : Int) : R.c (.tuple [.int i, .int j]) = .c (eP (i, j)) := rfl
theorem isi_P (p : Pt) : gIsi .tuple (.c (eP p)) = some (.c (.bool true)) := rfl
theorem len_P (p : Pt) : gLen [.c (eP p)] = some (.c (.int 2)) := rfl
theorem isi_L (l : List D) : gIsi .list (.c (.list l)) = some (.c (.bool true)) := rfl
theorem isi_Lu (l : List D) : gIsi .list (.u (.list l)) = some (.c (.bool true)) := rfl
theorem isi_Tu (l : List D) : gIsi .tuple (.u (.tuple l)) = some (.c (.bool true)) := rfl
theorem len_L (l : List D) : gLen [.c (.list l)] = some (.c (.int l.length)) := rfl
theorem len_Lu (l : List D) : gLen [.u (.list l)] = some (.c (.int l.length)) := rfl
theorem len_Lo (l : List D) : gLen [.o l] = some (.c (.int l.length)) := by show (match (R.o l).d with | .list l => some (R.c (.int l.length)) | .tuple l => some (.c (.int l.length)) | _ => none) = _; rw [Rd_o]
theorem len_Tu (l : List D) : gLen [.u (.tuple l)] = some (.c (.int l.length)) := rfl
theorem any_o (bs : List Bool) : gAny [.o (bs.map .bool)] = some (.c (.bool (bs.any id))) := by show (match (R.o (bs.map .bool)).d with | .list l => (bls? l).map fun (ns : List Bool) => R.c (.bool (ns.any id)) | _ => none) = _; rw [Rd_o]; simp only [bls?_map]; rfl
theorem all_o (bs : List Bool) : gAll [.o (bs.map .bool)] = some (.c (.bool (bs.all id))) := by show (match (R.o (bs.map .bool)).d with | .list l => (bls? l).map fun (ns : List Bool) => R.c (.bool (ns.all id)) | _ => none) = _; rw [Rd_o]; simp only [bls?_map]; rfl
theorem sum_o (ns : List Int) : gSum [.o (ns.map .int)] = some (.c (.int ns.sum)) := by show (match (R.o (ns.map .int)).d with | .list l => (ints? l).map fun (ns : List Int) => R.c (.int ns.sum) | _ => none) = _; rw [Rd_o]; simp only [ints?_map]; rfl
theorem sum_c (ns : List Int) : gSum [.c (.list (ns.map .int))] = some (.c (.int ns.sum)) := by show (ints? (ns.map .int)).map (fun (ns : List Int) => R.c (.int ns.sum)) = _; rw [ints?_map]; rfl
theorem in_L (neg : Bool) (ps : List Pt) (q : Pt) : gIn neg (.c (eP q)) (.c (.list (ps.map eP))) = some (.c (.bool (neg != decide (q ∈ ps)))) := by
  show (if okD (eP q) && (ps.map eP).all okD then some (R.c (.bool (neg != (ps.map eP).any fun e => deq e (eP q)))) else none) = _
  rw [sh_P, shs_P, any_P]
  rfl
def sp (p q : Pt) : Int := p.1 * q.2 - p.2 * q.1
def std (p : Pt) : Bool := decide (0 < p.2) || (decide (p.2 = 0) && decide (0 < p.1))
def ad (p q : Pt) : Pt := (p.1 + q.1, p.2 + q.2)
def ng (p : Pt) : Pt := (-p.1, -p.2)
def stnd (p : Pt) : Pt := if std p then p else ng p
def Sm (p : Pt) : Prop := (-(2 ^ 64) < p.1 ∧ p.1 < 2 ^ 64) ∧ (-(2 ^ 64) < p.2 ∧ p.2 < 2 ^ 64)
def absI (i : Int) : Int := if i < 0 then -i else i
def near (p : Pt) : Bool := decide (absI p.1 ≤ 20) && decide (absI p.2 ≤ 20)
def psum : List Pt → Pt
  | [] => (0, 0)
  | p :: ps => ad p (psum ps)
end MD
namespace MD
open PySem PySem.Spec L2
theorem mLc1 {α : Type} {i : Nat} {mi : MI} {mt : MT} {me : ME} {E : Ev} {c : Bool} {l : List α} {enc : α → D} {b : α → Bool} {y : α → D} (hi : mi E = some (c, l.map enc)) (hl : l.length ≤ lim)
    (h : ∀ a ∈ l, (c || flat (enc a)) = true ∧ mt ((E.set i none).set i (some (.v (enc a)))) = some (b a) ∧ (b a = true → ∃ r, me ((E.set i none).set i (some (.v (enc a)))) = some r ∧ r.pro = some (y a))) :
    mLc [i] pick1 mi mt me E = some (.o ((l.filter b).map y)) := by
  unfold mLc
  rw [hi]
  show (if (l.map enc).length ≤ lim then _ else none) = _
  rw [List.length_map, if_pos hl]
  show (lcD [i] pick1 c mt me (wipeE E [i]) (l.map enc)).map R.o = _
  rw [lcD_map (b := b) (y := y) (qs := fun a => [enc a]) l fun a ha => let ⟨h1, h2, h3⟩ := h a ha; ⟨h1, rfl, h2, h3⟩]
  rfl
theorem filter_true {α : Type} (l : List α) : l.filter (fun _ => true) = l := List.filter_eq_self.mpr fun _ _ => rfl
theorem zips_map {α : Type} (enc : α → D) : ∀ xs ys : List α, zips (xs.map enc) (ys.map enc) = (xs.zip ys).map fun a => .tuple [enc a.1, enc a.2]
  | [], _ => by simp [zips]
  | _ :: _, [] => by simp [zips]
  | x :: xs, y :: ys => by simp [zips, zips_map enc xs ys]
theorem mIL_u (l : List D) {m : ME} {E : Ev} (h : m E = some (.u (.list l))) : mIL m E = some (false, l) := by unfold mIL; rw [h]; rfl
theorem mIL_o (l : List D) {m : ME} {E : Ev} (h : m E = some (.o l)) : mIL m E = some (true, l) := by unfold mIL; rw [h]; show (match (R.o l).d with | .list l => some ((R.o l).cl, l) | _ => none) = _; rw [Rd_o]; rfl
/-- a loop, its turns by an invariant -/
theorem mFor_ind {α : Type} {i : Nat} {mi : MI} {mb : MS} {E : Ev} {l : List α} {enc : α → D} (Pv : List α → Ev → Prop) (hi : mi E = some (true, l.map enc)) (h0 : Pv [] E)
    (step : ∀ (pre : List α) (a : α) (E : Ev), a ∈ l → pre.length < l.length → (∃ post, l = pre ++ a :: post) → Pv pre E → ∃ E', mb (E.set i (some (.v (enc a)))) = some (.nx E') ∧ Pv (pre ++ [a]) E') : ∃ E', mFor [i] pick1 mi mb E = some (.nx E') ∧ Pv l E' := by
  have main : ∀ (post pre : List α) (E : Ev), l = pre ++ post → Pv pre E → ∃ E', forD [i] pick1 mb (post.map enc) E = some (.nx E') ∧ Pv l E' := by
    intro post
    induction post with
    | nil => intro pre E e h; rw [List.append_nil] at e; subst e; exact ⟨E, rfl, h⟩
    | cons a post ih =>
      intro pre E e h
      obtain ⟨E', h1, h2⟩ := step pre a E (by rw [e]; simp) (by rw [e]; simp) ⟨post, e⟩ h
      obtain ⟨E2, h3, h4⟩ := ih (pre ++ [a]) E' (by rw [e]; simp) h2
      refine ⟨E2, ?_, h4⟩
      show (mb (E.set i (some (.v (enc a))))).bind _ = _
      rw [h1]
      exact h3
  obtain ⟨E', h1, h2⟩ := main l [] E rfl h0
  refine ⟨E', ?_, h2⟩
  unfold mFor
  rw [hi]
  exact h1
end MD
namespace MD
open PySem PySem.Spec L2
theorem bind_nx {β : Type} {X : Option Out} {f : Out → Option β} {b : β} {P : Ev → Prop} (h : ∃ E', X = some (.nx E') ∧ P E') (k : ∀ E', P E' → f (.nx E') = some b) : X.bind f = some b := by
  obtain ⟨E', e, p⟩ := h
  rw [e]
  exact k E' p
theorem all_f {α : Type} (l : List α) (f : α → Bool) : gAll [.o (l.map fun a => D.bool (f a))] = some (.c (.bool (l.all f))) := by
  have e : (l.map fun a => D.bool (f a)) = (l.map f).map .bool := by rw [List.map_map]; rfl
  rw [e, all_o, List.all_map]
  rfl
theorem any_f {α : Type} (l : List α) (f : α → Bool) : gAny [.o (l.map fun a => D.bool (f a))] = some (.c (.bool (l.any f))) := by
  have e : (l.map fun a => D.bool (f a)) = (l.map f).map .bool := by rw [List.map_map]; rfl
  rw [e, any_o, List.any_map]
  rfl
theorem sum_f {α : Type} (l : List α) (f : α → Int) : gSum [.o (l.map fun a => D.int (f a))] = some (.c (.int (l.map f).sum)) := by
  have e : (l.map fun a => D.int (f a)) = (l.map f).map .int := by rw [List.map_map]; rfl
  rw [e, sum_o]
theorem Td_fl (l : List D) : (Tr.fl l).d = .list l := Tr.fl_d l
theorem Td_pair (T : Tr) (d : D) : (Tr.tup [T, .leaf d]).d = .tuple [T.d, d] := by simp [Tr.d, Tr.ds]
theorem Ro_t (T : List D) : R.t (Tr.fl T) = .o T := rfl
theorem rng_map (lo : Int) (n : Nat) : rng lo n = (List.range n).map fun (i : Nat) => D.int (lo + i) := rfl
theorem lst_fl (l : List D) : Tr.lst (l.map .leaf) = Tr.fl l := rfl
theorem set_fl (l : List D) (j : Nat) (d : D) : (l.map Tr.leaf).set j (.leaf d) = (l.set j d).map Tr.leaf := by rw [List.map_set]
theorem mApp_fl {i : Nat} {n : MA} {E : Ev} {l : List D} {d : D} {rs : List R} (h : E[i]? = some (some (.t (Tr.fl l)))) (hn : n E = some rs) (hp : pros rs = some [d]) (hl : l.length < lim) : mApp i n E = some (.nx (E.set i (some (.t (Tr.fl (l ++ [d])))))) := by
  unfold mApp
  rw [h]
  show (n E).bind _ = _
  rw [hn]
  show (pros rs).bind _ = _
  rw [hp]
  show (if (l.map Tr.leaf).length < lim then _ else none) = _
  rw [List.length_map, if_pos hl]
  unfold Tr.fl
  rw [List.map_append]
  rfl
theorem mIns_fl {i : Nat} {n : MA} {E : Ev} {l : List D} {d : D} {k : Int} {rs : List R} (h : E[i]? = some (some (.t (Tr.fl l)))) (hn : n E = some rs) (hp : pros rs = some [.int k, d]) (hl : l.length < lim) (hk : -(2 ^ 63) ≤ k ∧ k < 2 ^ 63) : mIns i n E = some (.nx (E.set i (some (.t (Tr.fl (insAt l k d)))))) := by
  unfold mIns
  rw [h]
  show (n E).bind _ = _
  rw [hn]
  show (pros rs).bind _ = _
  rw [hp]
  show (if (l.map Tr.leaf).length < lim ∧ -(2 ^ 63) ≤ k ∧ k < 2 ^ 63 then _ else none) = _
  rw [List.length_map, if_pos ⟨hl, hk⟩, insAt_map]
  rfl
theorem mSetI_fl {i : Nat} {mi m : ME} {E : Ev} {l : List D} {d : D} {k : Int} {j : Nat} {r ri : R} (h : E[i]? = some (some (.t (Tr.fl l)))) (hm : m E = some r) (hr : r.pro = some d) (hi : mi E = some ri) (hk : ri.d = .int k) (hj : ixN l.length k = some j) : mSetI i mi m E = some (.nx (E.set i (some (.t (Tr.fl (l.set j d)))))) := by
  unfold mSetI
  rw [hm]
  show (r.pro).bind _ = _
  rw [hr]
  show (match E[i]? with | some (some (.t (.lst l))) => _ | _ => none) = _
  rw [h]
  show (mi E).bind _ = _
  rw [hi]
  show (match ri.d with | .int k => _ | _ => none) = _
  rw [hk]
  show (ixN (l.map Tr.leaf).length k).bind _ = _
  rw [List.length_map, hj]
  show some (Out.nx (E.set i (some (.t (.lst ((l.map Tr.leaf).set j (.leaf d))))))) = _
  rw [set_fl]
  rfl
end MD
namespace MD
theorem rAsgO_o (i : Nat) (E : Ev) (l : List D) : rAsgO i E (.o l) = some (.nx (E.set i (some (.t (Tr.fl l))))) := rfl
theorem rAsgO_t (i : Nat) (E : Ev) (T : Tr) : rAsgO i E (.t T) = some (.nx (E.set i (some (.t T)))) := rfl
end MD
namespace MD
open PySem PySem.Spec L2
theorem mSeq_nx {s t : MS} {E E1 : Ev} (h : s E = some (.nx E1)) : mSeq s t E = t E1 := by unfold mSeq; rw [h]; rfl
theorem mSeq_ex {s t : MS} {E : Ev} {P : Ev → Prop} {Q : Out → Prop} (h : ∃ E', s E = some (.nx E') ∧ P E') (k : ∀ E', P E' → ∃ b, t E' = some b ∧ Q b) : ∃ b, mSeq s t E = some b ∧ Q b := by
  obtain ⟨E', e, p⟩ := h
  rw [mSeq_nx e]
  exact k E' p
theorem runD_get {m : MS} {N : List Str} {ds : List D} {Q : R → Prop} (h : ∃ o, m (startE N ds) = some o ∧ ∃ r, o = .rt r ∧ Q r.up) : ∃ r, runD m N ds = some r ∧ Q r := by
  obtain ⟨o, e, r, rfl, q⟩ := h
  exact ⟨r.up, runD_eq e, q⟩
theorem mIfS_t {c : MT} {s t : MS} {E : Ev} (h : c E = some true) : mIfS c s t E = s E := by unfold mIfS; rw [h]; rfl
theorem mIfS_f {c : MT} {s t : MS} {E : Ev} (h : c E = some false) : mIfS c s t E = t E := by unfold mIfS; rw [h]; rfl
theorem cut_c (l : List D) (lo hi : Option Int) : gCut (.c (.list l)) lo hi = some (.o (cutD l lo hi)) := rfl
theorem sh_nil : okD (.list []) = true := rfl
theorem ix_ints (cs : List Int) {k : Int} (h0 : 0 ≤ k) (h1 : k < cs.length) : ∃ c ∈ cs, gIx (.c (.list (cs.map .int))) (.c (.int k)) = some (.c (.int c)) := by
  obtain ⟨j, rfl⟩ : ∃ j : Nat, k = j := ⟨k.toNat, by omega⟩
  have hj : j < cs.length := by omega
  refine ⟨cs[j], List.getElem_mem hj, ?_⟩
  show (atI (cs.map D.int) (j : Int)).map (R.mk' true) = _
  have : atI (cs.map D.int) (j : Int) = some (.int cs[j]) := by
    unfold atI ixN
    rw [List.length_map, if_pos h0, if_pos h1]
    simp [hj]
  rw [this]
  rfl
end MD
namespace MD
open PySem PySem.Spec L2
theorem mIR1_eq {n : MA} {E : Ev} {j : Int} (h : n E = some [.c (.int j)]) (hb : big62 j = true) : mIR1 n E = some (true, (List.range j.toNat).map fun (i : Nat) => D.int (0 + (i : Int))) := by
  unfold mIR1
  rw [h]
  show (if big62 j = true then _ else none) = _
  rw [if_pos hb]
  rfl
end MD
namespace MD
open PySem PySem.Spec L2
theorem mSeq_nxE {s t : MS} {E : Ev} {P Q : Ev → Prop} (h : ∃ E1, s E = some (.nx E1) ∧ P E1) (k : ∀ E1, P E1 → ∃ E', t E1 = some (.nx E') ∧ Q E') : ∃ E', mSeq s t E = some (.nx E') ∧ Q E' := by
  obtain ⟨E1, e, p⟩ := h
  rw [mSeq_nx e]
  exact k E1 p
theorem ix_T0 (d : D) (l : List D) : gIx (.u (.tuple (d :: l))) (.c (.int 0)) = some (R.mk' false d) := by
  show (atI (d :: l) 0).map (R.mk' false) = _
  rw [atI_0]
  rfl
theorem list_c (l : List D) : gList [.c (.list l)] = some (.o l) := rfl
theorem map_set_P (ps : List Pt) (j : Nat) (p : Pt) : (ps.map eP).set j (eP p) = (ps.set j p).map eP := by rw [List.map_set]
theorem mIZ_eq {n : MA} {E : Ev} {x y : R} {l l' : List D} (h : n E = some [x, y]) (hx : x.d = .list l) (hy : y.d = .list l') : mIZ n E = some (x.cl && y.cl, zips l l') := by
  unfold mIZ
  rw [h]
  show (match x.d, y.d with | .list l, .list l' => some (x.cl && y.cl, zips l l') | _, _ => none) = _
  rw [hx, hy]
end MD
namespace MD
open PySem PySem.Spec L2
theorem runD_to {m : MS} {N : List Str} {ds : List D} {r0 : R} (h : ∃ o, m (startE N ds) = some o ∧ ∃ r, o = .rt r ∧ r.up = r0) : runD m N ds = some r0 := by
  obtain ⟨o, e, r, rfl, q⟩ := h
  rw [← q]
  exact runD_eq e
end MD

namespace MD
open PySem PySem.Spec L2
/-! ### the mathematics of gathered sticks -/
def sm2 (l : List Pt) : Pt := ((l.map (·.1)).sum, (l.map (·.2)).sum)
theorem sm2_nil : sm2 [] = (0, 0) := rfl
theorem sm2_cons (p : Pt) (l : List Pt) : sm2 (p :: l) = ad p (sm2 l) := by simp [sm2, ad]
theorem ad_assoc (a b c : Pt) : ad (ad a b) c = ad a (ad b c) := by unfold ad; simp only [Int.add_assoc]
theorem ad_zero (a : Pt) : ad a (0, 0) = a := by simp [ad]
theorem zero_ad (a : Pt) : ad (0, 0) a = a := by simp [ad]
theorem sm2_app (l r : List Pt) : sm2 (l ++ r) = ad (sm2 l) (sm2 r) := by simp [sm2, ad]
def Std (p : Pt) : Prop := 0 < p.2 ∨ (p.2 = 0 ∧ 0 < p.1)
theorem std_iff {p : Pt} : std p = true ↔ Std p := by unfold std Std; simp
theorem sp_anti (a b : Pt) : sp b a = - sp a b := by unfold sp; have h1 := Int.mul_comm b.1 a.2; have h2 := Int.mul_comm b.2 a.1; omega
theorem sp_self (a : Pt) : sp a a = 0 := by unfold sp; rw [Int.mul_comm]; omega
theorem sp_adl (a b c : Pt) : sp (ad a b) c = sp a c + sp b c := by unfold sp ad; simp only [Int.add_mul]; omega
theorem sp_adr (a b c : Pt) : sp a (ad b c) = sp a b + sp a c := by unfold sp ad; simp only [Int.mul_add]; omega
theorem Std.ad {a b : Pt} (ha : Std a) (hb : Std b) : Std (ad a b) := by unfold Std MD.ad at *; simp only; omega
theorem pl (a b c : Pt) : b.2 * sp a c = a.2 * sp b c + c.2 * sp a b := by
  unfold sp
  simp only [Int.mul_sub]
  have e1 : b.2 * (a.1 * c.2) = c.2 * (a.1 * b.2) := by rw [← Int.mul_assoc, Int.mul_comm b.2 a.1, Int.mul_comm (a.1 * b.2) c.2]
  have e2 : b.2 * (a.2 * c.1) = a.2 * (b.2 * c.1) := by rw [← Int.mul_assoc, ← Int.mul_assoc, Int.mul_comm b.2 a.2]
  have e3 : a.2 * (b.1 * c.2) = c.2 * (a.2 * b.1) := by rw [← Int.mul_assoc, Int.mul_comm (a.2 * b.1) c.2]
  omega
theorem pos_of_mul {b x : Int} (hb : 0 < b) (h : 0 < b * x) : 0 < x := by
  rcases Int.lt_trichotomy x 0 with q | q | q
  · have := Int.mul_neg_of_pos_of_neg hb q; omega
  · subst q; simp at h
  · exact q
theorem zero_of_mul {b x : Int} (hb : 0 < b) (h : b * x = 0) : x = 0 := by
  rcases Int.mul_eq_zero.mp h with q | q
  · omega
  · exact q
/-- a standing b that is farther round than some standing a leads up -/
theorem up_of {a b : Pt} (ha : Std a) (hb : Std b) (h : 0 < sp a b) : 0 < b.2 := by
  rcases hb with q | ⟨q1, q2⟩
  · exact q
  · exfalso
    unfold sp at h
    rw [q1, Int.mul_zero] at h
    have ha2 : 0 ≤ a.2 := by rcases ha with z | z <;> omega
    have := Int.mul_nonneg ha2 (Int.le_of_lt q2)
    omega
theorem tr1 {a b c : Pt} (ha : Std a) (hb : Std b) (hc : Std c) (h1 : 0 < sp a b) (h2 : 0 < sp b c) : 0 < sp a c := by
  have b2 := up_of ha hb h1
  have c2 := up_of hb hc h2
  have a2 : 0 ≤ a.2 := by rcases ha with z | z <;> omega
  have e := pl a b c
  have e1 := Int.mul_nonneg a2 (Int.le_of_lt h2)
  have e2 := Int.mul_pos c2 h1
  exact pos_of_mul b2 (by omega)
theorem tr2 {a b c : Pt} (ha : Std a) (hb : Std b) (hc : Std c) (h1 : sp a b = 0) (h2 : 0 < sp b c) : 0 < sp a c := by
  have c2 := up_of hb hc h2
  rcases hb with b2 | ⟨b2, b1⟩
  · have a2 : 0 < a.2 := by
      rcases ha with z | ⟨z1, z2⟩
      · exact z
      · exfalso
        unfold sp at h1
        rw [z1, Int.zero_mul] at h1
        have := Int.mul_pos z2 b2
        omega
    have e := pl a b c
    rw [h1, Int.mul_zero] at e
    have e1 := Int.mul_pos a2 h2
    exact pos_of_mul b2 (by omega)
  · have a2 : a.2 = 0 := by
      unfold sp at h1
      rw [b2, Int.mul_zero] at h1
      have : a.2 * b.1 = 0 := by omega
      rcases Int.mul_eq_zero.mp this with q | q
      · exact q
      · omega
    have a1 : 0 < a.1 := by rcases ha with z | z <;> omega
    unfold sp
    rw [a2, Int.zero_mul]
    have := Int.mul_pos a1 c2
    omega
theorem tr3 {a b c : Pt} (ha : Std a) (hb : Std b) (hc : Std c) (h1 : 0 < sp a b) (h2 : sp b c = 0) : 0 < sp a c := by
  have b2 := up_of ha hb h1
  have c2 : 0 < c.2 := by
    rcases hc with z | ⟨z1, z2⟩
    · exact z
    · exfalso
      unfold sp at h2
      rw [z1, Int.mul_zero] at h2
      have := Int.mul_pos b2 z2
      omega
  have e := pl a b c
  rw [h2, Int.mul_zero] at e
  have e1 := Int.mul_pos c2 h1
  exact pos_of_mul b2 (by omega)
theorem tr4 {a b c : Pt} (ha : Std a) (hb : Std b) (hc : Std c) (h1 : sp a b = 0) (h2 : sp b c = 0) : sp a c = 0 := by
  rcases hb with b2 | ⟨b2, b1⟩
  · have e := pl a b c
    rw [h1, h2, Int.mul_zero, Int.mul_zero] at e
    exact zero_of_mul b2 (by omega)
  · have a2 : a.2 = 0 := by
      unfold sp at h1
      rw [b2, Int.mul_zero] at h1
      have : a.2 * b.1 = 0 := by omega
      rcases Int.mul_eq_zero.mp this with q | q
      · exact q
      · omega
    have c2 : c.2 = 0 := by
      unfold sp at h2
      rw [b2, Int.zero_mul] at h2
      have : b.1 * c.2 = 0 := by omega
      rcases Int.mul_eq_zero.mp this with q | q
      · omega
      · exact q
    unfold sp
    rw [a2, c2]
    omega
theorem sp0_sym {a b : Pt} (h : sp a b = 0) : sp b a = 0 := by rw [sp_anti, h]; rfl

/-! one more stick -/
def along (ss : List Pt) (p : Pt) : List Pt := ss.filter fun s => decide (sp s p = 0)
def newSt (ss : List Pt) (p : Pt) : Pt := (along ss p).foldl (fun a o => ad o a) p
def swith (ss : List Pt) (p : Pt) : List Pt := ss.filter (fun s => decide (0 < sp s p)) ++ [newSt ss p] ++ ss.filter (fun s => decide (sp s p < 0))
/-- the sticks of the standing rows S -/
structure GInv (ss S : List Pt) : Prop where
  sd : ∀ s ∈ ss, Std s
  rd : ∀ r ∈ S, Std r
  pw : ss.Pairwise fun a b => 0 < sp a b
  su : ∀ s ∈ ss, s = sm2 (S.filter fun r => decide (sp s r = 0)) ∧ ∃ r ∈ S, sp s r = 0
  ex : ∀ r ∈ S, ∃ s ∈ ss, sp s r = 0
theorem GInv.nil : GInv [] [] := ⟨fun _ h => (by cases h), fun _ h => (by cases h), List.Pairwise.nil, fun _ h => (by cases h), fun _ h => (by cases h)⟩
theorem pw_one {α : Type} {R : α → α → Prop} {P : α → Prop} (hn : ∀ a b, P a → P b → R a b → False) : ∀ {l : List α}, l.Pairwise R → (∀ a ∈ l, P a) → l = [] ∨ ∃ a, l = [a]
  | [], _, _ => .inl rfl
  | [a], _, _ => .inr ⟨a, rfl⟩
  | a :: b :: l, h, hp => by
    have h1 := (List.pairwise_cons.mp h).1 b List.mem_cons_self
    exact (hn a b (hp a List.mem_cons_self) (hp b (List.mem_cons_of_mem _ List.mem_cons_self)) h1).elim
theorem GInv.along {ss S : List Pt} (h : GInv ss S) {p : Pt} (hp : Std p) : MD.along ss p = [] ∨ ∃ o, MD.along ss p = [o] ∧ o ∈ ss ∧ sp o p = 0 := by
  have mem : ∀ o ∈ MD.along ss p, o ∈ ss ∧ sp o p = 0 := fun o ho => by
    unfold MD.along at ho
    rw [List.mem_filter, decide_eq_true_eq] at ho
    exact ho
  rcases pw_one (P := fun o => o ∈ ss ∧ sp o p = 0) (R := fun a b => 0 < sp a b) (fun a b ha hb hr => by
      have := tr4 (h.sd a ha.1) hp (h.sd b hb.1) ha.2 (sp0_sym hb.2)
      omega) (List.Pairwise.filter _ h.pw) mem with e | ⟨o, e⟩
  · exact .inl e
  · exact .inr ⟨o, e, mem o (by rw [show MD.along ss p = [o] from e]; exact List.mem_cons_self)⟩
theorem filter_none {α : Type} {P : α → Bool} {l : List α} (h : ∀ a ∈ l, P a = false) : l.filter P = [] := List.filter_eq_nil_iff.mpr fun a ha => by rw [h a ha]; simp
theorem GInv.step {ss S : List Pt} (h : GInv ss S) {p : Pt} (hp : Std p) : GInv (swith ss p) (S ++ [p]) := by
  -- the new stick
  have hq : Std (newSt ss p) ∧ sp (newSt ss p) p = 0 ∧ newSt ss p = sm2 ((S ++ [p]).filter fun r => decide (sp (newSt ss p) r = 0)) := by
    rcases h.along hp with e | ⟨o, e, ho, e2⟩
    · have eq : newSt ss p = p := by unfold newSt; rw [e]; rfl
      rw [eq]
      refine ⟨hp, sp_self p, ?_⟩
      rw [List.filter_append, filter_none (l := S), List.nil_append]
      · rw [List.filter_cons, if_pos (by rw [sp_self]; rfl)]
        rw [List.filter_nil, sm2_cons, sm2_nil, ad_zero]
      · intro r hr
        refine decide_eq_false fun z => ?_
        obtain ⟨s, hs, es⟩ := h.ex r hr
        have := tr4 (h.sd s hs) (h.rd r hr) hp es (sp0_sym z)
        have hm : s ∈ MD.along ss p := by unfold MD.along; rw [List.mem_filter, decide_eq_true_eq]; exact ⟨hs, this⟩
        rw [e] at hm
        cases hm
    · have eq : newSt ss p = ad o p := by unfold newSt; rw [e]; rfl
      have so := h.sd o ho
      have sq : Std (ad o p) := so.ad hp
      have e3 : sp (ad o p) p = 0 := by rw [sp_adl, e2, sp_self]; rfl
      have e4 : sp o (ad o p) = 0 := by rw [sp_adr, sp_self, e2]; rfl
      rw [eq]
      refine ⟨sq, e3, ?_⟩
      have ef : (S.filter fun r => decide (sp (ad o p) r = 0)) = S.filter fun r => decide (sp o r = 0) := by
        apply List.filter_congr
        intro r hr
        have hr' := h.rd r hr
        by_cases z : sp o r = 0
        · rw [decide_eq_true z, decide_eq_true (tr4 sq so hr' (sp0_sym e4) z)]
        · rw [decide_eq_false z, decide_eq_false fun y => z (tr4 so sq hr' e4 y)]
      rw [List.filter_append, ef, sm2_app, ← (h.su o ho).1, List.filter_cons, if_pos (by rw [e3]; rfl), List.filter_nil, sm2_cons, sm2_nil, ad_zero]
  obtain ⟨sq, eq, em⟩ := hq
  have old : ∀ s ∈ ss, sp s p ≠ 0 → s = sm2 ((S ++ [p]).filter fun r => decide (sp s r = 0)) ∧ ∃ r ∈ S ++ [p], sp s r = 0 := fun s hs hn => by
    obtain ⟨h1, r, hr, h2⟩ := h.su s hs
    refine ⟨?_, r, List.mem_append_left _ hr, h2⟩
    rw [List.filter_append, List.filter_cons, if_neg (by simp [hn]), List.filter_nil, List.append_nil]
    exact h1
  have mem : ∀ s, s ∈ swith ss p ↔ (s ∈ ss ∧ 0 < sp s p) ∨ s = newSt ss p ∨ (s ∈ ss ∧ sp s p < 0) := fun s => by
    unfold swith
    simp only [List.mem_append, List.mem_filter, decide_eq_true_eq, List.mem_singleton]
    constructor
    · rintro ((q | q) | q)
      · exact .inl q
      · exact .inr (.inl q)
      · exact .inr (.inr q)
    · rintro (q | q | q)
      · exact .inl (.inl q)
      · exact .inl (.inr q)
      · exact .inr q
  refine ⟨fun s hs => ?_, fun r hr => ?_, ?_, fun s hs => ?_, fun r hr => ?_⟩
  · rcases (mem s).mp hs with ⟨q, _⟩ | q | ⟨q, _⟩
    · exact h.sd s q
    · rw [q]; exact sq
    · exact h.sd s q
  · rcases List.mem_append.mp hr with q | q
    · exact h.rd r q
    · rw [List.mem_singleton.mp q]; exact hp
  · unfold swith
    rw [List.append_assoc, List.pairwise_append]
    refine ⟨List.Pairwise.filter _ h.pw, ?_, fun a ha b hb => ?_⟩
    · rw [List.singleton_append, List.pairwise_cons]
      refine ⟨fun b hb => ?_, List.Pairwise.filter _ h.pw⟩
      rw [List.mem_filter, decide_eq_true_eq] at hb
      refine tr2 sq hp (h.sd b hb.1) eq ?_
      rw [sp_anti]
      omega
    · rw [List.mem_filter, decide_eq_true_eq] at ha
      rw [List.singleton_append] at hb
      rcases List.mem_cons.mp hb with z | z
      · rw [z]
        exact tr3 (h.sd a ha.1) hp sq ha.2 (sp0_sym eq)
      · rw [List.mem_filter, decide_eq_true_eq] at z
        refine tr1 (h.sd a ha.1) hp (h.sd b z.1) ha.2 ?_
        rw [sp_anti]
        omega
  · rcases (mem s).mp hs with ⟨q, z⟩ | q | ⟨q, z⟩
    · exact old s q (by omega)
    · rw [q]
      exact ⟨em, p, List.mem_append_right _ List.mem_cons_self, eq⟩
    · exact old s q (by omega)
  · rcases List.mem_append.mp hr with q | q
    · obtain ⟨s, hs, es⟩ := h.ex r q
      rcases Int.lt_trichotomy (sp s p) 0 with z | z | z
      · exact ⟨s, (mem s).mpr (.inr (.inr ⟨hs, z⟩)), es⟩
      · refine ⟨newSt ss p, (mem _).mpr (.inr (.inl rfl)), ?_⟩
        have e1 : sp p r = 0 := tr4 hp (h.sd s hs) (h.rd r q) (sp0_sym z) es
        exact tr4 sq hp (h.rd r q) eq e1
      · exact ⟨s, (mem s).mpr (.inl ⟨hs, z⟩), es⟩
    · rw [List.mem_singleton.mp q]
      exact ⟨newSt ss p, (mem _).mpr (.inr (.inl rfl)), eq⟩
def gstep (a : List Pt × Pt) (r : Pt) : List Pt × Pt := (swith a.1 (stnd r), if std r then a.2 else ad a.2 r)
def gth (rows : List Pt) : List Pt × Pt := rows.foldl gstep ([], (0, 0))
def Good (p : Pt) : Prop := near p = true ∧ p ≠ (0, 0)
theorem Good.std {p : Pt} (h : Good p) : Std (stnd p) := by
  unfold stnd
  split
  · rename_i q; exact std_iff.mp q
  · rename_i q
    have q' : ¬ Std p := fun z => q (std_iff.mpr z)
    unfold Std ng at *
    have h2 := h.2
    obtain ⟨a, b⟩ := p
    simp only [ne_eq, Prod.mk.injEq, not_and] at h2
    simp only at q' ⊢
    by_cases hb : b = 0
    · have : a ≠ 0 := fun z => h2 z hb
      omega
    · omega
theorem near_iff {p : Pt} : near p = true ↔ (-20 ≤ p.1 ∧ p.1 ≤ 20) ∧ (-20 ≤ p.2 ∧ p.2 ≤ 20) := by
  unfold near absI
  simp only [Bool.and_eq_true, decide_eq_true_eq]
  constructor
  · rintro ⟨h1, h2⟩
    split at h1 <;> split at h2 <;> omega
  · rintro ⟨h1, h2⟩
    refine ⟨?_, ?_⟩ <;> (split <;> omega)
theorem near_sm {p : Pt} (h : near p = true) : Sm p := by
  rw [near_iff] at h
  unfold Sm
  omega
theorem sm2_bound : ∀ (l : List Pt), (∀ r ∈ l, near r = true) → (-(20 * (l.length : Int)) ≤ (sm2 l).1 ∧ (sm2 l).1 ≤ 20 * l.length) ∧ (-(20 * (l.length : Int)) ≤ (sm2 l).2 ∧ (sm2 l).2 ≤ 20 * l.length)
  | [], _ => by simp [sm2]
  | r :: l, h => by
    have ih := sm2_bound l fun x hx => h x (List.mem_cons_of_mem _ hx)
    have hr := near_iff.mp (h r List.mem_cons_self)
    rw [sm2_cons, List.length_cons]
    unfold ad
    simp only
    omega
end MD
namespace MD
open PySem PySem.Spec L2 PySem.Builtin.Int
theorem mulOk_bits {a b : Int} {m n : Nat} (ha : intBits a ≤ m) (hb : intBits b ≤ n) (h : m + n ≤ 134217728) : mulOk a b = true := mulOk_of (PyProof.Rows.mulOk_of_bits ha hb h)
theorem num_prod {x y : Int} (hx : 0 ≤ x) (hx2 : x < 2147483647) (hy : 0 ≤ y) (hy2 : y ≤ 2147600000) : 0 ≤ x * y ∧ x * y < 2 ^ 64 := by
  refine ⟨Int.mul_nonneg hx hy, ?_⟩
  have h1 : x * y ≤ 2147483647 * y := Int.mul_le_mul_of_nonneg_right (by omega) hy
  have h2 : 2147483647 * y ≤ 2147483647 * 2147600000 := Int.mul_le_mul_of_nonneg_left hy2 (by decide)
  have h3 : (2147483647 : Int) * 2147600000 < 2 ^ 64 := by decide
  omega
theorem fold_num {cell at' whole : Int} (hc : intBits cell ≤ 1048576) (h0 : 0 ≤ at') (h1 : at' ≤ 1000) (mixed : Int) (e : mixed = ((cell + 977 * at') * 48271 + whole) % 2147483647) :
    mulOk 977 at' = true ∧ mulOk (cell + 977 * at') 48271 = true ∧ mulOk 31 at' = true ∧ mulOk mixed (mixed + 31 * at' + 7) = true ∧ mulOk (mixed * (mixed + 31 * at' + 7)) (mixed + cell + 5) = true ∧
      mulOk (mixed * (mixed + 31 * at' + 7) * (mixed + cell + 5)) (mixed * (mixed + 31 * at' + 7) * (mixed + cell + 5) + 48271) = true := by
  have m0 : 0 ≤ mixed := by rw [e]; exact Int.emod_nonneg _ (by decide)
  have m1 : mixed < 2147483647 := by rw [e]; exact Int.emod_lt_of_pos _ (by decide)
  have pr := num_prod m0 m1 (y := mixed + 31 * at' + 7) (by omega) (by omega)
  have b1 : intBits (mixed * (mixed + 31 * at' + 7)) ≤ 64 := intBits_le_64 (by omega) pr.2
  have b2 : intBits (mixed + cell + 5) ≤ 1048580 := by
    have := PyProof.Rows.bits_add (PyProof.Rows.bits_add (intBits_le_64 (k := mixed) (by omega) (by omega)) hc) (intBits_le_64 (k := 5) (by decide) (by decide))
    omega
  have b3 := PyProof.Rows.bits_mul b1 b2
  have b4 := PyProof.Rows.bits_add b3 (intBits_le_64 (k := 48271) (by decide) (by decide))
  refine ⟨mul_l (by decide), mul_r (by decide), mul_l (by decide), mul_l ⟨by omega, by omega⟩, mul_l ⟨by omega, pr.2⟩, mulOk_bits b3 b4 (by omega)⟩
/-- a pair by a number -/
def lpair (n : Int) : Pt := (if n / 41 % 21 = 0 then 1 + absI (n % 41 - 20) % 20 else n % 41 - 20, n / 41 % 21)
theorem Good.ng {p : Pt} (h : Good p) : Good (ng p) := by
  obtain ⟨h1, h2⟩ := h
  rw [near_iff] at h1
  refine ⟨near_iff.mpr (by unfold MD.ng; simp only; omega), fun z => h2 ?_⟩
  unfold MD.ng at z
  simp only [Prod.mk.injEq] at z
  obtain ⟨a, b⟩ := p
  simp only [Prod.mk.injEq]
  simp only at z
  omega
theorem Good.two {p : Pt} (h : Good p) (hx : absI p.1 < 11) (hy : absI p.2 < 11) : Good (-2 * p.1, -2 * p.2) := by
  obtain ⟨h1, h2⟩ := h
  unfold absI at hx hy
  refine ⟨near_iff.mpr ?_, fun z => h2 ?_⟩
  · simp only
    split at hx <;> split at hy <;> omega
  · simp only [Prod.mk.injEq] at z
    obtain ⟨a, b⟩ := p
    simp only [Prod.mk.injEq]
    simp only at z
    omega
theorem insAt_mapE {α β : Type} (f : α → β) (l : List α) (x : Int) (y : α) : insAt (l.map f) x (f y) = (insAt l x y).map f := by
  unfold insAt
  simp
theorem pds_ints : ∀ ns : List Int, D.pds (ns.map .int) = ns.map .int
  | [] => by simp [D.pds]
  | n :: ns => by simp [D.pds, D.pd, pds_ints ns]
theorem pures_ints : ∀ ns : List Int, D.pures (ns.map .int) = true
  | [] => by simp [D.pures]
  | n :: ns => by simp [D.pures, D.pure, pures_ints ns]
theorem sh_ints (ns : List Int) : okD (.list (ns.map .int)) = true := by
  unfold okD
  rw [D.pure, pures_ints, D.pd, pds_ints, PySem.W.ke_shaped_ints]
  rfl
theorem eqv_ints_nil (ns : List Int) : deq (.list (ns.map .int)) (.list []) = decide (ns = []) := by
  unfold deq
  rw [D.pd, D.pd, pds_ints, D.pds, PySem.PyData.eqv]
  cases ns with
  | nil => simp [PySem.PyData.eqvAll]
  | cons n ns => simp [PySem.PyData.eqvAll]
theorem cut63 (ns : List Int) : ∃ cs : List Int, cutD (ns.map .int) none (some 63) = cs.map .int ∧ (∀ c ∈ cs, c ∈ ns) ∧ (ns ≠ [] → cs ≠ []) := by
  have h0 : HT.sIx (ns.map D.int).length 0 none = 0 := rfl
  have h1 : HT.sIx (ns.map D.int).length (ns.map D.int).length (some 63) = min 63 ns.length := by
    unfold HT.sIx
    rw [List.length_map]
    simp
    try omega
  refine ⟨ns.take (min 63 ns.length), ?_, fun c hc => List.mem_of_mem_take hc, fun hn hz => hn ?_⟩
  · unfold cutD
    rw [h0, h1, List.drop_zero, Nat.sub_zero, List.map_take]
  · cases ns with
    | nil => rfl
    | cons n ns => simp at hz
end MD
namespace MD
open PySem PySem.Spec L2
theorem ex_nx {A : Ev → Prop} {P Q : Ev → Prop} (h : ∃ E', A E' ∧ P E') (k : ∀ E', P E' → Q E') : ∃ E', A E' ∧ Q E' := let ⟨E', a, p⟩ := h; ⟨E', a, k E' p⟩
theorem eqv_L_nil (ps : List Pt) : deq (.list (ps.map eP)) (.list []) = decide (ps = []) := by
  have h := eqv_L ps []
  rw [List.map_nil] at h
  exact h
theorem flat_PP (a b : Pt) : flat (.tuple [eP a, eP b]) = true := by simp [flat, flats, flat_P]
end MD

namespace Att
open PySem PySem.W PySem.Spec PyProof.Rows
theorem weight_mem : ∀ {ns : List Int} {n : Int}, n ∈ ns → WData.weight (.int n) ≤ WData.weightAll (ns.map .int)
  | [], _, h => by cases h
  | m :: ns, n, h => by
    rw [List.map_cons, WData.weightAll]
    rcases List.mem_cons.mp h with e | e
    · subst e; omega
    · have := weight_mem e; omega
theorem bits_mem {ns : List Int} (h : WData.layable (.list (ns.map .int)) = true) : ∀ n ∈ ns, Builtin.Int.intBits n ≤ 1048576 := fun n hn => by
  unfold WData.layable at h
  simp only [Bool.and_eq_true, decide_eq_true_eq] at h
  have h2 := h.2
  rw [WData.weight] at h2
  have h3 := weight_mem hn
  rw [WData.weight] at h3
  unfold Builtin.Int.intBits
  omega
end Att
namespace Att
open PySem PySem.W PySem.Calls PyProof.Rows
/-- the call, with the script's numbers bounded -/
theorem attach_callB {l : OpenLaw} {n : Nat} {q : Program} {loose : List Str} {XP : (Str → Option Value) → Heap → Prop} {YP : World → Heap → Prop} {d : DefRec}
    (hn : l.most = some n) (hdf : d.params.defaults = [])
    (call : ∀ (w : World) (s₀ s₁ : Shared) (mg mb : Str → Option Value) (fa : Addr) (o : Obj) (pm cd doc : Value) (a : Addr) (vs : List Value) (ns : List Int),
      Ground q loose [] XP w s₀ mg mb s₁.heap → YP w s₁.heap →
      s₁.heap.get? fa = some o → o.data = .func (docDef d.name d.params d.body d.scope pm cd doc) → s₁.heap.CodeRec cd d.name → mg d.name = some (.ref fa) →
      s₁.heap.get? a = some { cls := .type "list", data := .seq vs.toArray } → IntsAre vs ns → ns.length ≤ n → s₁.gens = #[] → (∀ m ∈ ns, Builtin.Int.intBits m ≤ 1048576) →
      codeAny (model l.prog w) callerA (.call (.ref fa) ⟨[.ref a], []⟩) (fun r s' => r = .ok (.ret (.bool true)) ∧ OldK s₁.heap s'.heap ∧ s'.os = s₁.os ∧ AllBare s'.gens) s₁) :
    WalkO q loose XP YP l.row.toRowW d [] (fun f vs => PySem.call f vs) := by
  intro w s₀ s₁ mg mb G Y fa o pm cd doc dV kV ho hd hcd hD hmg hg args vals as hpre hlay hrd hwl hlo
  obtain rfl : dV = .none := Dflts.none hD hdf
  obtain rfl : kV = .none := Dflts.noKw hD
  obtain ⟨a, vs, ns, rfl, rfl, hobj, hints, hlen⟩ := script_of hn hpre hwl
  have hb : ∀ m ∈ ns, Builtin.Int.intBits m ≤ 1048576 := by
    unfold WData.layableAll at hlay
    rw [List.all_cons, Bool.and_eq_true] at hlay
    exact bits_mem hlay.1
  refine enter_call (codeAny_mono (call w s₀ s₁ mg mb fa o pm cd doc a vs ns G Y ho (fd_plain hd) hcd hmg hobj hints hlen hg hb) fun r s' hq => ?_)
  obtain ⟨rfl, h2, h3, h4⟩ := hq
  exact ⟨.inl ⟨.bool true, .bool true, [], rfl, fun _ => rfl, .bool true, post_true l _, fun _ => ⟨List.Pairwise.nil, fun _ hm => (nomatch hm)⟩⟩, h2, h3, h4⟩
end Att
namespace MD
open PySem PySem.Spec PyProof.Rows L2
/-- the law's promise -/
def spLaw (K : PySem.W.Frag) : Sp := fun vs H Q _ => ∃ (a : Addr) (ns : List Int), vs = [.ref a] ∧ SqL K H a (ns.map V.int) ∧ ns.length ≤ 63 ∧ (∀ m ∈ ns, Builtin.Int.intBits m ≤ 1048576) ∧ ∀ H', Q (.bl true) H'
theorem walk_ofB {l : PySem.W.OpenLaw} {k : Nat} {q : Program} {loose : List Str} {XP : (Str → Option Value) → Heap → Prop} {YP : World → Heap → Prop} {d : DefRec} {K : Params → PySem.W.Frag} {x : Str}
    (hn : l.most = some 63) (hdf : d.params.defaults = []) (hr : Room k callerA)
    (hY : ∀ (w : World) (h : Heap), YP w h → (K w.params).In h)
    (F : ∀ (w : World) (mg : Str → Option Value) (fa : Addr) (h : Heap), (K w.params).In h → h.Ns mainGlobals mg → mg d.name = some (.ref fa) →
      ∃ fd : FuncData, (∀ (s : Shared) (u : Value), BindsTo s fd ⟨[u], []⟩ [(x, u)]) ∧
        ∀ base : Heap, (K w.params).In base → base.Ns mainGlobals mg → FnOk l.prog w (K w.params) mg base CX0 k fa fd [x] (spLaw (K w.params))) :
    PySem.W.WalkO q loose XP YP l.row.toRowW d [] (fun f vs => PySem.call f vs) := by
  refine Att.attach_callB hn hdf fun w s₀ s₁ mg mb fa o pm cd doc a vs ns G Y ho hd hcd hmg hobj hints hlen hg hb => ?_
  have KX := hY w _ Y
  obtain ⟨fd, hbi, hF⟩ := F w mg fa _ KX G.T.g hmg
  exact law_call KX G.T.g G.T.b G.T.builtins G.T.nolimit hg hobj hints (Nat.le_trans hlen (by decide)) hr hF hbi (fun H hO hS => ⟨a, ns, rfl, hS, hlen, hb, fun _ => rfl⟩) fun H e s' h => h
theorem law_of {P : Program} {w : World} {K : PySem.W.Frag} {mg : Str → Option Value} {base : Heap} {k : Nat} {f : Addr} {fd : FuncData} {x : Str} {g : List D → Option R} (F : FnOk P w K mg base CX0 k f fd [x] (spD K 1 g))
    (hg : ∀ ns : List Int, (∀ n ∈ ns, Builtin.Int.intBits n ≤ 1048576) → ns.length ≤ 63 → g [.list (ns.map .int)] = some (.c (.bool true))) : FnOk P w K mg base CX0 k f fd [x] (spLaw K) := by
  refine F.imp fun vs H Q E h => ?_
  obtain ⟨a, ns, rfl, hS, hl, hb, q⟩ := h
  refine ⟨rfl, noM, [.list (ns.map .int)], .c (.bool true), (fun a h => (by cases h)), .cons (.lst (hid_none.seq hS) (DpAll_ofInts ns)) .nil, hg ns hb hl, fun v H' s ra rf => ?_⟩
  have ra : Dp K (hid (WM.mk noM noM).w H') v (.bool true) := ra
  cases Dp_bool ra
  exact q H'
theorem fn_ex {P : Program} {w : World} {K : PySem.W.Frag} {mg : Str → Option Value} {base : Heap} {x : Str} {st : Stmt} {f : Addr} {fd : FuncData} {N ps : List Str} {k : Nat} {m : MS} {Spec : (List D → Option R) → Prop} (F : Fun K x x st f fd) (S : FnScope N ps (defScope st))
    (hbody : ∀ (f : Addr) (cdv : Value) (A : Around) (outer : List Env) (s : Shared) (H : Hp) (E : XK), Room k (A.deeper (PyProof.Rows.envOfC x (defScope st) s.heap.objs.size f cdv)) →
      PSs (cxOf CX0 P w K mg base N x (defScope st) f cdv A outer s H E).nox (defBody st) (sM K false m))
    (hs : Spec (runD m N)) : ∃ g, FnOk P w K mg base CX0 (k + 1) f fd ps (spD K ps.length g) ∧ Spec g := ⟨runD m N, fn_D F S rfl (hbody f) (fun ds r h _ => runD_ok ds r h), hs⟩
theorem fung_mk {K : PySem.W.Frag} {mg : Str → Option Value} {h : Heap} {x : Str} {st : Stmt} {ps : List Str} {f : Addr} {oc : Value} {od an : Option Addr} {osl : Array (Option Value)} {kV doc pm cdv ct : Value} (X : K.In h) (G : h.Ns mainGlobals mg)
    (a : PySem.W.nsIn K mainGlobals x = some (some (.ref f))) (l : K.lookup f = some ⟨oc, od, .func (PySem.W.fnOf x x (defArgs st) (defBody st) (defScope st) .none kV doc pm an cdv ct), osl⟩) (c : PySem.W.codeIn K cdv x = true) (k : PySem.W.keepIn K (.ref f) = true)
    (hb : ∀ (kV doc pm : Value) (an : Option Addr) (cdv ct : Value) (us : List Value), us.length = ps.length → bindArgs (PySem.W.fnOf x x (defArgs st) (defBody st) (defScope st) .none kV doc pm an cdv ct) ⟨us, []⟩ = pure (ps.zip us)) : FunG K mg x st ps :=
  ⟨_, _, fun_mk l c k, PySem.W.mg_of X G a, (fun_mk l c k).binds hb⟩
end MD

namespace MD
open PySem PySem.Spec L2
section
variable {X : Cx} {K : PySem.W.Frag} {e tg : Expr} {m ma mb : ME} {n : MA} {pos p : Pos} {es : List Expr} {ff : Bool}
/-! ### enumerate -/
def enums : Nat → List D → List D
  | _, [] => []
  | i, x :: xs => .tuple [.int (i : Nat), x] :: enums (i + 1) xs
def mIE (n : MA) : MI := fun E => (n E).bind fun rs => match rs with
  | [x] => (match x.d with | .list l => some (x.cl, enums 0 l) | _ => none)
  | _ => none
/-! ### while -/
def whileD (c : MT) (b : MS) : Nat → Ev → Option Out
  | 0, _ => none
  | n + 1, E => (c E).bind fun k => if k = true then (b E).bind fun o => (match o with
    | .nx E' => whileD c b n E'
    | .ct E' => whileD c b n E'
    | .bk E' => some (.nx E')
    | .rt r => some (.rt r)) else some (.nx E)
theorem whileD_up {c : MT} {b : MS} : ∀ {n : Nat} {E : Ev} {o : Out}, whileD c b n E = some o → whileD c b (n + 1) E = some o
  | 0, E, o, h => by cases h
  | n + 1, E, o, h => by
    unfold whileD at h ⊢
    obtain ⟨k, e1, h⟩ := bindSome h
    rw [e1]
    show (if k = true then _ else _) = _
    cases k with
    | false => exact h
    | true =>
      rw [if_pos rfl] at h ⊢
      obtain ⟨ob, e2, h⟩ := bindSome h
      rw [e2]
      cases ob with
      | nx E' => exact whileD_up h
      | ct E' => exact whileD_up h
      | bk E' => exact h
      | rt r => exact h
theorem whileD_le {c : MT} {b : MS} {n : Nat} {E : Ev} {o : Out} (h : whileD c b n E = some o) : ∀ k, whileD c b (n + k) E = some o
  | 0 => h
  | k + 1 => whileD_up (whileD_le h k)
open Classical in
noncomputable def mWhile (c : MT) (b : MS) : MS := fun E => if h : ∃ o n, whileD c b n E = some o then some h.choose else none
theorem mWhile_eq {c : MT} {b : MS} {n : Nat} {E : Ev} {o : Out} (h : whileD c b n E = some o) : mWhile c b E = some o := by
  unfold mWhile
  have q : ∃ o n, whileD c b n E = some o := ⟨o, n, h⟩
  rw [dif_pos q]
  obtain ⟨n', h'⟩ := q.choose_spec
  have h1 := whileD_le h n'
  have h2 := whileD_le h' n
  rw [Nat.add_comm] at h2
  rw [h2] at h1
  exact h1
theorem mWhile_get {c : MT} {b : MS} {E : Ev} {o : Out} (h : mWhile c b E = some o) : ∃ n, whileD c b n E = some o := by
  unfold mWhile at h
  split at h
  · rename_i q
    cases h
    exact q.choose_spec
  · cases h
theorem while_of {c : MT} {b : MS} : ∀ D σ H, sM K ff (mWhile c b) D σ H → tWhile (tMT K c) (sM K ff b) D σ H := fun D σ H ⟨E, W, o, hH, hm, k⟩ => by
  obtain ⟨n0, hn⟩ := mWhile_get hm
  refine ⟨fun m σ2 H2 => ∃ E2 O2, Held K H2 ⟨W.z, O2⟩ σ2 E2 ∧ Fr ff H W.o H2 O2 ∧ whileD c b m E2 = some o, ⟨n0, E, W.o, hH, Fr.refl, hn⟩, ?_⟩
  rintro m σ2 H2 ⟨E2, O2, hh, fr, ew⟩
  cases m with
  | zero => cases ew
  | succ m =>
    unfold whileD at ew
    obtain ⟨kk, e1, ew⟩ := bindSome ew
    refine ⟨E2, ⟨W.z, O2⟩, kk, hh, e1, fun H3 s3 => ?_⟩
    have fr3 : Fr ff H W.o H3 O2 := fr.trans (Fr.of s3)
    cases kk with
    | false =>
      rw [if_neg Bool.false_ne_true] at ew
      cases ew
      exact iteF (k _ _ O2 (hh.grow s3) fr3)
    | true =>
      rw [if_pos rfl] at ew
      obtain ⟨ob, e2, ew⟩ := bindSome ew
      refine iteT ⟨fun σ' H' => ∃ E2 O2, Held K H' ⟨W.z, O2⟩ σ' E2 ∧ Fr ff H W.o H' O2 ∧ whileD c b m E2 = some o, fun σ' H' q => ⟨m, Nat.lt_succ_self m, q⟩, E2, ⟨W.z, O2⟩, ob, hh.grow s3, e2, ?_⟩
      cases ob with
      | nx E' => exact fun σ' H' O' h' f' => ⟨E', O', h', fr3.trans f', ew⟩
      | ct E' => exact fun σ' H' O' h' f' => ⟨E', O', h', fr3.trans f', ew⟩
      | bk E' => cases ew; exact fun σ' H' O' h' f' => k σ' H' O' h' (fr3.trans f')
      | rt r => cases ew; exact fun v H' O' f' q gq => k v H' O' (fr3.trans f') q (gq.back fr3)
theorem m_while {c : Expr} {body : List Stmt} {mc : MT} {mb : MS} (hp : PassesOwn (model X.prog X.w) X.A X.env X.xe) (hc : PT X c (tMT X.K mc)) (hb : PSs X body (sM X.K ff mb)) : PS X (.While c body [] pos) (sM X.K ff (mWhile mc mb)) :=
  ps_imp (ps_while hp hc hb) while_of
/-- a while by a word and a number that falls -/
theorem mWhile_ind {c : MT} {b : MS} (Pv : Ev → Prop) (μ : Ev → Nat) (step : ∀ E, Pv E → c E = some false ∨ (c E = some true ∧ ∃ E', b E = some (.nx E') ∧ Pv E' ∧ μ E' < μ E)) : ∀ (E : Ev), Pv E → ∃ E', mWhile c b E = some (.nx E') ∧ Pv E' ∧ c E' = some false := by
  have main : ∀ (n : Nat) (E : Ev), Pv E → μ E < n → ∃ E', whileD c b n E = some (.nx E') ∧ Pv E' ∧ c E' = some false := by
    intro n
    induction n with
    | zero => intro E _ h; exact absurd h (Nat.not_lt_zero _)
    | succ n ih =>
      intro E hE hn
      rcases step E hE with h | ⟨h, E1, h1, h2, h3⟩
      · refine ⟨E, ?_, hE, h⟩
        unfold whileD
        rw [h]
        rfl
      · obtain ⟨E2, h4, h5, h6⟩ := ih E1 h2 (by omega)
        refine ⟨E2, ?_, h5, h6⟩
        unfold whileD
        rw [h]
        show (b E).bind _ = _
        rw [h1]
        exact h4
  intro E hE
  obtain ⟨E', h1, h2, h3⟩ := main (μ E + 1) E hE (Nat.lt_succ_self _)
  exact ⟨E', mWhile_eq h1, h2, h3⟩

/-! ### a, b = e, e' where a is to be an own thing -/
def mParO (i j : Nat) (m : ME) (m' : ME) : MS := fun E => (m E).bind fun r => (m' E).bind fun r' => r'.pro.bind fun d => if flat d = true then (rAsgO i E r).bind fun o => match o with | .nx E' => some (.nx (E'.set j (some (.v d)))) | o => some o else none
theorem m_parO {i j : Nat} {x y : Str} {a b : Expr} {px py pt : Pos} {kt k2 : Nat} {pt2 : Pos} (hc : X.calm = true) (hN : X.N.Nodup) (ha : PE X a (tM X.K ma)) (hb : PE X b (tM X.K mb)) (hi : X.N[i]? = some x := by rfl) (hj : X.N[j]? = some y := by rfl) (hij : i ≠ j := by decide)
    (hx : X.env.scope.names.lookup x = some .local := by rfl) (hy : X.env.scope.names.lookup y = some .local := by rfl)
    (hw : swappedStores [.Tuple [.Name x px, .Name y py] kt pt] (.Tuple [a, b] k2 pt2) X.env = pure (some [x, y]) := by rfl)
    (hs : swapsWithSole [.Tuple [.Name x px, .Name y py] kt pt] (.Tuple [a, b] k2 pt2) pos.line X.env = pure false := by rfl)
    (hs1 : starEach [a, b] X.env = (false, eval a X.env) :: starEach [b] X.env := by rfl) (hs2 : starEach [b] X.env = (false, eval b X.env) :: starEach [] X.env := by rfl) :
    PS X (.Assign [.Tuple [.Name x px, .Name y py] kt pt] (.Tuple [a, b] k2 pt2) pos) (sM X.K false (mParO i j ma mb)) :=
  ps_imp (ps_par hc hN hi hj hij hx hy (pa_cons ha (pa_cons hb pa_nil hs2) hs1) hw hs) fun D σ H ⟨E, W, o, hH, hm, k⟩ => by
    obtain ⟨r, e1, hm⟩ := bindSome hm
    obtain ⟨r', e2, hm⟩ := bindSome hm
    obtain ⟨d, e3, hm⟩ := bindSome hm
    split at hm
    rotate_left
    · cases hm
    rename_i hfl
    obtain ⟨o1, e4, hm⟩ := bindSome hm
    cases r with
    | c d => cases e4
    | u d => cases e4
    | t T =>
      cases e4
      cases hm
      refine ⟨E, W, .t T, hH, e1, fun v H1 s1 r1 f1 => ⟨E, W, r', hH.grow s1, e2, fun v' H2 s2 r2 f2 => ⟨v, v', rfl, ?_⟩⟩⟩
      have f1' : RF H H2 v (.t T) := fun K' M as l a ha => by
        obtain ⟨hd, as', g1, g2, g3⟩ := r1
        have ee : as = as' := lk_det2 T v as as' l (lk_mono s2 (hid_same s2) T v as' g1)
        subst ee
        exact f1 _ _ _ g1 a ha
      obtain ⟨O', h1, h2⟩ := hH.seto (s1.trans s2) i (r1.grow s2) f1'
      have hd2 : Dp X.K (hid (WM.mk W.z O').w H2) v' d := by
        have q := r2.pro ((hH.grow s1).grow s2).dom e3
        exact dp_flat h1.dom _ _ hfl (Dpm q hid_sub)
      exact k _ H2 O' (h1.setv j hd2) h2
end
end MD

namespace MD
open PySem PySem.Spec L2
section
variable {X : Cx} {K : PySem.W.Frag} {e a b o : Expr} {m ma mb : ME} {n : MA} {pos p p2 apos : Pos} {es : List Expr}

/-! ### objects: a field -/
def fldOf : List Str → List D → Str → Option D
  | x :: ns, d :: ds, f => if f == x then some d else fldOf ns ds f
  | _, _, _ => none
theorem fld_get {H : Hp} (f : Str) : ∀ {fs : List (Str × V)} {ds : List D} {d : D}, DpAll K H (fs.map (·.2)) ds → fldOf (fs.map (·.1)) ds f = some d → ∃ v, fs.lookup f = some v ∧ Dp K H v d
  | [], _, _, h, e => by cases h; cases e
  | (x, v) :: fs, ds, d, h, e => by
    have h : DpAll K H (v :: fs.map (·.2)) ds := h
    cases h with
    | cons h1 h2 =>
      have e : (if f == x then some _ else fldOf (fs.map (·.1)) _ f) = some d := e
      rw [List.lookup_cons]
      cases q : f == x with
      | true => rw [q] at e; cases e; exact ⟨v, rfl, h1⟩
      | false => rw [q] at e; exact fld_get f h2 e
theorem fld_at {H : Hp} (f : Str) {fs : List (Str × V)} {ds : List D} {d : D} {v : V} (h : DpAll K H (fs.map (·.2)) ds) (e : fldOf (fs.map (·.1)) ds f = some d) (hv : fs.lookup f = some v) : Dp K H v d := by
  obtain ⟨v', e1, q⟩ := fld_get f h e
  rw [hv] at e1
  cases e1
  exact q
theorem Dp_obj {H : Hp} {v : V} {C : Addr} {ns : List Str} {ds : List D} (h : Dp K H v (.obj C ns ds)) : ∃ a dx fs, v = .ref a ∧ H a = some (.ins C dx fs) ∧ fs.map (·.1) = ns ∧ DpAll K H (fs.map (·.2)) ds := by
  cases h with | obj h1 h2 => exact ⟨_, _, _, rfl, h1, rfl, h2⟩
def gFld (Cs : List Addr) (f : Str) : G1 := fun x => match x.d with
  | .obj C ns ds => if C ∈ Cs then (fldOf ns ds f).map (R.mk' x.cl) else none
  | _ => none
theorem m_fld (Cs : List Addr) {f : Str} (hC : ∀ C ∈ Cs, Cls X.K C ∧ NoAttr X.K C f) (he : PE X e (tM X.K m)) (hb : attributeBase e f X.env (eval e X.env) = eval e X.env := by rfl) : PE X (.Attribute e f pos) (tM X.K (mUn (gFld Cs f) m)) :=
  pe_imp (pe_fld he hb) fun σ H Q ⟨E, W, rc, hH, hm, k⟩ => by
    obtain ⟨ra, ea, hm⟩ := bindSome hm
    unfold gFld at hm
    split at hm
    · rename_i C ns ds ed
      split at hm
      · rename_i hc
        obtain ⟨d, e1, e2⟩ := mapSome hm
        subst e2
        obtain ⟨c1, c2⟩ := hC C hc
        refine ⟨E, W, ra, hH, ea, fun x H1 s1 r1 f1 => ?_⟩
        have hz := r1.dz
        rw [ed] at hz
        obtain ⟨a', dx, fs, rfl, h1, h2, h3⟩ := Dp_obj hz
        subst h2
        obtain ⟨v, l1, dv⟩ := fld_get f h3 e1
        refine ⟨a', C, dx, fs, v, rfl, (hid_eq.mp h1).2, c1, c2, l1, k v H1 s1 (mk'_ok (hH.grow s1).dom (fun hcl => ?_) dv) mk'_f⟩
        have hw := r1.cln hcl
        rw [ed] at hw
        obtain ⟨a2, dx2, fs2, ea2, g1, g2, g3⟩ := Dp_obj hw
        cases ea2
        have z := (hid_eq.mp g1).2
        rw [(hid_eq.mp h1).2] at z
        cases z
        exact fld_at f g3 e1 l1
      · cases hm
    · cases hm
/-! ### one of two ways -/
def mAlt (m1 m2 : ME) : ME := fun E => match m1 E with | some r => some r | none => m2 E
theorem m_alt {m1 m2 : ME} (h1 : PE X e (tM X.K m1)) (h2 : PE X e (tM X.K m2)) : PE X e (tM X.K (mAlt m1 m2)) := fun pins s σ H Q I ⟨E, W, r, hH, hm, k⟩ => by
  unfold mAlt at hm
  split at hm
  · rename_i r' e'
    cases hm
    exact h1 pins s σ H Q I ⟨E, W, r, hH, e', k⟩
  · exact h2 pins s σ H Q I ⟨E, W, r, hH, hm, k⟩
/-! ### a method -/
def mMeth (C : Addr) (mn : Str) (n0 : Nat) (g : List D → Option R) (mo : ME) (n : MA) : ME := fun E => (mo E).bind fun x => match x.d with
  | .obj C' ns _ => if C' = C ∧ mn ∉ ns then mCall n0 g (fun E => (n E).bind fun rs => some (x :: rs)) E else none
  | _ => none
theorem lookup_none {f : Str} : ∀ {fs : List (Str × V)}, f ∉ fs.map (·.1) → fs.lookup f = none
  | [], _ => rfl
  | (x, v) :: fs, h => by
    rw [List.lookup_cons]
    have h1 : ¬ f = x := fun z => h (by rw [z]; exact List.mem_cons_self)
    have h2 : (f == x) = false := by simpa using h1
    rw [h2]
    exact lookup_none fun z => h (List.mem_cons_of_mem _ z)
theorem m_meth {C f : Addr} {mn : Str} {fd : FuncData} {ps : List Str} {k n0 : Nat} {g : List D → Option R} {pl : Sem Bool} (he : PE X o (tM X.K m)) (c : Cls X.K C) (hm : Meth X.K C mn f) (F : FnOk X.prog X.w X.K X.mg X.base CX0 k f fd ps (spD X.K n0 g)) (hr : Room k X.A) (hb : Binds X.K fd ps []) (ha : PA X (e :: es) (tMA X.K n))
    (hst : starEach (e :: es) X.env = (false, eval e X.env) :: starEach es X.env := by rfl) (hpl : (backTo pos (starEach es X.env)).any (·.1) = false := by rfl)
    (ht : eval (.Call (.Attribute o mn apos) (e :: es) [] pos) X.env = (do
      let ov ← eval o X.env
      standAt apos.atName
      let (f, first) ← holding [ov] (getMethod ov mn pl)
      callWith pos f first (backTo pos (starEach (e :: es) X.env)) (backToKw pos (keywordEach [] X.env))) := by rfl) :
    PE X (.Call (.Attribute o mn apos) (e :: es) [] pos) (tM X.K (mMeth C mn n0 g m n)) :=
  pe_imp (pe_meth (E := E0) (pl := pl) he c hm F hr hb .nil pass0 ha hst hpl ht) fun σ H Q ⟨E, W, rc, hH, hmm, kk⟩ => by
    obtain ⟨ra, ea, hq⟩ := bindSome hmm
    clear hmm
    split at hq
    · rename_i C' ns ds ed
      split at hq
      · rename_i hc
        obtain ⟨hc1, hc2⟩ := hc
        subst hc1
        obtain ⟨rs', er, hmm⟩ := bindSome hq
        clear hq
        obtain ⟨rs, en, er⟩ := bindSome er
        cases er
        split at hmm
        · rename_i hn
          refine ⟨E, W, ra, hH, ea, fun x H1 s1 r1 f1 => ?_⟩
          have hz := r1.dz
          rw [ed] at hz
          obtain ⟨a', dx, fs, ex, h1, h2, h3⟩ := Dp_obj hz
          refine ⟨a', dx, fs, ex, (hid_eq.mp h1).2, lookup_none (by rw [h2]; exact hc2), E, W, rs, hH.grow s1, en, fun vs H2 s2 r2 => ?_⟩
          have hd := ((hH.grow s1).grow s2).dom
          show spD X.K n0 g (x :: (vs ++ [])) H2 Q E0
          rw [List.append_nil]
          have ras : RAs X.K H2 W (x :: vs) (ra :: rs) := .cons (r1.grow s2) r2
          refine ⟨by rw [ras.len]; exact hn, ?_⟩
          split at hmm
          · rename_i dss ep
            obtain ⟨r, eg, e2⟩ := mapSome hmm
            subst e2
            exact ⟨W.w, dss, r, hd, ras.pros hd ep, eg, fun v H' s' ra' rf => kk v H' ((s1.trans s2).trans s') (up_ok ra') (up_f (rf.anti (s1.trans s2)))⟩
          · obtain ⟨r, eg, e2⟩ := mapSome hmm
            subst e2
            exact ⟨W.z, _, r, fun a ha => hd a (WM.zw a ha), ras.dps, eg, fun v H' s' ra' rf => kk v H' ((s1.trans s2).trans s') (taint_ok hd s' ra' rf) (taint_f (rf.anti (s1.trans s2)))⟩
        · cases hmm
      · cases hq
    · cases hq
/-! ### x is True, x is not True, of truths -/
def rIsB (neg : Bool) : R2 := fun x y H Q => ∃ i j, x = .bl i ∧ y = .bl j ∧ Q (.bl (neg != (i == j))) H
theorem op_isB : OpR X (compareOp .Is) (rIsB false) := by
  intro pins s σ H x y v u Q I rx ry h
  obtain ⟨i, j, rfl, rfl, q⟩ := h
  cases rx
  cases ry
  refine PyProof.Rows.is_bool ⟨.bl _, H, I, rfl, ?_⟩
  simpa using q
theorem op_isnotB : OpR X (compareOp .IsNot) (rIsB true) := by
  intro pins s σ H x y v u Q I rx ry h
  obtain ⟨i, j, rfl, rfl, q⟩ := h
  cases rx
  cases ry
  refine PyProof.Rows.isnot_bool ⟨.bl _, H, I, rfl, ?_⟩
  have e : (i != j) = (true != (i == j)) := by cases i <;> cases j <;> rfl
  rw [e]
  exact q
def gIsB (neg : Bool) : G2 := fun x y => match x.d, y.d with
  | .bool i, .bool j => some (.c (.bool (neg != (i == j))))
  | _, _ => none
theorem s_isB {neg : Bool} : SOp K (rIsB neg) (gIsB neg) := by
  intro x y ra rb rc H W Q hW hx hy hg k
  unfold gIsB at hg
  split at hg
  · rename_i i j ei ej
    cases hg
    have h1 := hx.dp
    have h2 := hy.dp
    rw [ei] at h1
    rw [ej] at h2
    exact ⟨i, j, Dp_bool h1, Dp_bool h2, k _ H (Same.refl H) (Dp.bl _) trivial⟩
  · cases hg
end
end MD
namespace MD
open PySem PySem.Spec L2
/-! ### isinstance of an own class -/
structure ClsI (K : PySem.W.Frag) (C : Addr) : Prop where
  hg : PySem.W.plainGet K C "__class__" = true
  hd : PySem.W.hasDictIn K C = true
  ha : PySem.W.findIn K (.ref C) "__class__" = some (some (.builtin "object.__class__"))
  hn : PySem.W.specialIn K (.builtin "object.__class__") "__get__" = some (some (.builtin "getset_descriptor.__get__"))
  ht : PySem.W.takesIn K (.builtin "object.__class__") = some true
  hm : PySem.W.mroIn K C (.type "object") = some true
def isiO (K : PySem.W.Frag) (Cs : List Addr) (C : Addr) : D → Option Bool
  | .none => PySem.W.kitOne K (.type "NoneType") (.ref C)
  | .bool _ => PySem.W.kitOne K (.type "bool") (.ref C)
  | .int _ => PySem.W.kitOne K (.type "int") (.ref C)
  | .str _ => PySem.W.kitOne K (.type "str") (.ref C)
  | .list _ => PySem.W.kitOne K (.type "list") (.ref C)
  | .tuple _ => PySem.W.kitOne K (.type "tuple") (.ref C)
  | .obj C0 _ _ => if C0 ∈ Cs then PySem.W.kitOne K (.ref C0) (.ref C) else none
def rIsiO (K : PySem.W.Frag) (Cs : List Addr) (C : Addr) : List V → Hp → VK → Prop := fun xs H Q => ∃ x d b, xs = [x, .ref C] ∧ Dp K H x d ∧ isiO K Cs C d = some b ∧ Q (.bl b) H
section
variable {X : Cx} {e : Expr} {m : ME} {pos p p2 : Pos}
theorem cr_isiO (Cs : List Addr) (C : Addr) (hC : ∀ C0 ∈ Cs, ClsI X.K C0) : CallR X (.builtin "isinstance") (rIsiO X.K Cs C) := by
  intro pins s σ H xs us Q I r h
  obtain ⟨x, d, k, rfl, hd, hi, q⟩ := h
  obtain ⟨u, v, rfl, ru, rv⟩ := r.two
  cases rv
  have fin : ∀ tk, EP X pins σ Q (.bool k) { s with toks := tk } := fun tk => ⟨.bl k, H, I.tok _, rfl, q⟩
  have KX := I.kIn
  cases d with
  | none => cases hd; cases ru; exact PySem.W.kia_one PySem.W.kitx_none KX trivial hi (by intro z; cases z) fin
  | bool z => cases hd; cases ru; exact PySem.W.kia_one PySem.W.kitx_bool KX trivial hi (by intro z; cases z) fin
  | int z => cases hd; obtain ⟨t, rfl⟩ := ru; exact PySem.W.kia_one PySem.W.kitx_int KX trivial hi (by intro z; cases z) fin
  | str z => cases hd; obtain ⟨t, rfl⟩ := ru; exact PySem.W.kia_one PySem.W.kitx_str KX trivial hi (by intro z; cases z) fin
  | list ds =>
    obtain ⟨a', xs, rfl, hs, _⟩ := Dp_list hd
    cases ru
    obtain ⟨its, _, ⟨o, _, ho, hc, _⟩, _⟩ := I.list hs
    exact PySem.W.kia_one PySem.W.kitx_list KX ⟨o, ho, hc⟩ hi (by intro z; cases z) fin
  | tuple ds =>
    obtain ⟨a', xs, rfl, hs, _⟩ := Dp_tup hd
    cases ru
    obtain ⟨its, _, ⟨o, ho, hc, _⟩, _⟩ := I.tuple hs
    exact PySem.W.kia_one PySem.W.kitx_tuple KX ⟨o, ho, hc⟩ hi (by intro z; cases z) fin
  | obj C0 ns ds =>
    obtain ⟨a', dx, fs, rfl, h1, h2, h3⟩ := Dp_obj hd
    cases ru
    have hi : (if C0 ∈ Cs then PySem.W.kitOne X.K (.ref C0) (.ref C) else none) = some k := hi
    split at hi
    · rename_i hc
      have T := hC C0 hc
      obtain ⟨mA, o1, _, _, _, _⟩ := ins_get I.hok h1
      obtain ⟨od, IA, _⟩ := o1.look
      exact PySem.W.kia_one (PySem.W.kitx_own T.hg T.hd T.ha T.hn T.ht T.hm) KX IA hi (by intro z; cases z) fin
    · cases hi
def gIsiO (K : PySem.W.Frag) (Cs : List Addr) (C : Addr) : G1 := fun x => (isiO K Cs C x.d).map fun k => .c (.bool k)
theorem m_isiO (Cs : List Addr) {C : Addr} {y : Str} (hC : ∀ C0 ∈ Cs, ClsI X.K C0) (hm : X.mg "isinstance" = none) (hy : X.mg y = some (.ref C)) (he : PE X e (tM X.K m)) (hg : Gl X "isinstance" := by rfl) (hgy : Gl X y := by rfl) (hd : (y == ("__debug__" : Str)) = false := by decide)
    (h1 : starEach [e, .Name y p2] X.env = (false, eval e X.env) :: starEach [.Name y p2] X.env := by rfl) (h2 : (backTo pos (starEach [.Name y p2] X.env)).any (·.1) = false := by rfl)
    (h3 : starEach [.Name y p2] X.env = (false, eval (.Name y p2) X.env) :: starEach [] X.env := by rfl) :
    PE X (.Call (.Name "isinstance" p) [e, .Name y p2] [] pos) (tM X.K (mUn (gIsiO X.K Cs C) m)) :=
  pe_imp (pe_callB (cr_isiO Cs C hC) hg hm PyProof.Rows.boot_isinstance (pa_cons he (pa_cons (pe_glob (v := .ref C) hgy hy rfl hd) pa_nil h3) h1) (he := h1) (hpl := h2)) fun σ H Q ⟨E, W, rc, hH, hm, k⟩ => by
    obtain ⟨ra, ea, hm⟩ := bindSome hm
    unfold gIsiO at hm
    cases hi : isiO X.K Cs C ra.d with
    | none => rw [hi] at hm; cases hm
    | some z =>
      rw [hi] at hm
      cases hm
      exact ⟨E, W, ra, hH, ea, fun x H1 s1 r1 f1 => ⟨x, ra.d, z, rfl, r1.dp, hi, k _ H1 s1 (Dp.bl z) trivial⟩⟩
end
end MD
namespace MD
open PySem PySem.Spec L2
/-! ### C(..): a new object -/
def spInit (K : PySem.W.Frag) (C : Addr) (n0 : Nat) (ns : List Str) (g : List D → Option (List Tr)) : Sp := fun vs H Q _ => vs.length = n0 + 1 ∧ ∃ x dx avs, vs = .ref x :: avs ∧ H x = some (.ins C dx []) ∧ ∃ Z ds Ts, Dom Z H ∧ DpAll K (hid Z H) avs ds ∧ g ds = some Ts ∧
  ∀ H' fs as, (∀ b o, H b = some o → b ≠ x → H' b = some o) → H' x = some (.ins C dx fs) → fs.map (·.1) = ns → Lks K H' (adms as Z) (fs.map (·.2)) as Ts → as.Nodup → (∀ a ∈ as, H a = none) → Q .non H'
def mMake (C : Addr) (n0 : Nat) (ns : List Str) (g : List D → Option (List Tr)) (n : MA) : ME := fun E => (n E).bind fun rs => if rs.length = n0 then (match pros rs with
  | some ds => (g ds).map fun Ts => R.t (.obj C ns Ts)
  | none => (g (rs.map R.d)).map fun Ts => (R.t (.obj C ns Ts)).taint) else none
section
variable {X : Cx} {e : Expr} {m : ME} {n : MA} {es : List Expr} {pos p p2 : Pos}
theorem make_of {K : PySem.W.Frag} {C : Addr} {n0 : Nat} {ns : List Str} {g : List D → Option (List Tr)} : ∀ σ H Q, tM K (mMake C n0 ns g n) σ H Q → tMake C (spInit K C n0 ns g) [] E0 (tMA K n) σ H Q := fun σ H Q ⟨E, W, rc, hH, hm, kk⟩ => by
  obtain ⟨rs, ea, hm⟩ := bindSome hm
  split at hm
  · rename_i hn
    refine ⟨E, W, rs, hH, ea, fun vs H1 s1 r1 x dx hx hdx hne => ?_⟩
    have hd1 := (hH.grow s1).dom
    have s2 : Same H1 (upd (upd H1 dx (.own x)) x (.ins C dx [])) := fun b o q => by
      rw [upd_ne (ne_of_none q hx), upd_ne (ne_of_none q hdx)]
      exact q
    have hd2 := hd1.grow s2
    show spInit K C n0 ns g (.ref x :: (vs ++ [])) _ _ _
    rw [List.append_nil]
    -- what a finished object is worth
    have fin : ∀ (Z : Msk) (Ts : List Tr) (H' : Hp) (fs : List (Str × V)) (as : List Addr), Dom Z H1 → (∀ b o, (upd (upd H1 dx (.own x)) x (.ins C dx [])) b = some o → b ≠ x → H' b = some o) → H' x = some (.ins C dx fs) → fs.map (·.1) = ns → Lks K H' (adms as Z) (fs.map (·.2)) as Ts → as.Nodup → (∀ a ∈ as, (upd (upd H1 dx (.own x)) x (.ins C dx [])) a = none) →
        Same H H' ∧ RA K H' ⟨Z, noM⟩ (.ref x) (.t (.obj C ns Ts)) ∧ RF H H' (.ref x) (.t (.obj C ns Ts)) ∧ Same H1 H' := fun Z Ts H' fs as hZ h1 h2 h3 h4 h5 h6 => by
      have s3 : Same H1 H' := fun b o q => h1 b o (s2 b o q) (ne_of_none q hx)
      have hfree : ∀ a ∈ as, H1 a = none := fun a ha => s2.free (h6 a ha)
      have lk : Lk K H' (adms as Z) (.ref x) as (.obj C ns Ts) := by rw [← h3]; exact .obj h2 h4
      refine ⟨s1.trans s3, ⟨by rw [WM.w0]; exact hZ.grow s3, as, by rw [WM.w0]; exact lk, h5, fun a ha => by rw [WM.w0]; exact hZ.free (hfree a ha)⟩, fun K' M as' l a ha => ?_, s3⟩
      have ee : as' = as := lk_det2 _ _ _ _ l lk
      subst ee
      exact s1.free (hfree a ha)
    refine ⟨by simp [r1.len, hn], x, dx, vs, rfl, upd_same, ?_⟩
    split at hm
    · rename_i ds ep
      obtain ⟨Ts, eg, e2⟩ := mapSome hm
      subst e2
      refine ⟨W.w, ds, Ts, hd2, Dpam (r1.pros hd1 ep) (hid_same s2), eg, fun H' fs as h1 h2 h3 h4 h5 h6 => ⟨rfl, ?_⟩⟩
      obtain ⟨q1, q2, q3, q4⟩ := fin W.w Ts H' fs as hd1 h1 h2 h3 h4 h5 h6
      exact kk _ H' q1 (up_ok q2) q3
    · obtain ⟨Ts, eg, e2⟩ := mapSome hm
      subst e2
      have hz : Dom W.z H1 := fun a ha => hd1 a (WM.zw a ha)
      refine ⟨W.z, _, Ts, hz.grow s2, Dpam r1.dps (hid_same s2), eg, fun H' fs as h1 h2 h3 h4 h5 h6 => ⟨rfl, ?_⟩⟩
      obtain ⟨q1, q2, q3, q4⟩ := fin W.z Ts H' fs as hz h1 h2 h3 h4 h5 h6
      exact kk _ H' q1 (taint_ok hH.dom q1 q2 q3) (taint_f q3)
  · cases hm
theorem m_make {x : Str} {C f : Addr} {fd : FuncData} {ps : List Str} {k n0 : Nat} {ns : List Str} {g : List D → Option (List Tr)} (M : Mk X.K C f) (F : FnOk X.prog X.w X.K X.mg X.base CX0 k f fd ps (spInit X.K C n0 ns g)) (hr : Room (k + 1) X.A) (hm : X.mg x = some (.ref C)) (hb : Binds X.K fd ps [])
    (ha : PA X (e :: es) (tMA X.K n)) (hg : Gl X x := by rfl) (hdb : (x == ("__debug__" : Str)) = false := by decide) (he : starEach (e :: es) X.env = (false, eval e X.env) :: starEach es X.env := by rfl) (hpl : (backTo pos (starEach es X.env)).any (·.1) = false := by rfl) :
    PE X (.Call (.Name x p) (e :: es) [] pos) (tM X.K (mMake C n0 ns g n)) := pe_imp (pe_make (E := E0) M F hr hg hm hb .nil pass0 ha hdb he hpl) make_of
end
end MD

namespace MD
open PySem PySem.Spec L2
section
variable {X : Cx} {K : PySem.W.Frag} {e tg : Expr} {m ma mb : ME} {n : MA} {pos p : Pos} {es : List Expr} {ff : Bool}
/-! ### an expression as a statement -/
def mDrop (m : ME) : MS := fun E => (m E).bind fun _ => some (.nx E)
theorem m_expr (he : PE X e (tM X.K m)) (hs : swapsWith e none pos.line X.env = pure false := by rfl) : PS X (.Expr e pos) (sM X.K ff (mDrop m)) :=
  ps_imp (ps_expr he hs) fun D σ H ⟨E, W, o, hH, hm, k⟩ => by
    obtain ⟨r, e1, hm⟩ := bindSome hm
    cases hm
    exact ⟨E, W, r, hH, e1, fun v H1 s1 r1 f1 => k σ H1 W.o (hH.grow s1) (Fr.of s1)⟩
/-! ### a def that may end without return -/
theorem fn_DN {P : Program} {w : World} {K : PySem.W.Frag} {mg : Str → Option Value} {base : Heap} {x qual : Str} {st : Stmt} {f : Addr} {fd : FuncData} {N ps : List Str} {k n0 : Nat} {g : List D → Option R} {m : MS} (F : Fun K x qual st f fd) (S : FnScope N ps (defScope st)) (hn : n0 = ps.length)
    (hbody : ∀ (cdv : Value) (A : Around) (outer : List Env) (s : Shared) (H : Hp) (E : XK), Room k (A.deeper (PyProof.Rows.envOfC qual (defScope st) s.heap.objs.size f cdv)) →
      PSs (cxOf CX0 P w K mg base N qual (defScope st) f cdv A outer s H E).nox (defBody st) (sM K false m))
    (hm : ∀ ds r, g ds = some r → ds.length = n0 → (∃ r', m (startE N ds) = some (.rt r') ∧ r'.up = r) ∨ (∃ E', m (startE N ds) = some (.nx E') ∧ r = .c .none)) : FnOk P w K mg base CX0 (k + 1) f fd ps (spD K n0 g) := by
  refine F.ok S (fun vs H Q E h => by rw [← hn]; exact h.1) (fun cdv A outer s H vs Q E hr h => ?_)
  obtain ⟨hl, Z, ds, r, hZ, hd, hg, q⟩ := h
  rcases hm ds r hg (by rw [← DpAll_len hd]; exact hl) with ⟨r', hm, hup⟩ | ⟨E', hm, hup⟩
  · refine ⟨_, hbody cdv A outer s H E hr, startE N ds, ⟨Z, noM⟩, .rt r', held_start hZ hd, hm, ?_⟩
    intro v H' O' fr ra rg
    have sm : Same H H' := fun a o e => (fr.1 a o e rfl).1
    subst hup
    have ra' : RA K H' ⟨(WM.mk Z noM).w, noM⟩ v r' := by rw [WM.w0]; exact ra
    refine q v H' sm (up_ok ra') (up_f ?_)
    cases r' with
    | c d => trivial
    | u d => trivial
    | t T =>
      refine fun K' M as l p hp => ?_
      cases y : H p with
      | none => rfl
      | some ob => have := rg K' M as l p hp ob y; cases this
  · refine ⟨_, hbody cdv A outer s H E hr, startE N ds, ⟨Z, noM⟩, .nx E', held_start hZ hd, hm, ?_⟩
    intro σ' H' O' hh fr
    have sm : Same H H' := fun a o e => (fr.1 a o e rfl).1
    subst hup
    exact q .non H' sm .non trivial
end
def runN (m : MS) (N : List Str) : List D → Option R := fun ds => match m (startE N ds) with
  | some (.rt r) => some r.up
  | some (.nx _) => some (.c .none)
  | _ => none
theorem runN_ok {m : MS} {N : List Str} : ∀ ds r, runN m N ds = some r → (∃ r', m (startE N ds) = some (.rt r') ∧ r'.up = r) ∨ (∃ E', m (startE N ds) = some (.nx E') ∧ r = .c .none) := fun ds r h => by
  unfold runN at h
  split at h
  · rename_i r' e
    exact .inl ⟨r', e, Option.some.inj h⟩
  · rename_i E' e
    exact .inr ⟨E', e, (Option.some.inj h).symm⟩
  · cases h
theorem runN_nx {m : MS} {N : List Str} {ds : List D} {E : Ev} (h : m (startE N ds) = some (.nx E)) : runN m N ds = some (.c .none) := by
  unfold runN
  rw [h]
theorem cal_exN {P : Program} {w : World} {K : PySem.W.Frag} {mg : Str → Option Value} {base : Heap} {x : Str} {st : Stmt} {N ps : List Str} {k : Nat} {m : MS} {Spec : (List D → Option R) → Prop} (F : FunG K mg x st ps) (S : FnScope N ps (defScope st))
    (hbody : ∀ (f : Addr) (cdv : Value) (A : Around) (outer : List Env) (s : Shared) (H : Hp) (E : XK), Room k (A.deeper (PyProof.Rows.envOfC x (defScope st) s.heap.objs.size f cdv)) →
      PSs (cxOf CX0 P w K mg base N x (defScope st) f cdv A outer s H E).nox (defBody st) (sM K false m))
    (hs : Spec (runN m N)) : ∃ g, Cal P w K mg base x (k + 1) ps g ∧ Spec g := by
  obtain ⟨f, fd, h1, h2, h3⟩ := F.ex
  exact ⟨runN m N, ⟨f, fd, fn_DN h1 S rfl (hbody f) (fun ds r h _ => runN_ok ds r h), h2, h1.kp, h3⟩, hs⟩
/-! ### loops and comprehensions in general -/
theorem mLcG {α : Type} {is : List Nat} {pick : D → Option (List D)} {mi : MI} {mt : MT} {me : ME} {E : Ev} {c : Bool} {l : List α} {enc : α → D} {qs : α → List D} {b : α → Bool} {y : α → D} (hi : mi E = some (c, l.map enc)) (hl : l.length ≤ lim)
    (h : ∀ a ∈ l, (c || flat (enc a)) = true ∧ pick (enc a) = some (qs a) ∧ mt (setAllE (wipeE E is) is (qs a)) = some (b a) ∧ (b a = true → ∃ r, me (setAllE (wipeE E is) is (qs a)) = some r ∧ r.pro = some (y a))) :
    mLc is pick mi mt me E = some (.o ((l.filter b).map y)) := by
  unfold mLc
  rw [hi]
  show (if (l.map enc).length ≤ lim then _ else none) = _
  rw [List.length_map, if_pos hl]
  show (lcD is pick c mt me (wipeE E is) (l.map enc)).map R.o = _
  rw [lcD_map (b := b) (y := y) (qs := qs) l h]
  rfl
/-- a loop that may end early: at an a with stop a it gives r a, else it goes on -/
theorem mForG {α : Type} {is : List Nat} {pick : D → Option (List D)} {mi : MI} {mb : MS} {E : Ev} {c : Bool} {l : List α} {enc : α → D} {qs : α → List D} (Pv : List α → Ev → Prop) (stop : α → Prop) (res : R → Prop) (hi : mi E = some (c, l.map enc)) (hc : c = true) (h0 : Pv [] E)
    (step : ∀ (pre : List α) (a : α) (E : Ev), a ∈ l → pre.length < l.length → (∃ post, l = pre ++ a :: post) → Pv pre E → pick (enc a) = some (qs a) ∧ ((¬ stop a ∧ ∃ E', mb (setAllE E is (qs a)) = some (.nx E') ∧ Pv (pre ++ [a]) E') ∨ (stop a ∧ ∃ r, mb (setAllE E is (qs a)) = some (.rt r) ∧ res r))) :
    ((∀ a ∈ l, ¬ stop a) ∧ ∃ E', mFor is pick mi mb E = some (.nx E') ∧ Pv l E') ∨ ((∃ a ∈ l, stop a) ∧ ∃ r, mFor is pick mi mb E = some (.rt r) ∧ res r) := by
  have main : ∀ (post pre : List α) (E : Ev), l = pre ++ post → Pv pre E → ((∀ a ∈ post, ¬ stop a) ∧ ∃ E', forD is pick mb (post.map enc) E = some (.nx E') ∧ Pv l E') ∨ ((∃ a ∈ post, stop a) ∧ ∃ r, forD is pick mb (post.map enc) E = some (.rt r) ∧ res r) := by
    intro post
    induction post with
    | nil => intro pre E e h; rw [List.append_nil] at e; subst e; exact .inl ⟨fun _ z => (by cases z), E, rfl, h⟩
    | cons a post ih =>
      intro pre E e h
      obtain ⟨hp, h1⟩ := step pre a E (by rw [e]; simp) (by rw [e]; simp) ⟨post, e⟩ h
      have ef : ∀ X, mb (setAllE E is (qs a)) = X → forD is pick mb ((a :: post).map enc) E = X.bind (fun o => match o with | .nx E' => forD is pick mb (post.map enc) E' | .ct E' => forD is pick mb (post.map enc) E' | .bk E' => some (.nx E') | .rt r => some (.rt r)) := by
        intro X hX
        show (pick (enc a)).bind _ = _
        rw [hp]
        show (mb (setAllE E is (qs a))).bind _ = _
        rw [hX] <;> (cases X with
        | none => rfl
        | some o => cases o <;> rfl)
      rcases h1 with ⟨ns, E', h1, h2⟩ | ⟨s, r, h1, h2⟩
      · rw [ef _ h1]
        rcases ih (pre ++ [a]) E' (by rw [e]; simp) h2 with ⟨q1, q2⟩ | ⟨⟨b, hb, hs⟩, q2⟩
        · exact .inl ⟨fun x hx => by rcases List.mem_cons.mp hx with z | z; (subst z; exact ns); exact q1 x z, q2⟩
        · exact .inr ⟨⟨b, List.mem_cons_of_mem _ hb, hs⟩, q2⟩
      · rw [ef _ h1]
        exact .inr ⟨⟨a, List.mem_cons_self, s⟩, r, rfl, h2⟩
  have e : mFor is pick mi mb E = forD is pick mb (l.map enc) E := by
    unfold mFor
    rw [hi, hc]
    rfl
  rw [e]
  exact main l [] E rfl h0
/-- a loop that goes through -/
theorem mForN {α : Type} {is : List Nat} {pick : D → Option (List D)} {mi : MI} {mb : MS} {E : Ev} {l : List α} {enc : α → D} {qs : α → List D} (Pv : List α → Ev → Prop) (hi : mi E = some (true, l.map enc)) (h0 : Pv [] E)
    (step : ∀ (pre : List α) (a : α) (E : Ev), a ∈ l → pre.length < l.length → (∃ post, l = pre ++ a :: post) → Pv pre E → pick (enc a) = some (qs a) ∧ ∃ E', mb (setAllE E is (qs a)) = some (.nx E') ∧ Pv (pre ++ [a]) E') :
    ∃ E', mFor is pick mi mb E = some (.nx E') ∧ Pv l E' := by
  rcases mForG (c := true) (stop := fun _ => False) (res := fun _ => True) Pv hi rfl h0 (fun pre a E h1 h2 h3 h4 => let ⟨p1, p2⟩ := step pre a E h1 h2 h3 h4; ⟨p1, .inl ⟨id, p2⟩⟩) with ⟨_, h⟩ | ⟨⟨_, _, h⟩, _⟩
  · exact h
  · exact h.elim
end MD

namespace MD
open PySem PySem.Spec L2
/-! ### the mathematics of bodies -/
def sb (a b : Pt) : Pt := (a.1 - b.1, a.2 - b.2)
structure SOk (ss : List Pt) : Prop where
  l1 : 1 ≤ ss.length
  l6 : ss.length ≤ 6
  nr : ∀ s ∈ ss, near s = true
  sd : ∀ s ∈ ss, Std s
  pw : ss.Pairwise fun a b => 0 < sp a b
theorem SOk.lim {ss : List Pt} (h : SOk ss) : ss.length ≤ MD.lim := Nat.le_trans h.l6 (by decide)
def wkF (h : Pt) : List Pt → List Pt
  | [] => []
  | s :: t => h :: wkF (ad h s) t
def wkB (h : Pt) : List Pt → List Pt
  | [] => []
  | s :: t => h :: wkB (sb h s) t
def cor (ss : List Pt) : List Pt := wkF (0, 0) ss ++ wkB (sm2 ss) ss
theorem wkF_len : ∀ (ss : List Pt) (h : Pt), (wkF h ss).length = ss.length
  | [], _ => rfl
  | s :: t, h => by simp [wkF, wkF_len t]
theorem wkB_len : ∀ (ss : List Pt) (h : Pt), (wkB h ss).length = ss.length
  | [], _ => rfl
  | s :: t, h => by simp [wkB, wkB_len t]
theorem cor_len (ss : List Pt) : (cor ss).length = 2 * ss.length := by unfold cor; rw [List.length_append, wkF_len, wkB_len]; omega
theorem sb_sb (h a b : Pt) : sb (sb h a) b = sb h (ad a b) := by unfold sb ad; ext <;> simp <;> omega
theorem sb_zero (h : Pt) : sb h (0, 0) = h := by simp [sb]
theorem wkF_snoc : ∀ (ss : List Pt) (h a : Pt), wkF h (ss ++ [a]) = wkF h ss ++ [ad h (sm2 ss)]
  | [], h, a => by simp [wkF, sm2_nil, ad_zero]
  | s :: t, h, a => by
    show h :: wkF (ad h s) (t ++ [a]) = h :: (wkF (ad h s) t ++ _)
    rw [wkF_snoc t, sm2_cons, ad_assoc]
theorem wkB_snoc : ∀ (ss : List Pt) (h a : Pt), wkB h (ss ++ [a]) = wkB h ss ++ [sb h (sm2 ss)]
  | [], h, a => by simp [wkB, sm2_nil, sb_zero]
  | s :: t, h, a => by
    show h :: wkB (sb h s) (t ++ [a]) = h :: (wkB (sb h s) t ++ _)
    rw [wkB_snoc t, sm2_cons, sb_sb]
theorem sm2_snoc (l : List Pt) (a : Pt) : sm2 (l ++ [a]) = ad (sm2 l) a := by rw [sm2_app, sm2_cons, sm2_nil, ad_zero]
theorem wkF_get : ∀ (ss : List Pt) (h : Pt) (k : Nat), k < ss.length → (wkF h ss)[k]? = some (ad h (sm2 (ss.take k)))
  | [], _, _, hk => by simp at hk
  | s :: t, h, 0, _ => by simp [wkF, sm2_nil, ad_zero]
  | s :: t, h, k + 1, hk => by
    show (wkF (ad h s) t)[k]? = _
    rw [wkF_get t _ k (by simpa using hk), List.take_succ_cons, sm2_cons, ad_assoc]
theorem wkB_get : ∀ (ss : List Pt) (h : Pt) (k : Nat), k < ss.length → (wkB h ss)[k]? = some (sb h (sm2 (ss.take k)))
  | [], _, _, hk => by simp at hk
  | s :: t, h, 0, _ => by simp [wkB, sm2_nil, sb_zero]
  | s :: t, h, k + 1, hk => by
    show (wkB (sb h s) t)[k]? = _
    rw [wkB_get t _ k (by simpa using hk), List.take_succ_cons, sm2_cons, sb_sb]
/-- the corner at k -/
def cq (ss : List Pt) (k : Nat) : Pt := if k ≤ ss.length then sm2 (ss.take k) else sb (sm2 ss) (sm2 (ss.take (k - ss.length)))
theorem cor_get (ss : List Pt) (k : Nat) (h : k < 2 * ss.length) : (cor ss)[k]? = some (cq ss k) := by
  unfold cor cq
  by_cases hk : k < ss.length
  · rw [List.getElem?_append_left (by rw [wkF_len]; exact hk), wkF_get ss _ k hk, if_pos (by omega), zero_ad]
  · rw [List.getElem?_append_right (by rw [wkF_len]; omega), wkF_len, wkB_get ss _ _ (by omega)]
    by_cases e : k = ss.length
    · subst e; rw [if_pos (Nat.le_refl _), Nat.sub_self, List.take_zero, sm2_nil, sb_zero, List.take_length]
    · rw [if_neg (by omega)]
theorem cq_zero (ss : List Pt) : cq ss 0 = (0, 0) := by unfold cq; rw [if_pos (Nat.zero_le _)]; rfl
theorem take_snoc {ss : List Pt} {k : Nat} {s : Pt} (h : ss[k]? = some s) : sm2 (ss.take (k + 1)) = ad (sm2 (ss.take k)) s := by
  rw [List.take_add_one, h]
  show sm2 (_ ++ [s]) = _
  rw [sm2_snoc]
theorem side_f {ss : List Pt} {k : Nat} {s : Pt} (h : ss[k]? = some s) : sb (cq ss (k + 1)) (cq ss k) = s := by
  have hk := (List.getElem?_eq_some_iff.mp h).1
  unfold cq
  rw [if_pos (by omega), if_pos (by omega), take_snoc h]
  unfold sb ad
  ext <;> simp <;> omega
theorem side_b {ss : List Pt} {k : Nat} {s : Pt} (h : ss[k]? = some s) : sb (cq ss (ss.length + k + 1)) (cq ss (ss.length + k)) = ng s ∧ cq ss (ss.length + k) = sb (sm2 ss) (sm2 (ss.take k)) := by
  have hk := (List.getElem?_eq_some_iff.mp h).1
  have e1 : cq ss (ss.length + k) = sb (sm2 ss) (sm2 (ss.take k)) := by
    unfold cq
    by_cases e : k = 0
    · subst e; rw [if_pos (by omega), Nat.add_zero, List.take_length, List.take_zero, sm2_nil, sb_zero]
    · rw [if_neg (by omega), show ss.length + k - ss.length = k by omega]
  refine ⟨?_, e1⟩
  rw [e1]
  unfold cq
  rw [if_neg (by omega), show ss.length + k + 1 - ss.length = k + 1 by omega, take_snoc h]
  unfold sb ad ng
  ext <;> simp <;> omega
/-! sums of sticks -/
def sums (ss : List Pt) : List Pt := ss.foldl (fun A s => A ++ A.map fun p => ad p s) [(0, 0)]
theorem fold_len : ∀ (ss A : List Pt), (ss.foldl (fun A s => A ++ A.map fun p => ad p s) A).length = A.length * 2 ^ ss.length
  | [], A => by simp
  | s :: ss, A => by
    rw [List.foldl_cons, fold_len ss, List.length_append, List.length_map, List.length_cons, Nat.pow_succ, ← Nat.mul_two, Nat.mul_assoc, Nat.mul_comm 2]
theorem sums_len (ss : List Pt) : (sums ss).length = 2 ^ ss.length := by unfold sums; rw [fold_len]; simp
theorem SOk.sums {ss : List Pt} (h : SOk ss) : (sums ss).length ≤ 64 := by
  rw [sums_len]
  exact Nat.pow_le_pow_right (by decide) h.l6
structure Lin (f : Pt → Int) : Prop where
  z : f (0, 0) = 0
  a : ∀ a b, f (ad a b) = f a + f b
theorem Lin.sum {f : Pt → Int} (h : Lin f) : ∀ l : List Pt, f (sm2 l) = (l.map f).sum
  | [] => h.z
  | p :: l => by rw [sm2_cons, h.a, h.sum l]; simp
theorem Lin.sb {f : Pt → Int} (h : Lin f) (a b : Pt) : f (sb a b) = f a - f b := by
  have := h.a (MD.sb a b) b
  rw [show ad (MD.sb a b) b = a by unfold ad MD.sb; ext <;> simp] at this
  omega
theorem lin_sp (s : Pt) : Lin (sp s) := ⟨by simp [sp], fun a b => sp_adr s a b⟩
def dt (a b : Pt) : Int := a.1 * b.1 + a.2 * b.2
theorem fold_box {f : Pt → Int} (h : Lin f) : ∀ (ss A : List Pt) (q : Pt), q ∈ ss.foldl (fun A s => A ++ A.map fun p => ad p s) A → ∃ a ∈ A, f a + (ss.map fun s => min 0 (f s)).sum ≤ f q ∧ f q ≤ f a + (ss.map fun s => max 0 (f s)).sum
  | [], A, q, hq => ⟨q, hq, by simp, by simp⟩
  | s :: ss, A, q, hq => by
    rw [List.foldl_cons] at hq
    obtain ⟨a, ha, h1, h2⟩ := fold_box h ss _ q hq
    simp only [List.map_cons, List.sum_cons]
    rcases List.mem_append.mp ha with ha | ha
    · exact ⟨a, ha, by omega, by omega⟩
    · obtain ⟨b, hb, rfl⟩ := List.mem_map.mp ha
      rw [h.a] at h1 h2
      exact ⟨b, hb, by omega, by omega⟩
theorem sums_box {f : Pt → Int} (h : Lin f) {ss : List Pt} {q : Pt} (hq : q ∈ sums ss) : (ss.map fun s => min 0 (f s)).sum ≤ f q ∧ f q ≤ (ss.map fun s => max 0 (f s)).sum := by
  obtain ⟨a, ha, h1, h2⟩ := fold_box h ss _ q hq
  cases List.mem_singleton.mp ha
  rw [h.z] at h1 h2
  omega
theorem min_neg {f : Pt → Int} : ∀ {l : List Pt}, (∀ t ∈ l, f t ≤ 0) → (l.map fun s => min 0 (f s)).sum = (l.map f).sum ∧ (l.map fun s => max 0 (f s)).sum = 0
  | [], _ => by simp
  | t :: l, h => by
    have h1 := h t List.mem_cons_self
    obtain ⟨h2, h3⟩ := min_neg (l := l) fun x hx => h x (List.mem_cons_of_mem _ hx)
    simp only [List.map_cons, List.sum_cons]
    omega
theorem min_pos {f : Pt → Int} : ∀ {l : List Pt}, (∀ t ∈ l, 0 ≤ f t) → (l.map fun s => min 0 (f s)).sum = 0 ∧ (l.map fun s => max 0 (f s)).sum = (l.map f).sum
  | [], _ => by simp
  | t :: l, h => by
    have h1 := h t List.mem_cons_self
    obtain ⟨h2, h3⟩ := min_pos (l := l) fun x hx => h x (List.mem_cons_of_mem _ hx)
    simp only [List.map_cons, List.sum_cons]
    omega
theorem split_at {ss : List Pt} {k : Nat} {s : Pt} (h : ss[k]? = some s) : ss = ss.take k ++ s :: ss.drop (k + 1) := by
  obtain ⟨hk, e⟩ := List.getElem?_eq_some_iff.mp h
  rw [← e]
  simp
theorem SOk.parts {ss : List Pt} (h : SOk ss) {k : Nat} {s : Pt} (hs : ss[k]? = some s) : (∀ t ∈ ss.take k, sp s t ≤ 0) ∧ (∀ t ∈ s :: ss.drop (k + 1), 0 ≤ sp s t) := by
  have e := split_at hs
  have pw := h.pw
  rw [e] at pw
  obtain ⟨p1, p2, p3⟩ := List.pairwise_append.mp pw
  refine ⟨fun t ht => ?_, fun t ht => ?_⟩
  · have := p3 t ht s List.mem_cons_self
    have := sp_anti t s
    omega
  · rcases List.mem_cons.mp ht with z | z
    · subst z; rw [sp_self]; omega
    · have := (List.pairwise_cons.mp p2).1 t z
      omega
/-- the least and the most of a side's line over the sums -/
theorem SOk.minmax {ss : List Pt} (h : SOk ss) {k : Nat} {s : Pt} (hs : ss[k]? = some s) : (ss.map fun t => min 0 (sp s t)).sum = sp s (sm2 (ss.take k)) ∧ (ss.map fun t => max 0 (sp s t)).sum = sp s (sb (sm2 ss) (sm2 (ss.take k))) := by
  have e := split_at hs
  obtain ⟨h1, h2⟩ := h.parts hs
  obtain ⟨a1, a2⟩ := min_neg h1
  obtain ⟨b1, b2⟩ := min_pos h2
  have L := lin_sp s
  have e3 : sp s (sm2 ss) = sp s (sm2 (ss.take k)) + sp s (sm2 (s :: ss.drop (k + 1))) := by
    conv => lhs; rw [e, sm2_app, L.a]
  have m1 : (ss.map fun t => min 0 (sp s t)).sum = ((ss.take k).map fun t => min 0 (sp s t)).sum + ((s :: ss.drop (k + 1)).map fun t => min 0 (sp s t)).sum := by
    conv => lhs; rw [e, List.map_append, List.sum_append]
  have m2 : (ss.map fun t => max 0 (sp s t)).sum = ((ss.take k).map fun t => max 0 (sp s t)).sum + ((s :: ss.drop (k + 1)).map fun t => max 0 (sp s t)).sum := by
    conv => lhs; rw [e, List.map_append, List.sum_append]
  rw [m1, m2, a1, a2, b1, b2, L.sb, e3, L.sum, L.sum]
  omega
/-- the side at k, seen from q -/
def side (ss : List Pt) (q : Pt) (k : Nat) : Int := sp (sb (cq ss (k + 1)) (cq ss k)) (sb q (cq ss k))
theorem sp_ng (s t : Pt) : sp (ng s) t = - sp s t := by unfold sp ng; simp only [Int.neg_mul]; omega
theorem side_lo {ss : List Pt} {k : Nat} {s : Pt} (hs : ss[k]? = some s) (q : Pt) : side ss q k = sp s q - sp s (sm2 (ss.take k)) := by
  have hk := (List.getElem?_eq_some_iff.mp hs).1
  unfold side
  rw [side_f hs, (lin_sp s).sb]
  unfold cq
  rw [if_pos (by omega)]
theorem side_hi {ss : List Pt} {k : Nat} {s : Pt} (hs : ss[k]? = some s) (q : Pt) : side ss q (ss.length + k) = sp s (sb (sm2 ss) (sm2 (ss.take k))) - sp s q := by
  unfold side
  obtain ⟨h1, h2⟩ := side_b hs
  rw [h1, h2, sp_ng, (lin_sp s).sb]
  omega
theorem side_all {ss : List Pt} {q : Pt} {P : Int → Prop} (h : ∀ (k : Nat) (s : Pt), ss[k]? = some s → P (side ss q k) ∧ P (side ss q (ss.length + k))) : ∀ k, k < 2 * ss.length → P (side ss q k) := fun k hk => by
  by_cases e : k < ss.length
  · exact (h k _ (List.getElem?_eq_getElem e)).1
  · have := (h (k - ss.length) _ (List.getElem?_eq_getElem (show k - ss.length < ss.length by omega))).2
    rw [show ss.length + (k - ss.length) = k by omega] at this
    exact this
def hld (ss : List Pt) (q : Pt) : Bool := (List.range (2 * ss.length)).all fun k => decide (0 ≤ side ss q k)
theorem hld_iff {ss : List Pt} {q : Pt} : hld ss q = true ↔ ∀ k, k < 2 * ss.length → 0 ≤ side ss q k := by unfold hld; simp
/-- whether a point is on no side's wrong side, by the law's own look -/
def holdB (ss : List Pt) (q : Pt) : Bool := hld ss q && (decide (1 < ss.length) || (decide (0 ≤ dt (ss.headD (0, 0)) q) && decide (dt (ss.headD (0, 0)) q ≤ dt (ss.headD (0, 0)) (ss.headD (0, 0)))))
theorem SOk.hld {ss : List Pt} (h : SOk ss) {q : Pt} (hq : q ∈ MD.sums ss) : MD.hld ss q = true := hld_iff.mpr (side_all (P := fun i => 0 ≤ i) fun k s hs => by
  obtain ⟨b1, b2⟩ := sums_box (lin_sp s) hq
  obtain ⟨m1, m2⟩ := h.minmax hs
  rw [side_lo hs, side_hi hs]
  omega)
theorem sq_nonneg (a : Int) : 0 ≤ a * a := by
  rcases Int.le_total 0 a with h | h
  · exact Int.mul_nonneg h h
  · exact Int.mul_nonneg_of_nonpos_of_nonpos h h
theorem SOk.nrs {ss : List Pt} (h : SOk ss) {k : Nat} {s : Pt} (hs : ss[k]? = some s) : near s = true := h.nr s (List.mem_of_getElem? hs)
/-! the other side of the middle -/
theorem cor_mem {ss : List Pt} {p : Pt} : p ∈ cor ss ↔ ∃ k, k < 2 * ss.length ∧ p = cq ss k := by
  constructor
  · intro h
    obtain ⟨k, hk⟩ := List.getElem?_of_mem h
    have := (List.getElem?_eq_some_iff.mp hk).1
    rw [cor_len] at this
    rw [cor_get ss k this] at hk
    exact ⟨k, this, (Option.some.inj hk).symm⟩
  · rintro ⟨k, hk, rfl⟩
    exact List.mem_of_getElem? (cor_get ss k hk)
/-! drawn sticks: a standing one put at its place -/
theorem SOk.neigh {ss : List Pt} (h : SOk ss) : ∀ (k : Nat) (a b : Pt), ss[k]? = some a → ss[k + 1]? = some b → 0 < sp a b := fun k a b ha hb => by
  obtain ⟨h1, rfl⟩ := List.getElem?_eq_some_iff.mp ha
  obtain ⟨h2, rfl⟩ := List.getElem?_eq_some_iff.mp hb
  exact List.pairwise_iff_getElem.mp h.pw k (k + 1) h1 h2 (by omega)
theorem filt_take {p : Pt} (hp : Std p) : ∀ {ss : List Pt}, (∀ s ∈ ss, Std s) → ss.Pairwise (fun a b => 0 < sp a b) → (∀ s ∈ ss, sp s p ≠ 0) → ss.take (ss.filter fun s => decide (0 < sp s p)).length = ss.filter (fun s => decide (0 < sp s p)) ∧ ∀ t ∈ ss.drop (ss.filter fun s => decide (0 < sp s p)).length, 0 < sp p t
  | [], _, _, _ => by simp
  | s :: ss, sd, pw, nz => by
    obtain ⟨pw1, pw2⟩ := List.pairwise_cons.mp pw
    obtain ⟨i1, i2⟩ := filt_take hp (ss := ss) (fun x hx => sd x (List.mem_cons_of_mem _ hx)) pw2 (fun x hx => nz x (List.mem_cons_of_mem _ hx))
    by_cases h : 0 < sp s p
    · have e : (s :: ss).filter (fun s => decide (0 < sp s p)) = s :: ss.filter (fun s => decide (0 < sp s p)) := by rw [List.filter_cons, if_pos (decide_eq_true h)]
      rw [e, List.length_cons, List.take_succ_cons, i1, List.drop_succ_cons]
      exact ⟨rfl, i2⟩
    · have hs : 0 < sp p s := by
        have := nz s List.mem_cons_self
        have := sp_anti p s
        omega
      have all : ∀ t ∈ s :: ss, 0 < sp p t := fun t ht => by
        rcases List.mem_cons.mp ht with z | z
        · subst z; exact hs
        · exact tr1 hp (sd s List.mem_cons_self) (sd t (List.mem_cons_of_mem _ z)) hs (pw1 t z)
      have e : (s :: ss).filter (fun s => decide (0 < sp s p)) = [] := List.filter_eq_nil_iff.mpr fun t ht => by
        have := all t ht
        have := sp_anti p t
        simp
        omega
      rw [e]
      exact ⟨rfl, all⟩
theorem ins_pw {p : Pt} (hp : Std p) {ss : List Pt} (sd : ∀ s ∈ ss, Std s) (pw : ss.Pairwise (fun a b => 0 < sp a b)) (nz : ∀ s ∈ ss, sp s p ≠ 0) :
    (insAt ss (ss.filter fun s => decide (0 < sp s p)).length p).Pairwise (fun a b => 0 < sp a b) := by
  obtain ⟨h1, h2⟩ := filt_take hp sd pw nz
  have hl : (ss.filter fun s => decide (0 < sp s p)).length ≤ ss.length := List.length_filter_le _ _
  unfold insAt
  rw [if_neg (by omega), Int.toNat_natCast, Nat.min_eq_left hl]
  have e := List.take_append_drop (ss.filter fun s => decide (0 < sp s p)).length ss
  have pw' := pw
  rw [← e] at pw'
  obtain ⟨p1, p2, p3⟩ := List.pairwise_append.mp pw'
  refine List.pairwise_append.mpr ⟨p1, List.pairwise_cons.mpr ⟨h2, p2⟩, fun a ha b hb => ?_⟩
  rcases List.mem_cons.mp hb with z | z
  · subst z
    rw [h1] at ha
    exact of_decide_eq_true (List.mem_filter.mp ha).2
  · exact p3 a ha b z
theorem ins_mem {p : Pt} {ss : List Pt} {k : Int} {P : Pt → Prop} (h : ∀ s ∈ ss, P s) (hp : P p) : ∀ s ∈ insAt ss k p, P s := fun s hs => by
  unfold insAt at hs
  rcases List.mem_append.mp hs with z | z
  · exact h s (List.mem_of_mem_take z)
  · rcases List.mem_cons.mp z with z | z
    · subst z; exact hp
    · exact h s (List.mem_of_mem_drop z)
def lpairF (f n : Int) : Pt := (if n / 41 % (f + 1) = 0 then 1 + absI (n % (2 * f + 1) - f) % f else n % (2 * f + 1) - f, n / 41 % (f + 1))
def Far (f : Int) (p : Pt) : Prop := (-f ≤ p.1 ∧ p.1 ≤ f) ∧ (0 ≤ p.2 ∧ p.2 ≤ f)
theorem lpairF_ok {f : Int} (n : Int) (h1 : 1 ≤ f) : Far f (lpairF f n) ∧ Std (lpairF f n) := by
  have a0 := Int.emod_nonneg (n / 41) (show f + 1 ≠ 0 by omega)
  have a1 := Int.emod_lt_of_pos (n / 41) (show 0 < f + 1 by omega)
  have b0 := Int.emod_nonneg n (show 2 * f + 1 ≠ 0 by omega)
  have b1 := Int.emod_lt_of_pos n (show 0 < 2 * f + 1 by omega)
  have c0 := Int.emod_nonneg (absI (n % (2 * f + 1) - f)) (show f ≠ 0 by omega)
  have c1 := Int.emod_lt_of_pos (absI (n % (2 * f + 1) - f)) (show 0 < f by omega)
  unfold Far Std lpairF
  simp only
  split <;> omega
theorem Far.near {f : Int} {p : Pt} (h : Far f p) (hf : f ≤ 20) : near p = true := by
  rw [near_iff]
  unfold Far at h
  omega
end MD
namespace MD
open PySem PySem.Spec L2
theorem mIR2_eq {n : MA} {E : Ev} {lo hi : Int} (h : n E = some [.c (.int lo), .c (.int hi)]) (hb : big62 lo = true) (hb2 : big62 hi = true) : mIR2 n E = some (true, (List.range (hi - lo).toNat).map fun (i : Nat) => D.int (lo + (i : Int))) := by
  unfold mIR2
  rw [h]
  show (if (big62 lo && big62 hi) = true then _ else none) = _
  rw [hb, hb2]
  rfl
theorem ix_Lc (ps : List Pt) {k : Int} {j : Nat} {p : Pt} (hk : k = j) (h : ps[j]? = some p) : gIx (.c (.list (ps.map eP))) (.c (.int k)) = some (.c (eP p)) := by
  have hj : j < ps.length := (List.getElem?_eq_some_iff.mp h).1
  show (atI (ps.map eP) k).map (R.mk' true) = _
  have : atI (ps.map eP) k = some (eP p) := by
    unfold atI ixN
    rw [List.length_map, if_pos (by omega), if_pos (by omega)]
    subst hk
    simp [h]
  rw [this]
  rfl
end MD
namespace MD
open PySem PySem.Spec L2
theorem mRet_eq {m : ME} {E : Ev} {r : R} (h : m E = some r) : mRet m E = some (.rt r.up) := by unfold mRet; rw [h]; rfl
theorem mCl1 {g : GL} {m : ME} {E : Ev} {r : R} (h : m E = some r) : mCl g (mCons m mNil) E = g [r] := by unfold mCl mCons; rw [h]; rfl
theorem all_true {α : Type} (l : List α) : gAll [.o (l.map fun _ => D.bool true)] = some (.c (.bool true)) := by
  rw [all_f l (fun _ => true)]
  simp
theorem mAll_true {α : Type} {is : List Nat} {pick : D → Option (List D)} {mi : MI} {me : ME} {E : Ev} {c : Bool} {l : List α} {enc : α → D} {qs : α → List D} (hi : mi E = some (c, l.map enc)) (hl : l.length ≤ lim)
    (h : ∀ a ∈ l, (c || flat (enc a)) = true ∧ pick (enc a) = some (qs a) ∧ me (setAllE (wipeE E is) is (qs a)) = some (.c (.bool true))) :
    mCl gAll (mCons (mLc is pick mi mYes me) mNil) E = some (.c (.bool true)) := by
  rw [mCl1 (mLcG (l := l) (enc := enc) (qs := qs) (b := fun _ => true) (y := fun _ => .bool true) hi hl fun a ha => let ⟨h1, h2, h3⟩ := h a ha; ⟨h1, h2, rfl, fun _ => ⟨_, h3, rfl⟩⟩), filter_true, all_true]
theorem mAll_f {α : Type} {is : List Nat} {pick : D → Option (List D)} {mi : MI} {me : ME} {E : Ev} {c : Bool} {l : List α} {enc : α → D} {qs : α → List D} (f : α → Bool) (hi : mi E = some (c, l.map enc)) (hl : l.length ≤ lim)
    (h : ∀ a ∈ l, (c || flat (enc a)) = true ∧ pick (enc a) = some (qs a) ∧ me (setAllE (wipeE E is) is (qs a)) = some (.c (.bool (f a)))) :
    mCl gAll (mCons (mLc is pick mi mYes me) mNil) E = some (.c (.bool (l.all f))) := by
  rw [mCl1 (mLcG (l := l) (enc := enc) (qs := qs) (b := fun _ => true) (y := fun a => .bool (f a)) hi hl fun a ha => let ⟨h1, h2, h3⟩ := h a ha; ⟨h1, h2, rfl, fun _ => ⟨_, h3, rfl⟩⟩), filter_true, all_f]
theorem mSum_f {α : Type} {is : List Nat} {pick : D → Option (List D)} {mi : MI} {me : ME} {E : Ev} {c : Bool} {l : List α} {enc : α → D} {qs : α → List D} (f : α → Int) (hi : mi E = some (c, l.map enc)) (hl : l.length ≤ lim)
    (h : ∀ a ∈ l, (c || flat (enc a)) = true ∧ pick (enc a) = some (qs a) ∧ me (setAllE (wipeE E is) is (qs a)) = some (.c (.int (f a)))) :
    mCl gSum (mCons (mLc is pick mi mYes me) mNil) E = some (.c (.int (l.map f).sum)) := by
  rw [mCl1 (mLcG (l := l) (enc := enc) (qs := qs) (b := fun _ => true) (y := fun a => .int (f a)) hi hl fun a ha => let ⟨h1, h2, h3⟩ := h a ha; ⟨h1, h2, rfl, fun _ => ⟨_, h3, rfl⟩⟩), filter_true, sum_f]
end MD
namespace MD
open PySem PySem.Spec L2
theorem mTOr_f {a b : MT} {E : Ev} {k : Bool} (h1 : a E = some false) (h2 : b E = some k) : mTOr a b E = some k := by unfold mTOr; rw [h1]; exact h2
theorem mTOr_t {a b : MT} {E : Ev} (h1 : a E = some true) : mTOr a b E = some true := by unfold mTOr; rw [h1]; rfl
theorem mTNot_eq {a : MT} {E : Ev} {k : Bool} (h1 : a E = some k) : mTNot a E = some !k := by unfold mTNot; rw [h1]; rfl
theorem mB_eq {m : ME} {E : Ev} {k : Bool} (h1 : m E = some (.c (.bool k))) : mB m E = some k := by unfold mB; rw [h1]; rfl
theorem mOp_eq {g : G2} {a b : ME} {E : Ev} {x y : R} (h1 : a E = some x) (h2 : b E = some y) : mOp g a b E = g x y := by unfold mOp; rw [h1]; show (b E).bind _ = _; rw [h2]; rfl
end MD
namespace MD
open PySem PySem.Spec L2
/-- a loop with an early end, and what stands behind -/
theorem mSeq_for {α : Type} {is : List Nat} {pick : D → Option (List D)} {mi : MI} {mb t : MS} {E : Ev} {l : List α} {enc : α → D} {qs : α → List D} {Q : Out → Prop} (Pv : List α → Ev → Prop) (stop : α → Prop) (res : R → Prop) (hi : mi E = some (true, l.map enc)) (h0 : Pv [] E)
    (step : ∀ (pre : List α) (a : α) (E : Ev), a ∈ l → pre.length < l.length → (∃ post, l = pre ++ a :: post) → Pv pre E → pick (enc a) = some (qs a) ∧ ((¬ stop a ∧ ∃ E', mb (setAllE E is (qs a)) = some (.nx E') ∧ Pv (pre ++ [a]) E') ∨ (stop a ∧ ∃ r, mb (setAllE E is (qs a)) = some (.rt r) ∧ res r)))
    (ks : (∃ a ∈ l, stop a) → ∀ r, res r → Q (.rt r)) (kn : (∀ a ∈ l, ¬ stop a) → ∀ E', Pv l E' → ∃ b, t E' = some b ∧ Q b) : ∃ b, mSeq (mFor is pick mi mb) t E = some b ∧ Q b := by
  rcases mForG Pv stop res hi rfl h0 step with ⟨h1, E', h2, h3⟩ | ⟨h1, r, h2, h3⟩
  · rw [mSeq_nx h2]
    exact kn h1 E' h3
  · refine ⟨.rt r, ?_, ks h1 r h3⟩
    unfold mSeq
    rw [h2]
    rfl
theorem hld_mem {ss : List Pt} {q : Pt} : (∃ a ∈ (cor ss).zipIdx, side ss q a.2 < 0) ↔ hld ss q = false := by
  rw [Bool.eq_false_iff, Ne, hld_iff]
  constructor
  · rintro ⟨⟨p, k⟩, ha, hs⟩ h
    have hp := List.mem_zipIdx_iff_getElem?.mp ha
    have hk : k < 2 * ss.length := by have := (List.getElem?_eq_some_iff.mp hp).1; rw [cor_len] at this; exact this
    have := h k hk
    simp only at hs
    omega
  · intro h
    obtain ⟨k, hk⟩ := Classical.not_forall.mp h
    obtain ⟨h1, h2⟩ := Classical.not_imp.mp hk
    exact ⟨(cq ss k, k), List.mem_zipIdx_iff_getElem?.mpr (cor_get ss k h1), by simp only; omega⟩
theorem mem_zip {ss : List Pt} {p : Pt} {k : Nat} (ha : (p, k) ∈ (cor ss).zipIdx) : k < 2 * ss.length ∧ p = cq ss k := by
  have hp := List.mem_zipIdx_iff_getElem?.mp ha
  have hk : k < 2 * ss.length := by have := (List.getElem?_eq_some_iff.mp hp).1; rw [cor_len] at this; exact this
  simp only at hp
  rw [cor_get ss k hk] at hp
  exact ⟨hk, (Option.some.inj hp).symm⟩
end MD
namespace MD
open PySem PySem.Spec L2
theorem add_co {l l' : List D} (h : l.length + l'.length ≤ 100000) : gAdd (.c (.list l)) (.o l') = some (.o (l ++ l')) := by
  unfold gAdd
  rw [Rd_c, Rd_o]
  simp [Rcl_c, Rcl_o, lim, h]
theorem add_oo {l l' : List D} (h : l.length + l'.length ≤ 100000) : gAdd (.o l) (.o l') = some (.o (l ++ l')) := by
  unfold gAdd
  rw [Rd_o, Rd_o]
  simp [Rcl_c, Rcl_o, lim, h]
theorem mAsgV_eq {i : Nat} {m : ME} {E : Ev} {r : R} {d : D} (h : m E = some r) (hp : r.pro = some d) : mAsgV i m E = some (.nx (E.set i (some (.v d)))) := by
  unfold mAsgV
  rw [h]
  show (r.pro).bind _ = _
  rw [hp]
  rfl
instance (p : Pt) : Decidable (Std p) := by unfold Std; infer_instance
theorem SOk.of {ss : List Pt} (h : 1 ≤ ss.length ∧ ss.length ≤ 6 ∧ (∀ s ∈ ss, near s = true) ∧ (∀ s ∈ ss, Std s) ∧ ss.Pairwise fun a b => 0 < sp a b) : SOk ss := ⟨h.1, h.2.1, h.2.2.1, h.2.2.2.1, h.2.2.2.2⟩
end MD

namespace MD
open PySem PySem.Spec L2 PyProof.Rows
/-! ### a, b = a list -/
section
variable {prog : Program} {w : World} {A : Around} {E : Value → Shared → Prop} {s : Shared}
theorem draw_list {it t : Addr} {items : Array Value} (hne : t ≠ it) : ∀ (n i : Nat) (s : Shared) (Q : List Value → Shared → Prop), s.heap.IsListIter it t i → s.heap.IsList t items → i + n ≤ items.size →
    (∀ h', h'.IsListIter it t (i + n) → Heap.SameBut it s.heap h' → Q ((items.toList.drop i).take n) { s with heap := h' }) → wpAny (model prog w) A (draw (.ref it) n) Q E s
  | 0, i, s, Q, hit, _, _, hQ => by
    show wpAny _ _ (pure []) Q E s
    exact wpAny_pure (by simpa using hQ s.heap hit (Heap.SameBut.refl ..))
  | n + 1, i, s, Q, hit, ht, hle, hQ => by
    have hlt : i < items.size := by omega
    show wpAny _ _ (pyNext (.ref it) >>= _) Q E s
    refine wpAny_bind (wpAny_pyNext_list_item hit ht (x := items[i]) (by simp [hlt]) fun h₁ hit₁ hs₁ => ?_)
    refine wpAny_bind (wpAny_holding (draw_list hne n (i + 1) _ _ hit₁ (ht.extBut hs₁.extBut hne) (by omega) fun h₂ hit₂ hs₂ => wpAny_pure ?_))
    have hd : items.toList.drop i = items[i] :: items.toList.drop (i + 1) := by simp [List.drop_eq_getElem_cons, hlt]
    have := hQ h₂ (by rw [show i + (n + 1) = i + 1 + n by omega]; exact hit₂) (hs₁.trans hs₂)
    rw [hd, List.take_succ_cons] at this
    exact this
theorem unpackItems_list {t : Addr} {items : Array Value} {Q : List Value → Shared → Prop} (hh : A.handled = none) (ht : s.heap.IsList t items)
    (hQ : ∀ h', Heap.ExtBut s.heap.objs.size s.heap h' → Q items.toList { s with heap := h' }) : wpAny (model prog w) A (unpackItems (.ref t) items.size none) Q E s := by
  have hlt : t ≠ s.heap.objs.size := by obtain ⟨o, ho, _⟩ := ht; exact Nat.ne_of_lt (Heap.lt_size ho)
  unfold unpackItems
  refine wpAny_bind ?_
  · unfold notIterableAtAll
    refine wpAny_bind (wpAny_specialOf ht.typeIs slot_list_iter.lookup ?_)
    refine wpAny_pure ?_
    simp only [Bool.false_eq_true, if_false]
    refine wpAny_bind (wpAny_holding (wpAny_pyIter_list ht ?_))
    refine wpAny_bind (wpAny_holding (draw_list hlt items.size 0 _ _ ⟨_, Heap.get?_push_size _ rfl, rfl, rfl⟩ (ht.push _) (by omega) fun h₁ hit₁ hs₁ => ?_))
    have hall : List.take items.size (List.drop 0 items.toList) = items.toList := by
      rw [List.drop_zero]; exact List.take_of_length_le (by simp)
    rw [hall]
    rw [if_neg (by simp)]
    have ht₁ : h₁.IsList t items := (ht.push _).extBut hs₁.extBut hlt
    refine wpAny_bind (wpAny_holding (wpAny_pyNext_list_end hh hit₁ ht₁ (by simp) fun h₂ he₂ => ?_))
    simp only [Option.isSome_none, Bool.false_eq_true, if_false]
    refine wpAny_pure (hQ h₂ fun b o hb e => he₂ b o hb (hs₁.extBut b o hb (Heap.get?_push_of_some _ e)))
theorem unpack_list {t : Addr} {items : Array Value} {targets : List (Bool × (Value → Sem Unit))} {Q : Unit → Shared → Prop} (hh : A.handled = none) (ht : s.heap.IsList t items)
    (hn : targets.length = items.size) (hstar : targets.findIdx? (·.1) = none)
    (h : ∀ h', Heap.ExtBut s.heap.objs.size s.heap h' → wpAny (model prog w) A (assignInOrder (targets.map (·.2)) items.toList) Q E { s with heap := h' }) :
    wpAny (model prog w) A (unpack (.ref t) targets) Q E s := by
  unfold unpack
  rw [hn, hstar]
  exact wpAny_bind (wpAny_holding (unpackItems_list hh ht h))
end
section
variable {X : Cx} {K : PySem.W.Frag} {pos : Pos}
def gTupL (K : PySem.W.Frag) (n : Nat) (t : TGs) : TG := fun v σ H Q => ∃ a xs, v = .ref a ∧ SqL K H a xs ∧ xs.length = n ∧ t xs σ H Q
theorem pg_lst {es : List Expr} {k : Nat} {t : TGs} {n : Nat} (hc : X.calm = true) (h : PGs X es t)
    (hn : (assignEach es X.env).length = n := by rfl) (hst : (assignEach es X.env).findIdx? (·.1) = none := by rfl) : PG X (.Tuple es k pos) (gTupL X.K n t) := by
  intro pins s σ H v u Q I r hw
  obtain ⟨a, xs, e1, hq, hl, hw⟩ := hw
  subst e1
  cases r
  obtain ⟨its, rv, ht, hz⟩ := I.list hq
  rw [assign_Tuple]
  refine wpAny_bind (wpAny_standAt (unpack_list (I.ok.hd hc) ht.isList (by simp [hn, ← hl, rv.length]) hst fun h' hx => ?_))
  have I1 : Inv X pins σ H { s with heap := h' } := I.kept (t' := s.toks) fun b o e => hx b o (Nat.ne_of_lt (Heap.lt_size e)) e
  exact h pins _ σ H xs _ Q I1 (by simpa using rv) hw
def tgs : List Nat → TGs
  | [] => gNil
  | i :: is => gCons (gName i) (tgs is)
theorem tgs_of : ∀ {is : List Nat} {xs : List V} {σ : L2.St} {H : Hp} {Q : L2.St → Hp → Prop}, xs.length = is.length → Q (setAll σ is xs) H → tgs is xs σ H Q
  | [], [], _, _, _, _, k => ⟨rfl, k⟩
  | i :: is, x :: xs, _, _, _, h, k => ⟨x, xs, rfl, tgs_of (by simpa using h) k⟩
  | [], _ :: _, _, _, _, h, _ => by simp at h
  | _ :: _, [], _, _, _, h, _ => by simp at h
def pickT (n : Nat) : D → Option (List D) := fun d => match d with | .tuple l => if l.length = n then some l else none | _ => none
def pickL (n : Nat) : D → Option (List D) := fun d => match d with | .list l => if l.length = n then some l else none | _ => none
theorem tgL (is : List Nat) : TgOk K (gTupL K is.length (tgs is)) is (pickL is.length) := fun M v d ds σ H Q h e k => by
  unfold pickL at e
  split at e
  · split at e
    · rename_i hl
      cases e
      obtain ⟨a, xs, rfl, h1, h2⟩ := Dp_list h
      have hx : xs.length = is.length := by rw [DpAll_len h2, hl]
      exact ⟨a, xs, rfl, hid_sub.seq h1, hx, tgs_of hx (k xs h2)⟩
    · cases e
  · cases e
end
end MD
namespace MD
open PySem PySem.Spec L2
section
variable {X : Cx} {K : PySem.W.Frag} {tg : Expr} {pos : Pos}
/-! ### a comprehension with two fors -/
def lc2D (is : List Nat) (pick : D → Option (List D)) (c : Bool) (mt : MT) (inner : Ev → Option (List D)) (E0 : Ev) : List D → Option (List D)
  | [] => some []
  | d :: ds => if c || flat d then (pick d).bind fun qs => (mt (setAllE E0 is qs)).bind fun b => if b = true then (inner (setAllE E0 is qs)).bind fun ys => (lc2D is pick c mt inner E0 ds).bind fun zs => some (ys ++ zs) else lc2D is pick c mt inner E0 ds else none
def mIn (is1 : List Nat) (pick1 : D → Option (List D)) (mi1 : MI) (mt1 : MT) (me : ME) : Ev → Option (List D) := fun E2 => (mi1 E2).bind fun cl => lcD is1 pick1 cl.1 mt1 me (wipeE E2 is1) cl.2
def mLc22 (vs is : List Nat) (pick : D → Option (List D)) (mi : MI) (mt : MT) (is1 : List Nat) (pick1 : D → Option (List D)) (mi1 : MI) (mt1 : MT) (me : ME) : ME := fun E => (mi E).bind fun cl =>
  (lc2D is pick cl.1 mt (mIn is1 pick1 mi1 mt1 me) (wipeE E vs) cl.2).bind fun res => if res.length ≤ lim then some (.o res) else none
theorem wipe_setAll2 (σ : L2.St) (is vs : List Nat) (xs : List V) (h : ∀ i ∈ is, i ∈ vs) : L2.wipe (MD.setAll (L2.wipe σ vs) is xs) vs = L2.wipe σ vs := by
  apply List.ext_getElem?
  intro j
  rw [wipe_get, wipe_get, setAll_len, L2.wipe_length]
  by_cases hj : j ∈ vs
  · simp [hj]
  · simp only [hj, if_false]
    rw [setAll_get is xs _ j (fun z => hj (h j z)), wipe_get]
    simp [hj]
theorem tLc2_of {vs is is1 : List Nat} {pick pick1 : D → Option (List D)} {mi mi1 : MI} {mt mt1 : MT} {me : ME} {g g1 : TG} (hg : TgOk K g is pick) (hg1 : TgOk K g1 is1 pick1) (hsub : ∀ i ∈ is, i ∈ vs) :
    ∀ σ H Q, tM K (mLc22 vs is pick mi mt is1 pick1 mi1 mt1 me) σ H Q → tLc2 (tMI K mi) g (tMT K mt) (tMI K mi1) g1 (tMT K mt1) (tM K me) vs is1 σ H Q := fun σ H Q ⟨E, W, rc, hH, hm, k⟩ => by
  obtain ⟨⟨c, l⟩, ei, hm⟩ := bindSome hm
  obtain ⟨res, er, hm⟩ := bindSome hm
  split at hm
  rotate_left
  · cases hm
  rename_i hlim
  cases hm
  refine ⟨E, W, c, l, hH, ei, fun J H1 s1 hw D hD => ?_⟩
  have hH1 := hH.grow s1
  have hD0 : W.w D = false := hH1.dom.free hD
  have zD : (W.add D).z D = true := adm_self
  let INV : Nat → Hp → Prop := fun i H2 => Same H1 H2 ∧ Held K H2 (W.add D) (L2.wipe σ vs) (wipeE E vs) ∧ ∃ acc ad rest, H2 D = some (.lst acc) ∧ DpAll K (hid (adm D W.w) H2) acc ad ∧ lc2D is pick c mt (mIn is1 pick1 mi1 mt1 me) (wipeE E vs) (l.drop i) = some rest ∧ ad ++ rest = res
  refine ⟨fun i m H2 => m = l.length - i ∧ i ≤ l.length ∧ INV i H2, ⟨l.length, by simp, Nat.zero_le _, same_new hD, (hH1.hide hD []).wipe vs, [], [], res, upd_same, .nil, by simpa using er, rfl⟩, ?_⟩
  rintro i mm H2 ⟨rfl, hi, S, hh, acc, ad, rest, eD, da, el, ea⟩
  have hM : Dom (adm D (W.of c)) H2 := fun a ha => by
    have q : (W.add D).w a = true := by
      rw [W.add_w D]
      unfold adm at ha ⊢
      rw [Bool.or_eq_true] at ha ⊢
      rcases ha with ha | ha
      · left
        unfold WM.of at ha
        cases c with
        | true => exact ha
        | false => exact WM.zw a ha
      · exact .inr ha
    exact hh.dom a q
  have hB : Same (hid (W.of c) H1) (hid (adm D (W.of c)) H2) := fun b o e => by
    rw [hid_eq] at e ⊢
    refine ⟨?_, S _ _ e.2⟩
    unfold adm
    rw [e.1, decide_eq_false (ne_of_none e.2 hD)]
    rfl
  obtain ⟨hgo, hst⟩ := hw i _ H2 hB hM
  by_cases hlt : i < l.length
  · have hd : l[i]? = some l[i] := by simp [hlt]
    have edrop : l.drop i = l[i] :: l.drop (i + 1) := (List.drop_eq_getElem_cons hlt)
    rw [edrop] at el
    obtain ⟨g1', g2'⟩ := hgo _ hd
    unfold lc2D at el
    split at el
    rotate_left
    · cases el
    rename_i hcf
    obtain ⟨qs, ep, el⟩ := bindSome el
    obtain ⟨bt, et, el⟩ := bindSome el
    refine .inr ⟨g1', fun H' => INV (i + 1) H', fun H' p' => ⟨l.length - (i + 1), by omega, rfl, hlt, p'⟩, fun x H3 y => ?_⟩
    obtain ⟨s3, dx⟩ := g2' x H3 y
    have hh3 := hh.grow s3
    have dx' : Dp K (hid (W.add D).w H3) x l[i] := by
      rw [W.add_w D]
      cases c with
      | true => exact dx
      | false =>
        have := hh3.dom
        rw [W.add_w D] at this
        exact dp_flat this _ _ (by simpa using hcf) (Dpm dx hid_sub)
    refine hg (W.add D).w x _ qs _ H3 _ dx' ep fun vv dvs => ?_
    have hh4 := hh3.setAll (is := is) dvs
    refine ⟨wipe_setAll2 σ is vs vv hsub, _, W.add D, bt, hh4, et, fun H4 s4 => ?_⟩
    cases bt with
    | false =>
      rw [if_neg Bool.false_ne_true] at el ⊢
      exact ⟨(S.trans s3).trans s4, (hh3.grow s4), acc, ad, rest, s4 _ _ (s3 _ _ eD), Dpam da (hid_same (s3.trans s4)), el, ea⟩
    | true =>
      rw [if_pos rfl] at el ⊢
      obtain ⟨ys, ey, el⟩ := bindSome el
      obtain ⟨zs, ez, el⟩ := bindSome el
      cases el
      obtain ⟨⟨c1, l1⟩, ei1, ey⟩ := bindSome ey
      refine ⟨_, W.add D, c1, l1, hh4.grow s4, ei1, fun J1 H5 s5 hw1 => ?_⟩
      have ey : lcD is1 pick1 c1 mt1 me (wipeE (setAllE (wipeE E vs) is qs) is1) l1 = some ys := ey
      have S25 : Same H2 H5 := (s3.trans s4).trans s5
      let σ2 := MD.setAll (L2.wipe σ vs) is vv
      let E2 := setAllE (wipeE E vs) is qs
      let INV1 : Nat → Hp → Prop := fun j H6 => Same H1 H6 ∧ (∀ b o, b ≠ D → H5 b = some o → H6 b = some o) ∧ Held K H6 (W.add D) (L2.wipe σ2 is1) (wipeE E2 is1) ∧ Held K H6 (W.add D) (L2.wipe σ vs) (wipeE E vs) ∧ ∃ acc ad rest, H6 D = some (.lst acc) ∧ DpAll K (hid (adm D W.w) H6) acc ad ∧ lcD is1 pick1 c1 mt1 me (wipeE E2 is1) (l1.drop j) = some rest ∧ ad ++ (rest ++ zs) = res
      refine ⟨fun j k H6 => k = l1.length - j ∧ j ≤ l1.length ∧ INV1 j H6, ⟨l1.length, by simp, Nat.zero_le _, S.trans S25, fun b o _ e => e, ((hh4.grow s4).grow s5).wipe is1, (hh3.grow s4).grow s5, acc, ad, ys, S25 _ _ eD, Dpam da (hid_same S25), by simpa using ey, ea⟩, ?_⟩
      rintro j kk H6 ⟨rfl, hj, T6, U6, hk6, hb6, acc6, ad6, rest6, eD6, da6, el6, ea6⟩
      have zo : ∀ c : Bool, (W.add D).of c D = true := fun c => by
        unfold WM.of
        cases c with
        | true => exact WM.zw D zD
        | false => exact zD
      have hM1 : Dom ((W.add D).of c1) H6 := fun a ha => by
        refine hk6.dom a ?_
        unfold WM.of at ha
        cases c1 with
        | true => exact ha
        | false => exact WM.zw a ha
      have hB1 : Same (hid ((W.add D).of c1) H5) (hid ((W.add D).of c1) H6) := fun b o e => by
        rw [hid_eq] at e ⊢
        refine ⟨e.1, U6 b o (fun z => ?_) e.2⟩
        subst z
        rw [zo c1] at e
        cases e.1
      obtain ⟨hgo1, hst1⟩ := hw1 j _ H6 hB1 hM1
      by_cases hlt1 : j < l1.length
      · have hd1 : l1[j]? = some l1[j] := by simp [hlt1]
        have edrop1 : l1.drop j = l1[j] :: l1.drop (j + 1) := (List.drop_eq_getElem_cons hlt1)
        rw [edrop1] at el6
        obtain ⟨p1, p2⟩ := hgo1 _ hd1
        unfold lcD at el6
        split at el6
        rotate_left
        · cases el6
        rename_i hcf1
        obtain ⟨qs1, ep1, el6⟩ := bindSome el6
        obtain ⟨bt1, et1, el6⟩ := bindSome el6
        refine .inr ⟨p1, fun H' => INV1 (j + 1) H', fun H' p' => ⟨l1.length - (j + 1), by omega, rfl, hlt1, p'⟩, fun x1 H7 y1 => ?_⟩
        obtain ⟨s7, dx1⟩ := p2 x1 H7 y1
        have hh7 := hk6.grow s7
        have dx1' : Dp K (hid (W.add D).w H7) x1 l1[j] := by
          unfold WM.of at dx1
          cases c1 with
          | true => exact dx1
          | false => exact dp_flat hh7.dom _ _ (by simpa using hcf1) (Dpm dx1 hid_sub)
        refine hg1 (W.add D).w x1 _ qs1 _ H7 _ dx1' ep1 fun vv1 dvs1 => ?_
        have hh8 := hh7.setAll (is := is1) dvs1
        refine ⟨wipe_setAll σ2 is1 vv1, _, W.add D, bt1, hh8, et1, fun H8 s8 => ?_⟩
        have S68 : Same H6 H8 := s7.trans s8
        cases bt1 with
        | false =>
          rw [if_neg Bool.false_ne_true] at el6
          refine iteF ?_
          exact ⟨T6.trans S68, fun b o hb e => S68 _ _ (U6 b o hb e), hh7.grow s8, hb6.grow S68, acc6, ad6, rest6, S68 _ _ eD6, Dpam da6 (hid_same S68), el6, ea6⟩
        | true =>
          rw [if_pos rfl] at el6
          refine iteT ?_
          obtain ⟨rx, ex, el6⟩ := bindSome el6
          obtain ⟨yd, ey1, el6⟩ := bindSome el6
          obtain ⟨rest', el', e5⟩ := bindSome el6
          cases e5
          refine ⟨_, W.add D, rx, hh8.grow s8, ex, fun yv H9 s9 r9 f9 => ?_⟩
          have S69 : Same H6 H9 := S68.trans s9
          have hh9 := (hh7.grow s8).grow s9
          have dy := r9.pro (hh9.dom) ey1
          rw [W.add_w D] at dy
          have eD9 := S69 _ _ eD6
          have hlen : acc6.length < sizeLine := by
            have h1 : acc6.length = ad6.length := DpAll_len da6
            have h2 : (ad6 ++ (yd :: rest' ++ zs)).length = res.length := by rw [ea6]
            rw [List.length_append, List.length_append, List.length_cons] at h2
            exact Nat.lt_of_lt_of_le (show acc6.length < lim by omega) lim_line
          refine ⟨acc6, eD9, hlen, ?_, ?_, hh9.updz zD _, (hb6.grow S69).updz zD _, acc6 ++ [yv], ad6 ++ [yd], rest', upd_same, ?_, el', by rw [List.append_assoc]; exact ea6⟩
          · intro b o e
            rw [upd_ne (ne_of_none e hD)]
            exact S69 _ _ (T6 _ _ e)
          · intro b o hb e
            rw [upd_ne hb]
            exact S69 _ _ (U6 b o hb e)
          · rw [hid_in adm_self]
            exact DpAll_app (Dpam da6 (hid_same S69)) (.cons dy .nil)
      · have e : j = l1.length := by omega
        subst e
        rw [List.drop_length] at el6
        cases el6
        exact .inl ⟨hst1 (Nat.le_refl _), T6, hb6, acc6, ad6, zs, eD6, da6, ez, ea6⟩
  · have e : i = l.length := by omega
    subst e
    rw [List.drop_length] at el
    cases el
    rw [List.append_nil] at ea
    subst ea
    exact .inl ⟨hst (Nat.le_refl _), k _ H2 (s1.trans S) ⟨(hH1.grow S).dom, [D], .lst eD (lks_fl (by rw [adms_one]; exact da)), by simp, fun a ha => by cases List.mem_singleton.mp ha; exact hD0⟩ (rf_o (s1.free hD))⟩
theorem m_lc2 {elt iter tg1 iter1 : Expr} {ifs ifs1 : List Expr} {scope : Scope} {own : List (Str × Nat)} {is is1 : List Nat} {mi mi1 : MI} {mt mt1 : MT} {me : ME} {g g1 : TG} {pick pick1 : D → Option (List D)} (hc : X.calm = true) (hN : X.N.Nodup) (ht' : TgOk X.K g is pick) (ht1' : TgOk X.K g1 is1 pick1) (hsub : ∀ i ∈ is, i ∈ own.map (·.2)) (hsub1 : ∀ i ∈ is1, i ∈ own.map (·.2)) (hi : PI X tg iter (tMI X.K mi)) (ok : BlkOk X.N X.env.scope scope own)
    (hg : ∀ (s : Shared) (H : Hp) (C : Addr) (cl : List (Str × Addr)) (fp : List Addr), PG (X.blk s H scope (compEnvC scope cl C X.env) fp) tg g) (ht : ∀ (s : Shared) (H : Hp) (C : Addr) (cl : List (Str × Addr)) (fp : List Addr), PTs (X.blk s H scope (compEnvC scope cl C X.env) fp) ifs (tMT X.K mt))
    (hi1 : ∀ (s : Shared) (H : Hp) (C : Addr) (cl : List (Str × Addr)) (fp : List Addr), PI (X.blk s H scope (compEnvC scope cl C X.env) fp) tg1 iter1 (tMI X.K mi1))
    (hg1 : ∀ (s : Shared) (H : Hp) (C : Addr) (cl : List (Str × Addr)) (fp : List Addr), PG (X.blk s H scope (compEnvC scope cl C X.env) fp) tg1 g1) (ht1 : ∀ (s : Shared) (H : Hp) (C : Addr) (cl : List (Str × Addr)) (fp : List Addr), PTs (X.blk s H scope (compEnvC scope cl C X.env) fp) ifs1 (tMT X.K mt1))
    (he : ∀ (s : Shared) (H : Hp) (C : Addr) (cl : List (Str × Addr)) (fp : List Addr), PE (X.blk s H scope (compEnvC scope cl C X.env) fp) elt (tM X.K me)) (hs : ∀ x, foldedSetIterable iter X.env x = pure x := by intro _; rfl) (hs1 : ∀ env x, foldedSetIterable iter1 env x = pure x := by intro _ _; rfl) :
    PE X (.ListComp elt [⟨tg, iter, ifs, 0⟩, ⟨tg1, iter1, ifs1, 0⟩] scope pos) (tM X.K (mLc22 (own.map (·.2)) is pick mi mt is1 pick1 mi1 mt1 me)) :=
  pe_imp (pe_lc2 hc hN hi ok hsub1 hg ht hi1 hg1 ht1 he hs hs1) (tLc2_of ht' ht1' hsub)
theorem lc2D_map {α : Type} {is : List Nat} {pick : D → Option (List D)} {mt : MT} {inner : Ev → Option (List D)} {E0 : Ev} {enc : α → D} {qs : α → List D} {b : α → Bool} {y : α → List D} : ∀ (l : List α),
    (∀ a ∈ l, pick (enc a) = some (qs a) ∧ mt (setAllE E0 is (qs a)) = some (b a) ∧ (b a = true → inner (setAllE E0 is (qs a)) = some (y a))) →
    lc2D is pick true mt inner E0 (l.map enc) = some ((l.filter b).flatMap y)
  | [], _ => rfl
  | a :: l, h => by
    obtain ⟨h2, h3, h4⟩ := h a List.mem_cons_self
    have ih := lc2D_map (b := b) (y := y) (qs := qs) l fun x hx => h x (List.mem_cons_of_mem _ hx)
    show (pick (enc a)).bind _ = _
    rw [h2]
    show (mt (setAllE E0 is (qs a))).bind _ = _
    rw [h3]
    show (if b a = true then _ else _) = _
    rw [List.filter_cons]
    split
    · rename_i hb
      rw [h4 hb]
      show (lc2D is pick true mt inner E0 (l.map enc)).bind _ = _
      rw [ih]
      rfl
    · exact ih
end
end MD

namespace MD
open PySem PySem.Spec L2
/-! ### the mathematics of areas -/
def cov : List Pt → Int
  | [] => 0
  | s :: t => sp s (sm2 t) + cov t
theorem sp_lin (q : Pt) : Lin (fun p => sp p q) := ⟨by simp [sp], fun a b => sp_adl a b q⟩
/-! pairs of places -/
def pairs (n : Nat) : List (Nat × Nat) := (List.range n).flatMap fun i => (List.range (n - (i + 1))).map fun k => (i, i + 1 + k)
theorem pairs_mem {n : Nat} {a : Nat × Nat} (h : a ∈ pairs n) : a.1 < a.2 ∧ a.2 < n := by
  obtain ⟨i, hi, h⟩ := List.mem_flatMap.mp h
  obtain ⟨k, hk, rfl⟩ := List.mem_map.mp h
  have := List.mem_range.mp hi
  have := List.mem_range.mp hk
  simp only
  omega
theorem pairs_len (n : Nat) (h : n ≤ 6) : (pairs n).length ≤ 15 := by
  match n, h with
  | 0, _ => decide
  | 1, _ => decide
  | 2, _ => decide
  | 3, _ => decide
  | 4, _ => decide
  | 5, _ => decide
  | 6, _ => decide
/-! fewer sticks -/
theorem SOk.sub {ss tt : List Pt} (h : SOk ss) (hs : tt.Sublist ss) (hn : tt ≠ []) : SOk tt :=
  ⟨by cases tt with | nil => exact absurd rfl hn | cons _ _ => simp, Nat.le_trans hs.length_le h.l6, fun s hx => h.nr s (hs.subset hx), fun s hx => h.sd s (hs.subset hx), h.pw.sublist hs⟩
def absSum (s : Pt) (l : List Pt) : Int := (l.map fun o => absI (sp s o)).sum
/-! one more stick -/
end MD
namespace MD
open PySem PySem.Spec L2
def enc2 (a : Nat × Nat) : D := .list [.int (a.1 : Nat), .int (a.2 : Nat)]
theorem cut_take (l : List D) (k : Nat) : cutD l none (some (k : Int)) = l.take k := by
  unfold cutD
  rw [HT.sIx_nat, show HT.sIx l.length 0 none = 0 from rfl, List.drop_zero, Nat.sub_zero]
  rcases Nat.le_total k l.length with h | h
  · rw [Nat.min_eq_left h]
  · rw [Nat.min_eq_right h, List.take_of_length_le h, List.take_of_length_le (Nat.le_refl _)]
theorem cut_drop (l : List D) (k : Nat) : cutD l (some (k : Int)) none = l.drop k := by
  unfold cutD
  rw [HT.sIx_nat, show HT.sIx l.length l.length none = l.length from rfl]
  rcases Nat.le_total k l.length with h | h
  · rw [Nat.min_eq_left h]
    exact List.take_of_length_le (by rw [List.length_drop]; omega)
  · rw [Nat.min_eq_right h, List.drop_of_length_le h, List.drop_of_length_le (Nat.le_refl _)]
    simp
/-- the sticks that may be longer by one, and one up -/
def fewer (ss : List Pt) : List Pt := (ss.take 5).filter fun p => decide (absI p.1 < 20) && decide (p.2 < 20)
end MD
namespace MD
theorem pairs_enc (n : Nat) : ((List.range n).flatMap fun i => (List.range (n - (i + 1))).map fun k => enc2 (i, i + 1 + k)) = (pairs n).map enc2 := by
  unfold pairs
  rw [List.map_flatMap]
  simp only [List.map_map]
  rfl
end MD
namespace MD
theorem cq_bound {ss : List Pt} (h : SOk ss) {k : Nat} (hk : k ≤ 2 * ss.length) : (-1000 ≤ (cq ss k).1 ∧ (cq ss k).1 ≤ 1000) ∧ (-1000 ≤ (cq ss k).2 ∧ (cq ss k).2 ≤ 1000) := by
  have hl := h.l6
  have b1 : ∀ j, (-(20 * ((ss.take j).length : Int)) ≤ (sm2 (ss.take j)).1 ∧ (sm2 (ss.take j)).1 ≤ 20 * (ss.take j).length) ∧ (-(20 * ((ss.take j).length : Int)) ≤ (sm2 (ss.take j)).2 ∧ (sm2 (ss.take j)).2 ≤ 20 * (ss.take j).length) := fun j => sm2_bound (ss.take j) fun r hr => h.nr r (List.mem_of_mem_take hr)
  have b2 := sm2_bound ss h.nr
  have hlt : ∀ j, (ss.take j).length ≤ 6 := fun j => by rw [List.length_take]; omega
  unfold cq
  split
  · have := b1 k; have := hlt k; omega
  · have := b1 (k - ss.length); have := hlt (k - ss.length); unfold sb; simp only; omega
theorem cq_sm {ss : List Pt} (h : SOk ss) {k : Nat} (hk : k ≤ 2 * ss.length) : Sm (cq ss k) := by
  have := cq_bound h hk
  unfold Sm
  omega
end MD
namespace MD
theorem mCall1 {g : List D → Option R} {m : ME} {E : Ev} {r r' : R} {d : D} (h : m E = some r) (hp : r.pro = some d) (hg : g [d] = some r') : mCall 1 g (mCons m mNil) E = some r'.up := by
  unfold mCall mCons mNil
  rw [h]
  show (if [r].length = 1 then (match pros [r] with | some ds => (g ds).map R.up | none => (g ([r].map R.d)).map R.taint) else none) = _
  have e : pros [r] = some [d] := by rw [pros_cons, hp]; rfl
  rw [e]
  show (g [d]).map R.up = _
  rw [hg]
  rfl
theorem deq_nil : deq (.list []) (.list []) = true := rfl
end MD

namespace MD
open PySem PySem.Spec L2
/-! ### slabs of the cut whose signs are all 0 make up the body -/
/-- in the slab of a and b at F, by spans -/
structure Slab (a b F q : Pt) : Prop where
  f0 : 0 ≤ sp (sb q F) b
  f1 : sp (sb q F) b ≤ sp a b
  s0 : 0 ≤ sp a (sb q F)
  s1 : sp a (sb q F) ≤ sp a b
instance (a b F q : Pt) : Decidable (Slab a b F q) := decidable_of_iff (0 ≤ sp (sb q F) b ∧ sp (sb q F) b ≤ sp a b ∧ 0 ≤ sp a (sb q F) ∧ sp a (sb q F) ≤ sp a b) ⟨fun h => ⟨h.1, h.2.1, h.2.2.1, h.2.2.2⟩, fun h => ⟨h.1, h.2, h.3, h.4⟩⟩
theorem cramer (a b r c : Pt) : sp a b * sp c r = sp r b * sp c a + sp a r * sp c b := by unfold sp; grind
def at0 (ss : List Pt) (k : Nat) : Pt := ss.getD k (0, 0)
theorem at0_eq {ss : List Pt} {k : Nat} (h : k < ss.length) : ss[k]? = some (at0 ss k) := by
  unfold at0
  rw [List.getD_eq_getElem?_getD, List.getElem?_eq_getElem h]
  rfl
def foot (ss : List Pt) (i j : Nat) : Pt := sm2 ((ss.take j).drop (i + 1))
def slabAt (ss : List Pt) (q : Pt) (a : Nat × Nat) : Bool := decide (Slab (at0 ss a.1) (at0 ss a.2) (foot ss a.1 a.2) q)
def Sides (ss : List Pt) (q : Pt) : Prop := ∀ k s, ss[k]? = some s → sp s (sm2 (ss.take k)) ≤ sp s q ∧ sp s q ≤ sp s (sm2 ss) - sp s (sm2 (ss.take k))
theorem hld_sides {ss : List Pt} {q : Pt} : hld ss q = true ↔ Sides ss q := by
  rw [hld_iff]
  constructor
  · intro h k s hs
    have hk := (List.getElem?_eq_some_iff.mp hs).1
    have h1 := h k (by omega)
    have h2 := h (ss.length + k) (by omega)
    rw [side_lo hs] at h1
    rw [side_hi hs, (lin_sp s).sb] at h2
    omega
  · intro h
    refine side_all (P := fun i => 0 ≤ i) fun k s hs => ?_
    rw [side_lo hs, side_hi hs, (lin_sp s).sb]
    have := h k s hs
    omega
theorem ivt (h : Nat → Int) (v : Int) : ∀ m, 0 < m → v ≤ h 0 → h m ≤ v → ∃ i, i < m ∧ h (i + 1) ≤ v ∧ v ≤ h i
  | 0, hm, _, _ => absurd hm (by omega)
  | 1, _, h0, h1 => ⟨0, by omega, h1, h0⟩
  | m + 2, _, h0, h1 => by
    by_cases hv : v ≤ h (m + 1)
    · exact ⟨m + 1, by omega, h1, hv⟩
    · obtain ⟨i, hi, h2⟩ := ivt h v (m + 1) (by omega) h0 (by omega)
      exact ⟨i, by omega, h2⟩
theorem sum_max {f : Pt → Int} : ∀ (l : List Pt), 0 ≤ (l.map fun t => max 0 (f t)).sum ∧ (l.map f).sum ≤ (l.map fun t => max 0 (f t)).sum
  | [] => by simp
  | t :: l => by have := sum_max (f := f) l; simp only [List.map_cons, List.sum_cons]; omega
theorem drop_max {f : Pt → Int} (L : Lin f) (l : List Pt) (j : Nat) : f (sm2 (l.drop j)) ≤ (l.map fun t => max 0 (f t)).sum := by
  rw [L.sum]
  have h1 := (sum_max (f := f) (l.drop j)).2
  have h2 := (sum_max (f := f) (l.take j)).1
  have e : (l.map fun t => max 0 (f t)).sum = ((l.take j).map fun t => max 0 (f t)).sum + ((l.drop j).map fun t => max 0 (f t)).sum := by
    conv => lhs; rw [← List.take_append_drop j l, List.map_append, List.sum_append]
  omega
theorem le_of_mul {u x y : Int} (hu : 0 < u) (h : u * x ≤ u * y) : x ≤ y := Int.le_of_mul_le_mul_left h hu
theorem drop_cons {l : List Pt} {i : Nat} {a : Pt} (h : l[i]? = some a) : sm2 (l.drop i) = ad a (sm2 (l.drop (i + 1))) := by
  obtain ⟨hi, rfl⟩ := List.getElem?_eq_some_iff.mp h
  rw [List.drop_eq_getElem_cons hi, sm2_cons]
theorem take_drop_sum (l : List Pt) (i : Nat) : ad (sm2 (l.take i)) (sm2 (l.drop i)) = sm2 l := by rw [← sm2_app, List.take_append_drop]
/-- one stick more: a point of the body is in a slab of the new one, or in the body before -/
theorem tile_step {l : List Pt} {s : Pt} (h : SOk l) (h' : SOk (l ++ [s])) {q : Pt} (hq : Sides (l ++ [s]) q) : (∃ i, i < l.length ∧ Slab (at0 l i) s (sm2 (l.drop (i + 1))) q) ∨ (2 ≤ l.length ∧ Sides l q) := by
  have hls : ∀ k c, l[k]? = some c → 0 < sp c s := fun k c hc => (List.pairwise_append.mp h'.pw).2.2 c (List.mem_of_getElem? hc) s List.mem_cons_self
  have get : ∀ k c, l[k]? = some c → (l ++ [s])[k]? = some c := fun k c hc => by
    rw [List.getElem?_append_left (List.getElem?_eq_some_iff.mp hc).1]; exact hc
  have tk : ∀ k, k ≤ l.length → (l ++ [s]).take k = l.take k := fun k hk => by rw [List.take_append_of_le_length hk]
  have hs : (l ++ [s])[l.length]? = some s := by simp
  have hlast := hq l.length s hs
  rw [tk _ (Nat.le_refl _), List.take_length, sm2_snoc, sp_adr, sp_self] at hlast
  -- across s
  let u : Pt → Int := fun p => sp p s
  have Lu : Lin u := sp_lin s
  have hu0 : 0 ≤ u q ∧ u q ≤ u (sm2 l) := by
    have a1 := sp_anti s q
    have a2 := sp_anti s (sm2 l)
    show 0 ≤ sp q s ∧ sp q s ≤ sp (sm2 l) s
    omega
  obtain ⟨i, hi, i1, i2⟩ := ivt (fun k => u (sm2 (l.drop k))) (u q) l.length h.l1 (by simpa using hu0.2) (by simp [sm2_nil, Lu.z]; exact hu0.1)
  have ha := at0_eq hi
  let a := at0 l i
  have hA : 0 < sp a s := hls i a ha
  have hqi := hq i a (get i a ha)
  rw [tk _ (by omega), sm2_snoc, sp_adr] at hqi
  have ed := drop_cons ha
  have et := take_drop_sum l i
  have sa : sp a (sm2 l) = sp a (sm2 (l.take i)) + sp a (sm2 (l.drop (i + 1))) := by
    rw [← et, ed, sp_adr, sp_adr, sp_self]
    omega
  have i2' : u q ≤ u a + u (sm2 (l.drop (i + 1))) := by
    have : u q ≤ u (sm2 (l.drop i)) := i2
    rw [ed, Lu.a] at this
    exact this
  have f0 : 0 ≤ sp (sb q (sm2 (l.drop (i + 1)))) s := by
    have : u (sm2 (l.drop (i + 1))) ≤ u q := i1
    rw [show sp (sb q (sm2 (l.drop (i + 1)))) s = u q - u (sm2 (l.drop (i + 1))) from Lu.sb _ _]
    omega
  have f1 : sp (sb q (sm2 (l.drop (i + 1)))) s ≤ sp a s := by
    rw [show sp (sb q (sm2 (l.drop (i + 1)))) s = u q - u (sm2 (l.drop (i + 1))) from Lu.sb _ _]
    have : u a = sp a s := rfl
    omega
  have s1 : sp a (sb q (sm2 (l.drop (i + 1)))) ≤ sp a s := by
    rw [(lin_sp a).sb]
    omega
  by_cases hneg : 0 ≤ sp a (sb q (sm2 (l.drop (i + 1))))
  · exact .inl ⟨i, hi, f0, f1, hneg, s1⟩
  · refine .inr ⟨?_, fun k c hc => ?_⟩
    · apply Classical.byContradiction
      intro hl
      have e1 : l.length = 1 := by have := h.l1; omega
      have e0 : i = 0 := by omega
      subst e0
      have : l.drop (0 + 1) = [] := List.drop_of_length_le (by omega)
      rw [this, sm2_nil, sb_zero] at hneg
      rw [List.take_zero, sm2_nil, (lin_sp a).z] at hqi
      omega
    · have hk := (List.getElem?_eq_some_iff.mp hc).1
      have hqk := hq k c (get k c hc)
      rw [tk _ (by omega), sm2_snoc, sp_adr] at hqk
      refine ⟨hqk.1, ?_⟩
      obtain ⟨_, mx⟩ := h.minmax hc
      rw [(lin_sp c).sb] at mx
      have A0 := drop_max (lin_sp c) l (i + 1)
      have A1 := drop_max (lin_sp c) l i
      rw [mx] at A0 A1
      rw [ed, sp_adr] at A1
      have cs := hls k c hc
      have cr := cramer a s (sb q (sm2 (l.drop (i + 1)))) c
      rw [show sp c q = sp c (sb q (sm2 (l.drop (i + 1)))) + sp c (sm2 (l.drop (i + 1))) by rw [(lin_sp c).sb]; omega]
      generalize sp c (sm2 (l.drop (i + 1))) = cF at *
      generalize sp c (sm2 l) - sp c (sm2 (l.take k)) = cE at *
      generalize hr : sb q (sm2 (l.drop (i + 1))) = r at *
      generalize sp r s = fi at *
      generalize sp a r = se at *
      generalize sp c r = cr0 at *
      generalize sp c a = ca at *
      generalize sp c s = cs0 at *
      generalize sp a s = U at *
      have : cr0 ≤ cE - cF := by
        refine le_of_mul hA ?_
        rw [cr]
        have m1 : fi * ca ≤ fi * (cE - cF) := Int.mul_le_mul_of_nonneg_left (by omega) f0
        have m2 : fi * (cE - cF) ≤ U * (cE - cF) := Int.mul_le_mul_of_nonneg_right f1 (by omega)
        have m3 : se * cs0 ≤ 0 := Int.mul_nonpos_of_nonpos_of_nonneg (by omega) (by omega)
        omega
      omega
theorem tile {q : Pt} : ∀ (n : Nat) (ss : List Pt), ss.length = n → 2 ≤ n → SOk ss → Sides ss q → ∃ a ∈ pairs ss.length, slabAt ss q a = true := by
  intro n
  induction n with
  | zero => intro ss _ h; omega
  | succ n ih =>
    intro ss hn h2 h hq
    have hne : ss ≠ [] := by intro z; rw [z] at hn; simp at hn
    obtain ⟨l, s, rfl⟩ : ∃ l s, ss = l ++ [s] := ⟨ss.dropLast, ss.getLast hne, (List.dropLast_concat_getLast hne).symm⟩
    have hl : l.length = n := by simpa using hn
    have hln : l ≠ [] := by intro z; rw [z] at hl; simp at hl; omega
    have hk : SOk l := h.sub (List.sublist_append_left l [s]) hln
    have mem : ∀ i j, i < j → j < l.length + 1 → (i, j) ∈ pairs (l ++ [s]).length := fun i j hij hj => by
      unfold pairs
      refine List.mem_flatMap.mpr ⟨i, List.mem_range.mpr (by simp; omega), List.mem_map.mpr ⟨j - (i + 1), List.mem_range.mpr (by simp; omega), ?_⟩⟩
      rw [show i + 1 + (j - (i + 1)) = j by omega]
    have at_l : ∀ k, k < l.length → at0 (l ++ [s]) k = at0 l k := fun k hk => by
      unfold at0
      rw [List.getD_eq_getElem?_getD, List.getD_eq_getElem?_getD, List.getElem?_append_left hk]
    have at_s : at0 (l ++ [s]) l.length = s := by
      unfold at0
      rw [List.getD_eq_getElem?_getD]
      simp
    rcases tile_step hk h hq with ⟨i, hi, sl⟩ | ⟨hl2, hs⟩
    · refine ⟨(i, l.length), mem i l.length hi (by omega), decide_eq_true ?_⟩
      show Slab (at0 (l ++ [s]) i) (at0 (l ++ [s]) l.length) (foot (l ++ [s]) i l.length) q
      rw [at_l i hi, at_s]
      unfold foot
      rw [List.take_append_of_le_length (Nat.le_refl _), List.take_length]
      exact sl
    · obtain ⟨⟨i, j⟩, ha, hb⟩ := ih l hl (by omega) hk hs
      obtain ⟨p1, p2⟩ := pairs_mem ha
      simp only at p1 p2
      refine ⟨(i, j), mem i j p1 (by omega), decide_eq_true ?_⟩
      have := of_decide_eq_true hb
      show Slab (at0 (l ++ [s]) i) (at0 (l ++ [s]) j) (foot (l ++ [s]) i j) q
      rw [at_l i (by omega), at_l j p2]
      unfold foot
      rw [List.take_append_of_le_length (by omega)]
      exact this
end MD

namespace MD
open PySem PySem.Spec L2
theorem SOk.span {ss : List Pt} (h : SOk ss) {i j : Nat} (h1 : i < j) (h2 : j < ss.length) : 0 < sp (at0 ss i) (at0 ss j) := by
  have e1 := at0_eq (ss := ss) (k := i) (by omega)
  have e2 := at0_eq h2
  obtain ⟨q1, e1⟩ := List.getElem?_eq_some_iff.mp e1
  obtain ⟨q2, e2⟩ := List.getElem?_eq_some_iff.mp e2
  rw [← e1, ← e2]
  exact List.pairwise_iff_getElem.mp h.pw i j q1 q2 h1
def mx (c : Pt) (l : List Pt) : Int := (l.map fun t => max 0 (sp c t)).sum
theorem mx_app (c : Pt) (l r : List Pt) : mx c (l ++ r) = mx c l + mx c r := by unfold mx; rw [List.map_append, List.sum_append]
theorem mx_nonneg (c : Pt) (l : List Pt) : 0 ≤ mx c l := (sum_max (f := sp c) l).1
theorem mx_le (c : Pt) (l : List Pt) : sp c (sm2 l) ≤ mx c l := by rw [(lin_sp c).sum]; exact (sum_max (f := sp c) l).2
/-- on the one stick -/
def oneB (s q : Pt) : Bool := decide (sp s q = 0) && (decide (0 ≤ dt s q) && decide (dt s q ≤ dt s s))
theorem std_dt {s : Pt} (h : Std s) : 0 < dt s s := by
  unfold dt
  have h1 := sq_nonneg s.1
  have h2 := sq_nonneg s.2
  rcases h with h | ⟨_, h⟩
  · have := Int.mul_pos h h; omega
  · have := Int.mul_pos h h; omega
def foundB (ss : List Pt) (q : Pt) : Bool := if ss.length = 1 then oneB (at0 ss 0) q else (pairs ss.length).any (slabAt ss q)
theorem one_of {ss : List Pt} (h : ss.length = 1) : ss = [at0 ss 0] := by
  match ss, h with
  | [s], _ => rfl
theorem hold_found {ss : List Pt} (h : SOk ss) {q : Pt} (hh : holdB ss q = true) : foundB ss q = true := by
  unfold holdB at hh
  rw [Bool.and_eq_true] at hh
  obtain ⟨h1, h2⟩ := hh
  unfold foundB
  have hl := h.l1
  split
  · rename_i e1
    have e := one_of e1
    have hs := hld_sides.mp h1 0 (at0 ss 0) (at0_eq (by omega))
    rw [List.take_zero, sm2_nil, (lin_sp _).z] at hs
    have es : sp (at0 ss 0) (sm2 ss) = 0 := by
      conv => lhs; arg 2; rw [e]
      rw [sm2_cons, sm2_nil, ad_zero, sp_self]
    rw [es] at hs
    have eh : ss.headD (0, 0) = at0 ss 0 := by rw [e]; rfl
    rw [eh, decide_eq_false (by omega), Bool.false_or] at h2
    unfold oneB
    rw [decide_eq_true (by omega), h2]
    rfl
  · obtain ⟨a, ha, hb⟩ := tile ss.length ss rfl (by omega) h (hld_sides.mp h1)
    exact List.any_eq_true.mpr ⟨a, ha, hb⟩
/-! lines that part -/
def linesOf (ss : List Pt) : List Pt := ss.flatMap fun s => [(s.2, -s.1), (-s.2, s.1), (s.1, s.2), (-s.1, -s.2)]
def reachI (ss : List Pt) (line : Pt) : Int := (ss.map fun t => max 0 (dt line t)).sum
theorem dt_line (l p : Pt) : dt l p = sp (l.2, -l.1) p := by unfold dt sp; simp only [Int.neg_mul]; omega
theorem reach_mx (ss : List Pt) (l : Pt) : reachI ss l = mx (l.2, -l.1) ss := by unfold reachI mx; simp only [dt_line]
theorem neg_max (f : Pt → Int) : ∀ l : List Pt, (l.map fun t => max 0 (- f t)).sum = - (l.map fun t => min 0 (f t)).sum
  | [] => rfl
  | t :: l => by simp only [List.map_cons, List.sum_cons, neg_max f l]; omega
theorem part_line {ss : List Pt} (h : SOk ss) {q : Pt} (hh : holdB ss q = false) : ∃ l ∈ linesOf ss, reachI ss l < dt l q := by
  have mem : ∀ s ∈ ss, ∀ l ∈ [(s.2, -s.1), (-s.2, s.1), (s.1, s.2), (-s.1, -s.2)], l ∈ linesOf ss := fun s hs l hl => List.mem_flatMap.mpr ⟨s, hs, hl⟩
  have d1 : ∀ s p : Pt, dt (s.2, -s.1) p = - sp s p := fun s p => by unfold dt sp; simp only [Int.neg_mul]; omega
  have d2 : ∀ s p : Pt, dt (-s.2, s.1) p = sp s p := fun s p => by unfold dt sp; simp only [Int.neg_mul]; omega
  have d4 : ∀ s p : Pt, dt (-s.1, -s.2) p = - dt s p := fun s p => by unfold dt; simp only [Int.neg_mul]; omega
  by_cases h1 : hld ss q = true
  · unfold holdB at hh
    rw [h1, Bool.true_and] at hh
    have hl : ss.length = 1 := by
      have := h.l1
      apply Classical.byContradiction
      intro hz
      rw [decide_eq_true (by omega)] at hh
      cases hh
    have e := one_of hl
    have hs : at0 ss 0 ∈ ss := List.mem_of_getElem? (at0_eq (by omega))
    have eh : ss.headD (0, 0) = at0 ss 0 := by rw [e]; rfl
    rw [eh, decide_eq_false (by omega), Bool.false_or] at hh
    have hD := std_dt (h.sd _ hs)
    have er : ∀ l, reachI ss l = max 0 (dt l (at0 ss 0)) := fun l => by conv => lhs; rw [e]
                                                                        simp [reachI]
    by_cases hn : 0 ≤ dt (at0 ss 0) q
    · rw [decide_eq_true hn, Bool.true_and] at hh
      have := of_decide_eq_false hh
      refine ⟨((at0 ss 0).1, (at0 ss 0).2), mem _ hs _ (by simp), ?_⟩
      rw [er]
      show max 0 (dt (at0 ss 0) (at0 ss 0)) < dt (at0 ss 0) q
      omega
    · refine ⟨(-(at0 ss 0).1, -(at0 ss 0).2), mem _ hs _ (by simp), ?_⟩
      rw [er, d4, d4]
      omega
  · have h1 : hld ss q = false := by simpa using h1
    obtain ⟨⟨p, k⟩, ha, hneg⟩ := hld_mem.mpr h1
    obtain ⟨hk, _⟩ := mem_zip ha
    simp only at hneg
    by_cases hkn : k < ss.length
    · have hs := at0_eq hkn
      rw [side_lo hs] at hneg
      obtain ⟨m1, _⟩ := h.minmax hs
      refine ⟨((at0 ss k).2, -(at0 ss k).1), mem _ (List.mem_of_getElem? hs) _ (by simp), ?_⟩
      unfold reachI
      simp only [d1]
      rw [neg_max, m1]
      omega
    · have hkk : k - ss.length < ss.length := by omega
      have hs := at0_eq hkk
      have e := side_hi hs q
      rw [show ss.length + (k - ss.length) = k by omega] at e
      rw [e] at hneg
      obtain ⟨_, m2⟩ := h.minmax hs
      refine ⟨(-(at0 ss (k - ss.length)).2, (at0 ss (k - ss.length)).1), mem _ (List.mem_of_getElem? hs) _ (by simp), ?_⟩
      unfold reachI
      simp only [d2]
      rw [m2]
      omega
theorem near_le {s t : Pt} (hs : near s = true) (ht : near t = true) : sp s t ≤ 800 ∧ dt s t ≤ 800 := by
  rw [near_iff] at hs ht
  have b : ∀ x y : Int, -20 ≤ x → x ≤ 20 → -20 ≤ y → y ≤ 20 → x * y ≤ 400 ∧ -400 ≤ x * y := fun x y a1 a2 a3 a4 => by
    have h1 : 0 ≤ (20 - x) * (20 + y) := Int.mul_nonneg (by omega) (by omega)
    have h2 : 0 ≤ (20 + x) * (20 - y) := Int.mul_nonneg (by omega) (by omega)
    have h3 : 0 ≤ (20 - x) * (20 - y) := Int.mul_nonneg (by omega) (by omega)
    have h4 : 0 ≤ (20 + x) * (20 + y) := Int.mul_nonneg (by omega) (by omega)
    grind
  have b1 := b s.1 t.2 (by omega) (by omega) (by omega) (by omega)
  have b2 := b s.2 t.1 (by omega) (by omega) (by omega) (by omega)
  have b3 := b s.1 t.1 (by omega) (by omega) (by omega) (by omega)
  have b4 := b s.2 t.2 (by omega) (by omega) (by omega) (by omega)
  unfold sp dt
  omega
end MD
namespace MD
open PySem PySem.Spec L2
def lowP (t b : Int) : Pt := ((t.toNat / Nat.gcd t.toNat b.toNat : Nat), (b.toNat / Nat.gcd t.toNat b.toNat : Nat))
def shl (ss : List Pt) (q : Pt) (i j : Nat) : List Pt := (((List.range ss.length).map fun k => if i < k ∧ k < j then ((1, 1) : Pt) else (0, 1)).set i (lowP (sp (sb q (foot ss i j)) (at0 ss j)) (sp (at0 ss i) (at0 ss j)))).set j (lowP (sp (at0 ss i) (sb q (foot ss i j))) (sp (at0 ss i) (at0 ss j)))
theorem slab_dec (ss : List Pt) (q : Pt) (i j : Nat) : slabAt ss q (i, j) = (decide (0 ≤ sp (sb q (foot ss i j)) (at0 ss j)) && decide (sp (sb q (foot ss i j)) (at0 ss j) ≤ sp (at0 ss i) (at0 ss j)) && (decide (0 ≤ sp (at0 ss i) (sb q (foot ss i j))) && decide (sp (at0 ss i) (sb q (foot ss i j)) ≤ sp (at0 ss i) (at0 ss j)))) := by
  unfold slabAt
  rw [Bool.eq_iff_iff]
  simp only [Bool.and_eq_true, decide_eq_true_eq]
  exact ⟨fun h => ⟨⟨h.f0, h.f1⟩, h.s0, h.s1⟩, fun h => ⟨h.1.1, h.1.2, h.2.1, h.2.2⟩⟩
theorem mIf_t {c : MT} {a b : ME} {E : Ev} (h : c E = some true) : mIf c a b E = a E := by unfold mIf; rw [h]; rfl
theorem mIf_f {c : MT} {a b : ME} {E : Ev} (h : c E = some false) : mIf c a b E = b E := by unfold mIf; rw [h]; rfl
theorem mChain_t {g g' : G2} {ma mb mc : ME} {E : Ev} {x y w : R} {k : Bool} (h1 : ma E = some x) (h2 : mb E = some y) (h3 : mc E = some w) (hg : g x y = some (.c (.bool true))) (hg' : g' y w = some (.c (.bool k))) : mChain g g' ma mb mc E = some (.c (.bool k)) := by
  unfold mChain
  rw [h1]
  show (mb E).bind _ = _
  rw [h2]
  show (g x y).bind _ = _
  rw [hg]
  show (mc E).bind _ = _
  rw [h3]
  exact hg'
theorem mChain_f {g g' : G2} {ma mb mc : ME} {E : Ev} {x y : R} (h1 : ma E = some x) (h2 : mb E = some y) (hg : g x y = some (.c (.bool false))) : mChain g g' ma mb mc E = some (.c (.bool false)) := by
  unfold mChain
  rw [h1]
  show (mb E).bind _ = _
  rw [h2]
  show (g x y).bind _ = _
  rw [hg]
  rfl
theorem mAsgO_o {i : Nat} {m : ME} {E : Ev} {l : List D} (h : m E = some (.o l)) : mAsgO i m E = some (.nx (E.set i (some (.t (Tr.fl l))))) := by
  unfold mAsgO
  rw [h]
  rfl
end MD
namespace MD
open PySem PySem.Spec L2
theorem lines_len : ∀ ss : List Pt, (linesOf ss).length = 4 * ss.length
  | [] => rfl
  | s :: ss => by
    show ([(s.2, -s.1), (-s.2, s.1), (s.1, s.2), (-s.1, -s.2)] ++ linesOf ss).length = _
    rw [List.length_append, lines_len ss]
    simp
    omega
theorem lines_snoc (ss : List Pt) (s : Pt) : linesOf (ss ++ [s]) = linesOf ss ++ [(s.2, -s.1), (-s.2, s.1), (s.1, s.2), (-s.1, -s.2)] := by unfold linesOf; simp
theorem line_sm {ss : List Pt} (h : SOk ss) {l : Pt} (hl : l ∈ linesOf ss) : Sm l := by
  obtain ⟨s, hs, hl⟩ := List.mem_flatMap.mp hl
  have := near_iff.mp (h.nr s hs)
  unfold Sm
  simp only [List.mem_cons, List.not_mem_nil, or_false] at hl
  rcases hl with rfl | rfl | rfl | rfl <;> (simp only; omega)
theorem ix_o0 (d : D) (l : List D) : gIx (.o (d :: l)) (.c (.int 0)) = some (.c d) := by
  unfold gIx
  rw [Rd_o, Rd_c]
  show (atI (d :: l) 0).map (R.mk' (R.o (d :: l)).cl) = _
  rw [atI_0]
  rfl
theorem mCall2 {g : List D → Option R} {m m' : ME} {E : Ev} {x y r' : R} {d d' : D} (h : m E = some x) (h' : m' E = some y) (hp : x.pro = some d) (hp' : y.pro = some d') (hg : g [d, d'] = some r') : mCall 2 g (mCons m (mCons m' mNil)) E = some r'.up := by
  unfold mCall mCons mNil
  rw [h]
  show ((((m' E).bind fun x => some [x]).bind fun xs => some (x :: xs)).bind _) = _
  rw [h']
  show (if [x, y].length = 2 then (match pros [x, y] with | some ds => (g ds).map R.up | none => (g ([x, y].map R.d)).map R.taint) else none) = _
  have e : pros [x, y] = some [d, d'] := by rw [pros_cons, pros_cons, hp, hp']; rfl
  rw [e]
  show (g [d, d']).map R.up = _
  rw [hg]
  rfl
theorem up_pro {d d' : D} (h : (R.u d).pro = some d') : (R.u d).up.pro = some d' := by
  rw [Rpro_u] at h
  split at h
  · cases h; rfl
  · cases h
theorem mSeq_rt {s t : MS} {E : Ev} {r : R} (h : s E = some (.rt r)) : mSeq s t E = some (.rt r) := by unfold mSeq; rw [h]; rfl
end MD

namespace MD
open PySem PySem.Spec L2
section
variable {X : Cx} {K : PySem.W.Frag} {e a b o : Expr} {m ma mb : ME} {n : MA} {pos p p2 apos : Pos} {es : List Expr} {ff : Bool}
/-! ### is None -/
def rIsN (neg : Bool) : R2 := fun x y H Q => ∃ k : Bool, y = .non ∧ ((x = .non ∧ k = true) ∨ (x ≠ .non ∧ k = false)) ∧ Q (.bl (neg != k)) H
theorem rel_nn {x : V} {v : Value} (r : RelV x v) (h : x ≠ .non) : (v == .none) = false := by
  cases x with
  | non => exact absurd rfl h
  | bl k => cases r; rfl
  | int i => obtain ⟨t, rfl⟩ := r; rfl
  | str i => obtain ⟨t, rfl⟩ := r; rfl
  | ref i => cases r; rfl
  | _ => first | (obtain ⟨t, rfl⟩ := r; rfl) | (cases r; rfl)
theorem op_isN : OpR X (compareOp .Is) (rIsN false) := by
  intro pins s σ H x y v u Q I rx ry h
  obtain ⟨k, rfl, h, q⟩ := h
  cases ry
  refine PyProof.Rows.is_none_gen ⟨.bl k, H, I, ?_, by simpa using q⟩
  rcases h with ⟨rfl, rfl⟩ | ⟨h, rfl⟩
  · cases rx; rfl
  · rw [rel_nn rx h]; rfl
theorem op_isnotN : OpR X (compareOp .IsNot) (rIsN true) := by
  intro pins s σ H x y v u Q I rx ry h
  obtain ⟨k, rfl, h, q⟩ := h
  cases ry
  refine PyProof.Rows.isnot_none_gen ⟨.bl (true != k), H, I, ?_, q⟩
  rcases h with ⟨rfl, rfl⟩ | ⟨h, rfl⟩
  · cases rx; rfl
  · rw [rel_nn rx h]; rfl
def isN : D → Bool
  | .none => true
  | _ => false
def gIsN (neg : Bool) : G2 := fun x y => match y.d with
  | .none => some (.c (.bool (neg != isN x.d)))
  | _ => none
theorem s_isN {neg : Bool} : SOp K (rIsN neg) (gIsN neg) := by
  intro x y ra rb rc H W Q hW hx hy hg k
  unfold gIsN at hg
  split at hg
  · rename_i ej
    cases hg
    have h1 := hx.dp
    have h2 := hy.dp
    rw [ej] at h2
    refine ⟨isN ra.d, by cases h2; rfl, ?_, k _ H (Same.refl H) (Dp.bl _) trivial⟩
    generalize ra.d = d at h1
    cases d with
    | none => cases h1; exact .inl ⟨rfl, rfl⟩
    | _ => refine .inr ⟨?_, rfl⟩; intro z; subst z; cases h1
  · cases hg
/-! ### shifts -/
def gShr : G2 := gIc (fun _ j => decide (0 ≤ j)) fun i j => .int (i / 2 ^ j.toNat)
/-! ### max, min of a list -/
def isMax (ns : List Int) (m : Int) : Prop := m ∈ ns ∧ ∀ x ∈ ns, x ≤ m
def maxL : List Int → Int
  | [] => 0
  | [x] => x
  | x :: y :: l => if x ≤ maxL (y :: l) then maxL (y :: l) else x
theorem maxL_is : ∀ {l : List Int}, l ≠ [] → isMax l (maxL l)
  | [], h => absurd rfl h
  | [x], _ => ⟨List.mem_cons_self, fun y hy => by rw [List.mem_singleton.mp hy]; exact Int.le_refl _⟩
  | x :: y :: l, _ => by
    obtain ⟨h1, h2⟩ := maxL_is (l := y :: l) (by simp)
    unfold maxL
    split
    · refine ⟨List.mem_cons_of_mem _ h1, fun z hz => ?_⟩
      rcases List.mem_cons.mp hz with q | q
      · subst q; assumption
      · exact h2 z q
    · refine ⟨List.mem_cons_self, fun z hz => ?_⟩
      rcases List.mem_cons.mp hz with q | q
      · subst q; exact Int.le_refl _
      · have := h2 z q; omega
def gMaxL : GL := fun rs => match rs with
  | [x] => (match x.d with | .list l => (ints? l).bind fun ns => if ns ≠ [] then some (.c (.int (maxL ns))) else none | _ => none)
  | _ => none
theorem s_maxL : SCl K (rMax K) gMaxL := by
  intro xs rs rc H W Q hW hx hg k
  unfold gMaxL at hg
  split at hg
  · rename_i x
    cases hx with
    | cons h t =>
      cases t
      have q := h.dp
      split at hg
      · rename_i l el
        obtain ⟨ns, e, hg⟩ := bindSome hg
        split at hg
        · rename_i hne
          cases hg
          rw [el] at q
          obtain ⟨a, ys, rfl, h1, h2⟩ := Dp_list q
          rw [ints?_eq e] at h2
          rw [DpAll_ints h2] at h1
          refine ⟨a, ns, rfl, h1, by cases ns with | nil => exact absurd rfl hne | cons _ _ => simp, fun m g1 g2 => ?_⟩
          obtain ⟨i1, i2⟩ := maxL_is hne
          have : m = maxL ns := Int.le_antisymm (i2 m g1) (g2 _ i1)
          subst this
          exact k _ H (Same.refl H) (Dp.int _) trivial
        · cases hg
      · cases hg
  · cases hg
/-! ### xs.extend(ys), ys new -/
theorem lks_leaf {H : Hp} {M : Msk} : ∀ {vs : List V} {ds : List D}, DpAll K (hid M H) vs ds → Lks K H M vs [] (ds.map .leaf)
  | [], _, h => by cases h; exact .nil
  | v :: vs, _, h => by
    cases h with
    | cons h1 h2 => exact Lks.cons (as := []) (.leaf h1) (lks_leaf h2)
def mExt (i : Nat) (n : MA) : MS := fun E => match E[i]? with
  | some (some (.t (.lst l))) => (n E).bind fun rs => (match rs with | [.t (.lst l')] => if l.length + (Tr.ds l').length ≤ lim then some (.nx (E.set i (some (.t (.lst (l ++ (Tr.ds l').map .leaf)))))) else none | _ => none)
  | _ => none
theorem ext_of {i : Nat} : ∀ D σ H, sM K false (mExt i n) D σ H → tDrop (tBM K "list" rExtend (tVar i) (tMA K n)) D σ H := fun D σ H ⟨E, W, o, hH, hm, k⟩ => by
  unfold mExt at hm
  split at hm
  · rename_i l el
    obtain ⟨rs, e1, hm⟩ := bindSome hm
    split at hm
    · rename_i l'
      split at hm
      · rename_i hl
        cases hm
        obtain ⟨a, vs, as, h1, h2, h3, h4, h5⟩ := hH.ownl el
        refine ⟨.ref a, h1, .inl ⟨rfl, vs, SqL.of h2⟩, E, W, _, hH, e1, fun xs H1 s1 r1 => ?_⟩
        have hH1 := hH.grow s1
        cases r1 with
        | cons r t =>
          cases t
          obtain ⟨hd, bs, lk, nd, fr⟩ := r
          cases lk with
          | lst g1 g2 =>
            rename_i b zs bs'
            have dz : DpAll K (hid W.w H1) zs (Tr.ds l') := lks_dp hd (fun a ha => adms_le a ha) l' _ _ (fun a ha => fr a (List.mem_cons_of_mem _ ha)) g2
            have hlen : vs.length = l.length := lks_len h3
            have hlen2 : zs.length = (Tr.ds l').length := DpAll_len dz
            refine ⟨a, b, vs, zs, rfl, rfl, s1 _ _ h2, g1, Nat.le_trans (by rw [hlen, hlen2]; exact hl) lim_line, ?_⟩
            have h3' := lks_mono s1 (hid_same s1) l vs as h3
            have lk := lks_app h3' (lks_leaf dz)
            rw [List.append_nil] at lk
            obtain ⟨g1', g2'⟩ := hH1.updo el h1 (s1 _ _ h2) h3' lk (List.nodup_cons.mp h4).2 fun _ z => z
            exact k _ _ W.o g1' ((Fr.of s1).trans g2')
      · cases hm
    · cases hm
  · cases hm
theorem m_extend {i : Nat} {o : Expr} {apos cpos : Pos} {es : List Expr} (ho : PE X o (tVar i)) (ha : PA X (e :: es) (tMA X.K n)) (hbase : attributeBase o "extend" X.env (eval o X.env) = eval o X.env := by rfl)
    (hfew : ((backTo cpos (starEach (e :: es) X.env)).all (fun x => !x.1) && (backToKw cpos (keywordEach [] X.env)).all (fun x => x.1.isSome)
      && decide ((e :: es).length + ([] : List Keyword).length + (if ([] : List Keyword).isEmpty then 0 else 1) < 30)) = true := by rfl)
    (hline : (apos.endLine == cpos.line) = true := by rfl) (hs : starEach (e :: es) X.env = (false, eval e X.env) :: starEach es X.env := by rfl) (hplain : (backTo cpos (starEach es X.env)).any (·.1) = false := by rfl)
    (hsw : swapsWith (.Call (.Attribute o "extend" apos) (e :: es) [] cpos) none pos.line X.env = pure false := by rfl) : PS X (.Expr (.Call (.Attribute o "extend" apos) (e :: es) [] cpos) pos) (sM X.K false (mExt i n)) :=
  ps_imp (ps_expr (pe_bm PySem.F.plainAttrs_list PySem.F.slot_list_extend PySem.F.type_list_extend mt_extend ho ha hbase hfew hline hs hplain) hsw) ext_of
/-! ### xs[::k], k above 0 -/
def stepIx (k : Int) (n : Nat) : List Nat := sliceRange (sliceBounds none none (some k) n).1 (sliceBounds none none (some k) n).2.1 (sliceBounds none none (some k) n).2.2
def stepL {α : Type} (k : Int) (l : List α) : List α := (stepIx k l.length).filterMap (l[·]?)
def tStep (K : PySem.W.Frag) (te ts : TE) : TE := fun σ H Q => te σ H fun x H1 => ts σ H1 fun y H2 => ∃ a xs k, x = .ref a ∧ y = .int k ∧ 0 < k ∧ SqL K H2 a xs ∧ ∀ p, H2 p = none → Q (.ref p) (upd H2 p (.lst (stepL k xs)))
def mStep (m ms : ME) : ME := fun E => (m E).bind fun x => (ms E).bind fun y => match x.d, y.d with
  | .list l, .int k => if (x.cl || flats l) = true ∧ 0 < k then some (.o (stepL k l)) else none
  | _, _ => none
/-! ### a module's tuple of numbers -/
theorem m_gtup {x : Str} {ns : List Int} (h : ∃ t o its n, X.mg x = some (.ref t) ∧ X.K.lookup t = some o ∧ o.cls = .type "tuple" ∧ o.data = .seq its n ∧ its.size ≤ sizeLine ∧ Vals (ns.map V.int) its.toList) (hg : Gl X x := by rfl) (hd : (x == ("__debug__" : Str)) = false := by decide) : PE X (.Name x pos) (tM X.K (mC (.tuple (ns.map .int)))) := by
  obtain ⟨t, o, its, n, h1, h3, h4, h5, h6, h7⟩ := h
  exact m_c (pe_glob (v := .ref t) hg h1 rfl hd) fun H => Dp.tup (.inr ⟨o, its, n, h3, h4, h5, h6, h7⟩) (DpAll_ofInts ns)
end
end MD

namespace MD
open PySem PySem.Spec L2
section
variable {K : PySem.W.Frag} {H H' : Hp} {x : Addr}
/-! ### data without objects does not see an object's change -/
theorem sqL_but (hx : ∃ C dx fs, H x = some (.ins C dx fs)) (k : ∀ b o, b ≠ x → H b = some o → H' b = some o) {a : Addr} {xs : List V} (h : SqL K H a xs) : SqL K H' a xs := by
  obtain ⟨C, dx, fs, hx⟩ := hx
  rcases h with (h | ⟨o, h⟩) | h
  · exact .inl (.inl (k _ _ (fun z => by rw [z, hx] at h; cases h) h))
  · exact .inl (.inr ⟨o, k _ _ (fun z => by rw [z, hx] at h; cases h) h⟩)
  · exact .inr h
theorem sqT_but (hx : ∃ C dx fs, H x = some (.ins C dx fs)) (k : ∀ b o, b ≠ x → H b = some o → H' b = some o) {a : Addr} {xs : List V} (h : SqT K H a xs) : SqT K H' a xs := by
  obtain ⟨C, dx, fs, hx⟩ := hx
  rcases h with (h | ⟨o, h⟩) | h
  · exact .inl (.inl (k _ _ (fun z => by rw [z, hx] at h; cases h) h))
  · exact .inl (.inr ⟨o, k _ _ (fun z => by rw [z, hx] at h; cases h) h⟩)
  · exact .inr h
mutual
theorem dp_but (hx : ∃ C dx fs, H x = some (.ins C dx fs)) (k : ∀ b o, b ≠ x → H b = some o → H' b = some o) : ∀ (d : D) (v : V), d.pure = true → Dp K H v d → Dp K H' v d
  | .none, _, _, h => by cases h; exact .non
  | .bool b, _, _, h => by cases h; exact .bl b
  | .int i, _, _, h => by cases h; exact .int i
  | .str s, _, _, h => by cases h; exact .str s
  | .list ds, _, f, h => by
    cases h with
    | lst hs ha => exact .lst (sqL_but hx k hs) (dpa_but hx k ds _ (by simpa [D.pure] using f) ha)
  | .tuple ds, _, f, h => by
    cases h with
    | tup hs ha => exact .tup (sqT_but hx k hs) (dpa_but hx k ds _ (by simpa [D.pure] using f) ha)
  | .obj C ns ds, _, f, h => by simp [D.pure] at f
theorem dpa_but (hx : ∃ C dx fs, H x = some (.ins C dx fs)) (k : ∀ b o, b ≠ x → H b = some o → H' b = some o) : ∀ (ds : List D) (vs : List V), D.pures ds = true → DpAll K H vs ds → DpAll K H' vs ds
  | [], _, _, h => by cases h; exact .nil
  | d :: ds, _, f, h => by
    simp [D.pures] at f
    cases h with
    | cons h1 h2 => exact .cons (dp_but hx k d _ f.1 h1) (dpa_but hx k ds _ f.2 h2)
end
mutual
def Tr.pure : Tr → Bool
  | .leaf d => d.pure
  | .lst l => Tr.pures l
  | .tup l => Tr.pures l
  | .obj _ _ _ => false
def Tr.pures : List Tr → Bool
  | [] => true
  | t :: ts => t.pure && Tr.pures ts
end
theorem hid_but {M : Msk} (hm : M x = false) (hx : ∃ C dx fs, H x = some (.ins C dx fs)) (k : ∀ b o, b ≠ x → H b = some o → H' b = some o) : (∃ C dx fs, hid M H x = some (.ins C dx fs)) ∧ ∀ b o, b ≠ x → hid M H b = some o → hid M H' b = some o := by
  obtain ⟨C, dx, fs, hx⟩ := hx
  exact ⟨⟨C, dx, fs, hid_eq.mpr ⟨hm, hx⟩⟩, fun b o hb e => by rw [hid_eq] at e ⊢; exact ⟨e.1, k b o hb e.2⟩⟩
mutual
theorem lk_but {M : Msk} (hm : M x = false) (hx : ∃ C dx fs, H x = some (.ins C dx fs)) (k : ∀ b o, b ≠ x → H b = some o → H' b = some o) : ∀ (T : Tr) (v : V) (as : List Addr), T.pure = true → Lk K H M v as T → Lk K H' M v as T
  | .leaf d, _, _, f, h => by
    cases h with
    | leaf h =>
      obtain ⟨h1, h2⟩ := hid_but hm hx k
      exact .leaf (dp_but h1 h2 d _ (by simpa [Tr.pure] using f) h)
  | .lst l, _, _, f, h => by
    cases h with
    | lst h1 h2 =>
      refine .lst (k _ _ (fun z => ?_) h1) (lks_but hm hx k l _ _ (by simpa [Tr.pure] using f) h2)
      obtain ⟨C, dx, fs, hx⟩ := hx
      rw [z, hx] at h1
      cases h1
  | .tup l, _, _, f, h => by
    cases h with
    | tup h1 h2 =>
      refine .tup (k _ _ (fun z => ?_) h1) (lks_but hm hx k l _ _ (by simpa [Tr.pure] using f) h2)
      obtain ⟨C, dx, fs, hx⟩ := hx
      rw [z, hx] at h1
      cases h1
  | .obj C ns l, _, _, f, h => by simp [Tr.pure] at f
theorem lks_but {M : Msk} (hm : M x = false) (hx : ∃ C dx fs, H x = some (.ins C dx fs)) (k : ∀ b o, b ≠ x → H b = some o → H' b = some o) : ∀ (l : List Tr) (vs : List V) (as : List Addr), Tr.pures l = true → Lks K H M vs as l → Lks K H' M vs as l
  | [], _, _, _, h => by cases h; exact .nil
  | t :: ts, _, _, f, h => by
    simp [Tr.pures] at f
    cases h with
    | cons h1 h2 => exact .cons (lk_but hm hx k t _ _ f.1 h1) (lks_but hm hx k ts _ _ f.2 h2)
end
end
/-! ### __init__ that lays one field -/
def trOf : R → Tr
  | .c d => .leaf d
  | .u d => .leaf d
  | .t T => T
def gInit (C : Addr) (N : List Str) (m : ME) : List D → Option (List Tr) := fun ds => (m (startE N (.obj C [] [] :: ds))).bind fun r => if (trOf r).pure = true then some [trOf r] else none
theorem fn_init {P : Program} {w : World} {K : PySem.W.Frag} {mg : Str → Option Value} {base : Heap} {x qual fname : Str} {st : Stmt} {f C : Addr} {fd : FuncData} {N ps : List Str} {k n0 : Nat} {m : ME} (F : Fun K x qual st f fd) (S : FnScope N ps (defScope st)) (hn : n0 + 1 = ps.length) (c : Cls K C) (na : NoAttr K C fname)
    (hbody : ∀ (cdv : Value) (A : Around) (outer : List Env) (s : Shared) (H : Hp) (E : XK), Room k (A.deeper (PyProof.Rows.envOfC qual (defScope st) s.heap.objs.size f cdv)) →
      PSs (cxOf CX0 P w K mg base N qual (defScope st) f cdv A outer s H E).nox (defBody st) (sFld K (tVar 0) (tM K m) fname)) : FnOk P w K mg base CX0 (k + 1) f fd ps (spInit K C n0 [fname] (gInit C N m)) := by
  refine F.ok S (fun vs H Q E h => by rw [← hn]; exact h.1) (fun cdv A outer s H vs Q E hr h => ?_)
  obtain ⟨hl, x, dx, avs, rfl, hx, Z, ds, Ts, hZ, hd, hgs, q⟩ := h
  have hZx : Z x = false := by
    cases z : Z x with
    | false => rfl
    | true => obtain ⟨ys, e⟩ := hZ x z; rw [hx] at e; cases e
  refine ⟨_, hbody cdv A outer s H E hr, ?_⟩
  obtain ⟨r, er, hgs⟩ := bindSome hgs
  split at hgs
  rotate_left
  · cases hgs
  rename_i hp
  cases hgs
  refine ⟨startE N (.obj C [] [] :: ds), ⟨Z, noM⟩, r, held_start hZ (.cons (Dp.obj (fs := []) (hid_eq.mpr ⟨hZx, hx⟩) .nil) hd), er, fun y H1 s1 r1 f1 => ?_⟩
  refine ⟨.ref x, rfl, x, C, dx, [], rfl, s1 _ _ hx, c, na, by decide, ?_⟩
  have hx1 : ∃ C dx fs, H1 x = some (.ins C dx fs) := ⟨C, dx, [], s1 _ _ hx⟩
  have kk : ∀ b o, b ≠ x → H1 b = some o → (upd H1 x (.ins C dx (putF fname y []))) b = some o := fun b o hb e => by rw [upd_ne hb]; exact e
  have kept : ∀ b o, H b = some o → b ≠ x → (upd H1 x (.ins C dx (putF fname y []))) b = some o := fun b o e hb => kk b o hb (s1 _ _ e)
  cases r with
  | c d =>
    have r1 : Dp K (hid (WM.mk Z noM).w H1) y d := r1
    rw [WM.w0] at r1
    refine q _ [(fname, y)] [] kept upd_same rfl (Lks.cons (as := []) (.leaf ?_) .nil) List.nodup_nil (fun a ha => by cases ha)
    obtain ⟨h1, h2⟩ := hid_but (M := Z) hZx hx1 kk
    have e0 : adms [] Z = Z := by funext a; simp [adms]
    rw [e0]
    exact dp_but h1 h2 d _ (by simpa [trOf, Tr.pure] using hp) r1
  | u d =>
    have r1 : Dp K (hid Z H1) y d := r1
    refine q _ [(fname, y)] [] kept upd_same rfl (Lks.cons (as := []) (.leaf ?_) .nil) List.nodup_nil (fun a ha => by cases ha)
    obtain ⟨h1, h2⟩ := hid_but (M := Z) hZx hx1 kk
    have e0 : adms [] Z = Z := by funext a; simp [adms]
    rw [e0]
    exact dp_but h1 h2 d _ (by simpa [trOf, Tr.pure] using hp) r1
  | t T =>
    obtain ⟨hd1, as, lk, nd, fr⟩ := r1
    rw [WM.w0] at lk
    have fa : ∀ a ∈ as, H a = none := fun a ha => f1 K _ as lk a ha
    have hm : adms as Z x = false := by
      cases z : adms as Z x with
      | false => rfl
      | true =>
        rcases adms_mem z with e | e
        · rw [hZx] at e; cases e
        · rw [fa x e] at hx; cases hx
    have lks : Lks K (upd H1 x (.ins C dx (putF fname y []))) (adms as Z) [y] (as ++ []) [T] := Lks.cons (lk_but hm hx1 kk T _ _ hp lk) .nil
    rw [List.append_nil] at lks
    exact q _ [(fname, y)] as kept upd_same rfl lks nd fa
/-! ### classes of the text, and what they promise -/
structure FunI (K : PySem.W.Frag) (C : Addr) (qual : Str) (st : Stmt) (ps : List Str) : Prop where
  ex : ∃ f fd, Fun K "__init__" qual st f fd ∧ Mk K C f ∧ Binds K fd ps []
structure FunM (K : PySem.W.Frag) (C : Addr) (mn qual : Str) (st : Stmt) (ps : List Str) : Prop where
  ex : ∃ f fd, Fun K mn qual st f fd ∧ Meth K C mn f ∧ Binds K fd ps []
structure Ini (P : Program) (w : World) (K : PySem.W.Frag) (mg : Str → Option Value) (base : Heap) (C : Addr) (k : Nat) (n0 : Nat) (ns : List Str) (g : List D → Option (List Tr)) : Prop where
  ex : ∃ f fd ps, Mk K C f ∧ FnOk P w K mg base CX0 k f fd ps (spInit K C n0 ns g) ∧ Binds K fd ps []
structure Mth (P : Program) (w : World) (K : PySem.W.Frag) (mg : Str → Option Value) (base : Heap) (C : Addr) (mn : Str) (k : Nat) (n0 : Nat) (g : List D → Option R) : Prop where
  ex : ∃ f fd ps, Meth K C mn f ∧ FnOk P w K mg base CX0 k f fd ps (spD K n0 g) ∧ Binds K fd ps []
section
variable {X : Cx} {e o : Expr} {m : ME} {n : MA} {es : List Expr} {pos p p2 apos : Pos}
theorem m_makeC {x : Str} {C : Addr} {k n0 : Nat} {ns : List Str} {g : List D → Option (List Tr)} (I : Ini X.prog X.w X.K X.mg X.base C k n0 ns g) (hr : Room (k + 1) X.A) (hm : X.mg x = some (.ref C))
    (ha : PA X (e :: es) (tMA X.K n)) (hg : Gl X x := by rfl) (hdb : (x == ("__debug__" : Str)) = false := by decide) (he : starEach (e :: es) X.env = (false, eval e X.env) :: starEach es X.env := by rfl) (hpl : (backTo pos (starEach es X.env)).any (·.1) = false := by rfl) :
    PE X (.Call (.Name x p) (e :: es) [] pos) (tM X.K (mMake C n0 ns g n)) := by
  obtain ⟨f, fd, ps, h1, h2, h3⟩ := I.ex
  exact m_make h1 h2 hr hm h3 ha hg hdb he hpl
theorem m_methC {C : Addr} {mn : Str} {k n0 : Nat} {g : List D → Option R} {pl : Sem Bool} (M : Mth X.prog X.w X.K X.mg X.base C mn k n0 g) (he : PE X o (tM X.K m)) (c : Cls X.K C) (hr : Room k X.A) (ha : PA X (e :: es) (tMA X.K n))
    (hst : starEach (e :: es) X.env = (false, eval e X.env) :: starEach es X.env := by rfl) (hpl : (backTo pos (starEach es X.env)).any (·.1) = false := by rfl)
    (ht : eval (.Call (.Attribute o mn apos) (e :: es) [] pos) X.env = (do
      let ov ← eval o X.env
      standAt apos.atName
      let (f, first) ← holding [ov] (getMethod ov mn pl)
      callWith pos f first (backTo pos (starEach (e :: es) X.env)) (backToKw pos (keywordEach [] X.env))) := by rfl) :
    PE X (.Call (.Attribute o mn apos) (e :: es) [] pos) (tM X.K (mMeth C mn n0 g m n)) := by
  obtain ⟨f, fd, ps, h1, h2, h3⟩ := M.ex
  exact m_meth he c h1 h2 hr h3 ha hst hpl ht
theorem m_fld1 {C : Addr} {f : Str} (c : Cls X.K C) (na : NoAttr X.K C f) (he : PE X e (tM X.K m)) (hb : attributeBase e f X.env (eval e X.env) = eval e X.env := by rfl) : PE X (.Attribute e f pos) (tM X.K (mUn (gFld [C] f) m)) :=
  m_fld [C] (fun C' h => by cases List.mem_singleton.mp h; exact ⟨c, na⟩) he hb
end
theorem ini_ex {P : Program} {w : World} {K : PySem.W.Frag} {mg : Str → Option Value} {base : Heap} {C : Addr} {qual fname : Str} {st : Stmt} {N ps : List Str} {k n0 : Nat} {m : ME} {Spec : (List D → Option (List Tr)) → Prop} (F : FunI K C qual st ps) (S : FnScope N ps (defScope st)) (hn : n0 + 1 = ps.length) (c : Cls K C) (na : NoAttr K C fname)
    (hbody : ∀ (f : Addr) (cdv : Value) (A : Around) (outer : List Env) (s : Shared) (H : Hp) (E : XK), Room k (A.deeper (PyProof.Rows.envOfC qual (defScope st) s.heap.objs.size f cdv)) →
      PSs (cxOf CX0 P w K mg base N qual (defScope st) f cdv A outer s H E).nox (defBody st) (sFld K (tVar 0) (tM K m) fname))
    (hs : Spec (gInit C N m)) : ∃ g, Ini P w K mg base C (k + 1) n0 [fname] g ∧ Spec g := by
  obtain ⟨f, fd, h1, h2, h3⟩ := F.ex
  exact ⟨_, ⟨f, fd, ps, h2, fn_init h1 S hn c na (hbody f), h3⟩, hs⟩
theorem mth_ex {P : Program} {w : World} {K : PySem.W.Frag} {mg : Str → Option Value} {base : Heap} {C : Addr} {mn qual : Str} {st : Stmt} {N ps : List Str} {k : Nat} {m : MS} {Spec : (List D → Option R) → Prop} (F : FunM K C mn qual st ps) (S : FnScope N ps (defScope st))
    (hbody : ∀ (f : Addr) (cdv : Value) (A : Around) (outer : List Env) (s : Shared) (H : Hp) (E : XK), Room k (A.deeper (PyProof.Rows.envOfC qual (defScope st) s.heap.objs.size f cdv)) →
      PSs (cxOf CX0 P w K mg base N qual (defScope st) f cdv A outer s H E).nox (defBody st) (sM K false m))
    (hs : Spec (runD m N)) : ∃ g, Mth P w K mg base C mn (k + 1) ps.length g ∧ Spec g := by
  obtain ⟨f, fd, h1, h2, h3⟩ := F.ex
  exact ⟨_, ⟨f, fd, ps, h2, fn_D h1 S rfl (hbody f) (fun ds r h _ => runD_ok ds r h), h3⟩, hs⟩
end MD
namespace MD
theorem clsI_nil {K : PySem.W.Frag} : ∀ C0 ∈ ([] : List PySem.Addr), ClsI K C0 := fun _ h => by cases h
theorem clsI_cons {K : PySem.W.Frag} {C : PySem.Addr} {l : List PySem.Addr} (h : ClsI K C) (t : ∀ C0 ∈ l, ClsI K C0) : ∀ C0 ∈ C :: l, ClsI K C0 := fun C0 hc => by
  rcases List.mem_cons.mp hc with e | e
  · rw [e]; exact h
  · exact t C0 e
end MD
namespace MD
open PySem PySem.Spec L2
theorem m_isiK {X : Cx} {K : PySem.W.Frag} {e : Expr} {m : ME} {pos p p2 : Pos} {Cs : List Addr} {C : Addr} {y : Str} (hC : ∀ C0 ∈ Cs, ClsI K C0) (hm : X.mg "isinstance" = none) (hy : X.mg y = some (.ref C)) (he : PE X e (tM X.K m)) (hK : X.K = K := by rfl) (hg : Gl X "isinstance" := by rfl) (hgy : Gl X y := by rfl) (hd : (y == ("__debug__" : Str)) = false := by decide)
    (h1 : starEach [e, .Name y p2] X.env = (false, eval e X.env) :: starEach [.Name y p2] X.env := by rfl) (h2 : (backTo pos (starEach [.Name y p2] X.env)).any (·.1) = false := by rfl)
    (h3 : starEach [.Name y p2] X.env = (false, eval (.Name y p2) X.env) :: starEach [] X.env := by rfl) :
    PE X (.Call (.Name "isinstance" p) [e, .Name y p2] [] pos) (tM X.K (mUn (gIsiO K Cs C) m)) := by
  subst hK
  exact m_isiO Cs hC hm hy he hg hgy hd h1 h2 h3
end MD
namespace MD
theorem fl_pure : ∀ {l : List D}, D.pures l = true → (Tr.fl l).pure = true := by
  intro l h
  unfold Tr.fl
  rw [Tr.pure]
  induction l with
  | nil => simp [Tr.pures]
  | cons d l ih =>
    simp [D.pures] at h
    simp [Tr.pures, Tr.pure, h.1]
    exact ih h.2
end MD
namespace MD
theorem mWhile_ex {c : MT} {b : MS} {E : Ev} {Q : Ev → Prop} (Pv : Ev → Prop) (μ : Ev → Nat) (h0 : Pv E) (step : ∀ E, Pv E → c E = some false ∨ (c E = some true ∧ ∃ E', b E = some (.nx E') ∧ Pv E' ∧ μ E' < μ E)) (fin : ∀ E', Pv E' → c E' = some false → Q E') : ∃ E', mWhile c b E = some (.nx E') ∧ Q E' := by
  obtain ⟨E', h1, h2, h3⟩ := mWhile_ind Pv μ step E h0
  exact ⟨E', h1, fin E' h2 h3⟩
end MD
namespace MD
open PySem PySem.Spec L2
theorem ds_leaf : ∀ l : List D, Tr.ds (l.map .leaf) = l
  | [] => by simp [Tr.ds]
  | d :: l => by simp [Tr.ds, Tr.d, ds_leaf l]
theorem mExt_fl {i : Nat} {n : MA} {E : Ev} {l l' : List D} (h : E[i]? = some (some (.t (Tr.fl l)))) (hn : n E = some [.o l']) (hl : l.length + l'.length ≤ lim) : mExt i n E = some (.nx (E.set i (some (.t (Tr.fl (l ++ l')))))) := by
  unfold mExt
  rw [h]
  show (n E).bind _ = _
  rw [hn]
  show (if (l.map Tr.leaf).length + (Tr.ds (l'.map .leaf)).length ≤ lim then some (Out.nx (E.set i (some (.t (.lst (l.map .leaf ++ (Tr.ds (l'.map .leaf)).map .leaf)))))) else none) = _
  rw [ds_leaf, List.length_map, if_pos hl]
  unfold Tr.fl
  rw [List.map_append]
theorem cut_both (l : List D) (a b : Nat) (h1 : a ≤ b) (h2 : b ≤ l.length) : cutD l (some (a : Int)) (some (b : Int)) = (l.take b).drop a := by
  unfold cutD
  rw [HT.sIx_nat, HT.sIx_nat, Nat.min_eq_left h2, Nat.min_eq_left (Nat.le_trans h1 h2), List.drop_take]
theorem mMake1 {C : Addr} {ns : List Str} {g : List D → Option (List Tr)} {m : ME} {E : Ev} {r : R} {d : D} {Ts : List Tr} (h : m E = some r) (hp : r.pro = some d) (hg : g [d] = some Ts) : mMake C 1 ns g (mCons m mNil) E = some (.t (.obj C ns Ts)) := by
  unfold mMake mCons mNil
  rw [h]
  show (if [r].length = 1 then (match pros [r] with | some ds => (g ds).map fun Ts => R.t (.obj C ns Ts) | none => (g ([r].map R.d)).map fun Ts => (R.t (.obj C ns Ts)).taint) else none) = _
  have e : pros [r] = some [d] := by rw [pros_cons, hp]; rfl
  rw [e]
  show (g [d]).map _ = _
  rw [hg]
  rfl
theorem obj_pro (C : Addr) (ns : List Str) (d : D) : (R.t (.obj C ns [.leaf d])).pro = some (.obj C ns [d]) := by rw [Rpro_t]; simp [Tr.d, Tr.ds]
end MD

namespace MD
open PySem PySem.Spec L2
/-! rows: sticks, some turned about -/
def rowOf (z : Pt × Bool) : Pt := if z.2 then ng z.1 else z.1
def mvd (zs : List (Pt × Bool)) : Pt := sm2 ((zs.map rowOf).filter fun r => !std r)
section
variable {ss : List Pt} {zs : List (Pt × Bool)}
end
def turn (W : Int) (a : Pt × Nat) : Pt × Bool := (a.1, !decide (W / 2 ^ a.2 % 2 = 0))
end MD
namespace MD
open PySem PySem.Spec L2
theorem mUn_eq {g : G1} {m : ME} {E : Ev} {r : R} {x : Option R} (h : m E = some r) (hg : g r = x) : mUn g m E = x := by unfold mUn; rw [h]; exact hg
theorem isi_obj {K : PySem.W.Frag} {Cs : List Addr} {C C0 : Addr} {r : R} {ns : List Str} {ds : List D} {b : Bool} (hr : r.d = .obj C0 ns ds) (hc : C0 ∈ Cs) (hk : PySem.W.kitOne K (.ref C0) (.ref C) = some b) : gIsiO K Cs C r = some (.c (.bool b)) := by
  unfold gIsiO
  rw [hr]
  show (if C0 ∈ Cs then PySem.W.kitOne K (.ref C0) (.ref C) else none).map _ = _
  rw [if_pos hc, hk]
  rfl
theorem mAsgT_eq {is : List Nat} {pick : D → Option (List D)} {m : ME} {E : Ev} {r : R} {d : D} {ds : List D} (h : m E = some r) (hp : r.pro = some d) (hk : pick d = some ds) : mAsgT is pick m E = some (.nx (setAllE E is ds)) := by
  unfold mAsgT
  rw [h]
  show (r.pro).bind _ = _
  rw [hp]
  show (pick d).bind _ = _
  rw [hk]
  rfl
theorem mMax_f {α : Type} {is : List Nat} {pick : D → Option (List D)} {mi : MI} {me : ME} {E : Ev} {c : Bool} {l : List α} {enc : α → D} {qs : α → List D} (f : α → Int) (hi : mi E = some (c, l.map enc)) (hl : l.length ≤ lim) (hne : l.map f ≠ [])
    (h : ∀ a ∈ l, (c || flat (enc a)) = true ∧ pick (enc a) = some (qs a) ∧ me (setAllE (wipeE E is) is (qs a)) = some (.c (.int (f a)))) :
    mCl gMaxL (mCons (mLc is pick mi mYes me) mNil) E = some (.c (.int (maxL (l.map f)))) := by
  rw [mCl1 (mLcG (l := l) (enc := enc) (qs := qs) (b := fun _ => true) (y := fun a => .int (f a)) hi hl fun a ha => let ⟨h1, h2, h3⟩ := h a ha; ⟨h1, h2, rfl, fun _ => ⟨_, h3, rfl⟩⟩), filter_true]
  unfold gMaxL
  show (match (R.o (l.map fun a => D.int (f a))).d with | .list l => (ints? l).bind fun ns => if ns ≠ [] then some (R.c (.int (maxL ns))) else none | _ => none) = _
  rw [Rd_o]
  have e : (l.map fun a => D.int (f a)) = (l.map f).map .int := by rw [List.map_map]; rfl
  rw [e]
  show (ints? ((l.map f).map .int)).bind _ = _
  rw [ints?_map]
  show (if l.map f ≠ [] then _ else none) = _
  rw [if_pos hne]
end MD
namespace MD
end MD

namespace MD
open PySem PySem.Spec L2
/-! ### the farthest corner along a line -/
theorem betw (c : Pt) {a b d : Pt} (h1 : 0 < sp a b) (h2 : 0 < sp b d) (h3 : 0 < sp a d) : (0 ≤ sp c a → 0 ≤ sp c d → 0 ≤ sp c b) ∧ (sp c a ≤ 0 → sp c d ≤ 0 → sp c b ≤ 0) := by
  have cr := cramer a d b c
  constructor
  · intro p q
    have m1 := Int.mul_nonneg (Int.le_of_lt h2) p
    have m2 := Int.mul_nonneg (Int.le_of_lt h1) q
    have : sp a d * 0 ≤ sp a d * sp c b := by rw [cr]; omega
    exact le_of_mul h3 this
  · intro p q
    have m1 := Int.mul_nonpos_of_nonneg_of_nonpos (Int.le_of_lt h2) p
    have m2 := Int.mul_nonpos_of_nonneg_of_nonpos (Int.le_of_lt h1) q
    have : sp a d * sp c b ≤ sp a d * 0 := by rw [cr]; omega
    exact le_of_mul h3 this
/-- sticks in turn: those before some place lie on one side of a line, those from it on on the other -/
theorem turn_place (c : Pt) : ∀ {l : List Pt}, l.Pairwise (fun a b => 0 < sp a b) → ∃ k, k ≤ l.length ∧ (((∀ t ∈ l.take k, 0 ≤ sp c t) ∧ (∀ t ∈ l.drop k, sp c t ≤ 0)) ∨ ((∀ t ∈ l.take k, sp c t ≤ 0) ∧ (∀ t ∈ l.drop k, 0 ≤ sp c t)))
  | [], _ => ⟨0, by simp, .inl ⟨by simp, by simp⟩⟩
  | a :: l, pw => by
    obtain ⟨p1, p2⟩ := List.pairwise_cons.mp pw
    obtain ⟨k, hk, hq⟩ := turn_place c p2
    have mid : ∀ b ∈ l.take k, ∀ d ∈ l.drop k, 0 < sp b d := fun b hb d hd => by
      have := p2
      rw [← List.take_append_drop k l] at this
      exact (List.pairwise_append.mp this).2.2 b hb d hd
    rcases Int.lt_trichotomy (sp c a) 0 with ha | ha | ha
    · rcases hq with ⟨q1, q2⟩ | ⟨q1, q2⟩
      · -- a below, take above, drop below
        by_cases hd : l.drop k = []
        · refine ⟨1, by simp, .inr ⟨fun t ht => ?_, fun t ht => ?_⟩⟩
          · simp at ht; subst ht; omega
          · have e : l.take k = l := by have := List.take_append_drop k l; rw [hd, List.append_nil] at this; exact this
            rw [e] at q1
            exact q1 t (by simpa using ht)
        · obtain ⟨d, D, eD⟩ := List.exists_cons_of_ne_nil hd
          have hdm : d ∈ l.drop k := by rw [eD]; exact List.mem_cons_self
          refine ⟨0, by simp, .inl ⟨by simp, fun t ht => ?_⟩⟩
          rcases List.mem_cons.mp (by simpa using ht) with z | z
          · subst z; omega
          · by_cases hm : t ∈ l.drop k
            · exact q2 t hm
            · have ht' : t ∈ l.take k := by
                have : t ∈ l.take k ++ l.drop k := by rw [List.take_append_drop]; exact z
                rcases List.mem_append.mp this with y | y
                · exact y
                · exact absurd y hm
              exact (betw c (p1 t z) (mid t ht' d hdm) (p1 d (List.mem_of_mem_drop hdm))).2 (by omega) (q2 d hdm)
      · refine ⟨k + 1, by simp; omega, .inr ⟨fun t ht => ?_, fun t ht => ?_⟩⟩
        · rw [List.take_succ_cons] at ht
          rcases List.mem_cons.mp ht with z | z
          · subst z; omega
          · exact q1 t z
        · rw [List.drop_succ_cons] at ht
          exact q2 t ht
    · rcases hq with ⟨q1, q2⟩ | ⟨q1, q2⟩
      · refine ⟨k + 1, by simp; omega, .inl ⟨fun t ht => ?_, fun t ht => ?_⟩⟩
        · rw [List.take_succ_cons] at ht
          rcases List.mem_cons.mp ht with z | z
          · subst z; omega
          · exact q1 t z
        · rw [List.drop_succ_cons] at ht
          exact q2 t ht
      · refine ⟨k + 1, by simp; omega, .inr ⟨fun t ht => ?_, fun t ht => ?_⟩⟩
        · rw [List.take_succ_cons] at ht
          rcases List.mem_cons.mp ht with z | z
          · subst z; omega
          · exact q1 t z
        · rw [List.drop_succ_cons] at ht
          exact q2 t ht
    · rcases hq with ⟨q1, q2⟩ | ⟨q1, q2⟩
      · refine ⟨k + 1, by simp; omega, .inl ⟨fun t ht => ?_, fun t ht => ?_⟩⟩
        · rw [List.take_succ_cons] at ht
          rcases List.mem_cons.mp ht with z | z
          · subst z; omega
          · exact q1 t z
        · rw [List.drop_succ_cons] at ht
          exact q2 t ht
      · by_cases hd : l.drop k = []
        · refine ⟨1, by simp, .inl ⟨fun t ht => ?_, fun t ht => ?_⟩⟩
          · simp at ht; subst ht; omega
          · have e : l.take k = l := by have := List.take_append_drop k l; rw [hd, List.append_nil] at this; exact this
            rw [e] at q1
            exact q1 t (by simpa using ht)
        · obtain ⟨d, D, eD⟩ := List.exists_cons_of_ne_nil hd
          have hdm : d ∈ l.drop k := by rw [eD]; exact List.mem_cons_self
          refine ⟨0, by simp, .inr ⟨by simp, fun t ht => ?_⟩⟩
          rcases List.mem_cons.mp (by simpa using ht) with z | z
          · subst z; omega
          · by_cases hm : t ∈ l.drop k
            · exact q2 t hm
            · have ht' : t ∈ l.take k := by
                have : t ∈ l.take k ++ l.drop k := by rw [List.take_append_drop]; exact z
                rcases List.mem_append.mp this with y | y
                · exact y
                · exact absurd y hm
              exact (betw c (p1 t z) (mid t ht' d hdm) (p1 d (List.mem_of_mem_drop hdm))).1 (by omega) (q2 d hdm)
theorem SOk.top {ss : List Pt} (h : SOk ss) (c : Pt) : ∃ k, k < 2 * ss.length ∧ sp c (cq ss k) = mx c ss := by
  obtain ⟨k, hk, hq⟩ := turn_place c h.pw
  have hl := h.l1
  have e : mx c ss = mx c (ss.take k) + mx c (ss.drop k) := by conv => lhs; rw [← List.take_append_drop k ss, mx_app]
  have es : sp c (sm2 ss) = sp c (sm2 (ss.take k)) + sp c (sm2 (ss.drop k)) := by rw [← sp_adr, take_drop_sum]
  rcases hq with ⟨q1, q2⟩ | ⟨q1, q2⟩
  · have a1 := (min_pos q1).2
    have a2 := (min_neg q2).2
    refine ⟨k, by omega, ?_⟩
    unfold cq
    rw [if_pos hk, (lin_sp c).sum]
    unfold mx at e ⊢
    omega
  · have a1 := (min_neg q1).2
    have a2 := (min_pos q2).2
    have a3 : sp c (sm2 (ss.drop k)) = mx c ss := by
      rw [(lin_sp c).sum]
      unfold mx at e ⊢
      omega
    by_cases hkn : k = ss.length
    · subst hkn
      refine ⟨0, by omega, ?_⟩
      rw [cq_zero, (lin_sp c).z, ← a3, List.drop_length, sm2_nil, (lin_sp c).z]
    · refine ⟨ss.length + k, by omega, ?_⟩
      rw [(side_b (at0_eq (show k < ss.length by omega))).2, (lin_sp c).sb]
      omega
theorem cq_le {ss : List Pt} (h : SOk ss) (c : Pt) {k : Nat} (hk : k < 2 * ss.length) : sp c (cq ss k) ≤ mx c ss := by
  unfold cq
  split
  · have h1 := mx_le c (ss.take k)
    have h2 := mx_nonneg c (ss.drop k)
    have e : mx c ss = mx c (ss.take k) + mx c (ss.drop k) := by conv => lhs; rw [← List.take_append_drop k ss, mx_app]
    omega
  · have h1 := mx_le c (ss.drop (k - ss.length))
    have h2 := mx_nonneg c (ss.take (k - ss.length))
    have e : mx c ss = mx c (ss.take (k - ss.length)) + mx c (ss.drop (k - ss.length)) := by conv => lhs; rw [← List.take_append_drop (k - ss.length) ss, mx_app]
    have es : sp c (sm2 ss) = sp c (sm2 (ss.take (k - ss.length))) + sp c (sm2 (ss.drop (k - ss.length))) := by rw [← sp_adr, take_drop_sum]
    rw [(lin_sp c).sb]
    omega
end MD

namespace MD
open PySem PySem.Spec L2
/-! ### shares that lead to a point -/
def isS (p : Pt) : Bool := decide (0 ≤ p.1) && (decide (p.1 ≤ p.2) && decide (Nat.gcd p.1.toNat p.2.toNat = 1))
def prodB (sh : List Pt) : Int := sh.foldl (fun w p => w * p.2) 1
def wgt (B : Int) (p : Pt) : Int := p.1 * (B / p.2)
def led (B : Int) (zs : List (Pt × Pt)) : Pt := zs.foldl (fun a z => ad a (z.1.1 * wgt B z.2, z.1.2 * wgt B z.2)) (0, 0)
def leadB (ss sh : List Pt) (q : Pt) : Bool := decide (led (prodB sh) (ss.zip sh) = (q.1 * prodB sh, q.2 * prodB sh))
theorem isS_pos {p : Pt} (h : isS p = true) : 0 ≤ p.1 ∧ p.1 ≤ p.2 ∧ 0 < p.2 := by
  unfold isS at h
  simp only [Bool.and_eq_true, decide_eq_true_eq] at h
  obtain ⟨h1, h2, h3⟩ := h
  refine ⟨h1, h2, ?_⟩
  apply Classical.byContradiction
  intro hz
  have e2 : p.2 = 0 := by omega
  have e1 : p.1 = 0 := by omega
  rw [e1, e2] at h3
  simp at h3
theorem fold_dvd : ∀ (sh : List Pt) (w : Int), w ∣ sh.foldl (fun w p => w * p.2) w ∧ ∀ p ∈ sh, p.2 ∣ sh.foldl (fun w p => w * p.2) w
  | [], w => ⟨Int.dvd_refl w, fun _ h => by cases h⟩
  | p :: sh, w => by
    obtain ⟨h1, h2⟩ := fold_dvd sh (w * p.2)
    refine ⟨Int.dvd_trans (Int.dvd_mul_right w p.2) h1, fun x hx => ?_⟩
    rcases List.mem_cons.mp hx with z | z
    · subst z; exact Int.dvd_trans (Int.dvd_mul_left w x.2) h1
    · exact h2 x z
theorem prodB_dvd {sh : List Pt} {p : Pt} (h : p ∈ sh) : p.2 ∣ prodB sh := (fold_dvd sh 1).2 p h
theorem low_isS {t b : Int} (h0 : 0 ≤ t) (h1 : t ≤ b) (hb : 0 < b) : isS (lowP t b) = true := by
  have hg : 0 < Nat.gcd t.toNat b.toNat := Nat.gcd_pos_of_pos_right _ (by omega)
  unfold isS lowP
  simp only [Int.toNat_natCast, Bool.and_eq_true, decide_eq_true_eq]
  refine ⟨Int.natCast_nonneg _, ?_, ?_⟩
  · have : t.toNat / Nat.gcd t.toNat b.toNat ≤ b.toNat / Nat.gcd t.toNat b.toNat := Nat.div_le_div_right (by omega)
    omega
  · rw [Nat.gcd_div (Nat.gcd_dvd_left _ _) (Nat.gcd_dvd_right _ _)]
    exact Nat.div_self hg
theorem low_le {t b : Int} (hb : 0 < b) : (lowP t b).2 ≤ b := by
  unfold lowP
  have := Nat.div_le_self b.toNat (Nat.gcd t.toNat b.toNat)
  simp only
  omega
theorem low_parts {t b : Int} (h0 : 0 ≤ t) (hb : 0 < b) : ∃ d : Int, 0 < d ∧ t = d * (lowP t b).1 ∧ b = d * (lowP t b).2 ∧ 0 < (lowP t b).2 := by
  have hg : 0 < Nat.gcd t.toNat b.toNat := Nat.gcd_pos_of_pos_right _ (by omega)
  refine ⟨(Nat.gcd t.toNat b.toNat : Nat), by omega, ?_, ?_, ?_⟩
  · unfold lowP
    simp only
    rw [← Int.natCast_mul, Nat.mul_div_cancel' (Nat.gcd_dvd_left _ _)]
    omega
  · unfold lowP
    simp only
    rw [← Int.natCast_mul, Nat.mul_div_cancel' (Nat.gcd_dvd_right _ _)]
    omega
  · unfold lowP
    simp only
    have := Nat.div_pos (Nat.gcd_le_right t.toNat (show 0 < b.toNat by omega)) hg
    omega
theorem low_w {t b B : Int} (h0 : 0 ≤ t) (hb : 0 < b) (hd : (lowP t b).2 ∣ B) : b * wgt B (lowP t b) = t * B := by
  obtain ⟨d, d0, e1, e2, hp⟩ := low_parts h0 hb
  obtain ⟨m, em⟩ := hd
  unfold wgt
  rw [em, Int.mul_ediv_cancel_left _ (by omega)]
  generalize (lowP t b).1 = t' at *
  generalize (lowP t b).2 = b' at *
  rw [e1, e2]
  grind
def lsum (c : Pt) (B : Int) (zs : List (Pt × Pt)) : Int := (zs.map fun z => sp c z.1 * wgt B z.2).sum
theorem led_sp (c : Pt) (B : Int) (zs : List (Pt × Pt)) : sp c (led B zs) = lsum c B zs := by
  have main : ∀ (zs : List (Pt × Pt)) (a : Pt), sp c (zs.foldl (fun a z => ad a (z.1.1 * wgt B z.2, z.1.2 * wgt B z.2)) a) = sp c a + lsum c B zs := by
    intro zs
    induction zs with
    | nil => intro a; simp [lsum]
    | cons z zs ih =>
      intro a
      rw [List.foldl_cons, ih, sp_adr]
      unfold lsum
      rw [List.map_cons, List.sum_cons]
      have : sp c (z.1.1 * wgt B z.2, z.1.2 * wgt B z.2) = sp c z.1 * wgt B z.2 := by unfold sp; grind
      omega
  unfold led
  rw [main, (lin_sp c).z, Int.zero_add]
theorem pt_sp {p q : Pt} (h : ∀ c, sp c p = sp c q) : p = q := by
  have h1 := h (1, 0)
  have h2 := h (0, 1)
  unfold sp at h1 h2
  simp at h1 h2
  exact Prod.ext h2 h1
theorem lead_of {ss sh : List Pt} {q : Pt} (h : ∀ c, lsum c (prodB sh) (ss.zip sh) = sp c q * prodB sh) : leadB ss sh q = true := by
  refine decide_eq_true (pt_sp fun c => ?_)
  rw [led_sp, h c]
  unfold sp
  grind
theorem lsum_app (c : Pt) (B : Int) (x y : List (Pt × Pt)) : lsum c B (x ++ y) = lsum c B x + lsum c B y := by unfold lsum; rw [List.map_append, List.sum_append]
theorem lsum_cons (c : Pt) (B : Int) (z : Pt × Pt) (y : List (Pt × Pt)) : lsum c B (z :: y) = sp c z.1 * wgt B z.2 + lsum c B y := by unfold lsum; rw [List.map_cons, List.sum_cons]
theorem lsum_rep (c : Pt) (B : Int) (p : Pt) : ∀ (l : List Pt), lsum c B (l.zip (List.replicate l.length p)) = sp c (sm2 l) * wgt B p
  | [] => by simp [lsum, sm2_nil, (lin_sp c).z]
  | t :: l => by
    rw [List.length_cons, List.replicate_succ, List.zip_cons_cons, lsum_cons, lsum_rep c B p l, sm2_cons, sp_adr, Int.add_mul]
theorem shl_split (ss : List Pt) (q : Pt) {i j : Nat} (hij : i < j) (hj : j < ss.length) : shl ss q i j = List.replicate i (0, 1) ++ lowP (sp (sb q (foot ss i j)) (at0 ss j)) (sp (at0 ss i) (at0 ss j)) :: (List.replicate (j - (i + 1)) (1, 1) ++ lowP (sp (at0 ss i) (sb q (foot ss i j))) (sp (at0 ss i) (at0 ss j)) :: List.replicate (ss.length - (j + 1)) (0, 1)) := by
  unfold shl
  generalize lowP (sp (sb q (foot ss i j)) (at0 ss j)) (sp (at0 ss i) (at0 ss j)) = x
  generalize lowP (sp (at0 ss i) (sb q (foot ss i j))) (sp (at0 ss i) (at0 ss j)) = y
  apply List.ext_getElem?
  intro k
  rw [List.getElem?_set, List.getElem?_set, List.getElem?_map]
  simp only [List.length_set, List.length_map, List.length_range]
  by_cases hk : k < ss.length
  · rw [List.getElem?_range hk]
    rcases Nat.lt_trichotomy k i with h | h | h
    · rw [if_neg (by omega), if_neg (by omega), List.getElem?_append_left (by rw [List.length_replicate]; exact h), List.getElem?_replicate]
      simp [h]
      omega
    · subst h
      rw [if_neg (by omega), if_pos rfl, List.getElem?_append_right (by rw [List.length_replicate]; omega), List.length_replicate, Nat.sub_self]
      simp [hk]
    · rw [List.getElem?_append_right (by rw [List.length_replicate]; omega), List.length_replicate]
      obtain ⟨m, hm⟩ : ∃ m, k - i = m + 1 := ⟨k - i - 1, by omega⟩
      rw [hm, List.getElem?_cons_succ]
      rcases Nat.lt_trichotomy k j with g | g | g
      · rw [if_neg (by omega), if_neg (by omega), List.getElem?_append_left (by rw [List.length_replicate]; omega), List.getElem?_replicate]
        simp [h, g]
        omega
      · subst g
        rw [if_pos rfl, List.getElem?_append_right (by rw [List.length_replicate]; omega), List.length_replicate, show m - (k - (i + 1)) = 0 by omega]
        simp [hk]
      · rw [if_neg (by omega), if_neg (by omega), List.getElem?_append_right (by rw [List.length_replicate]; omega), List.length_replicate]
        obtain ⟨m2, hm2⟩ : ∃ m2, m - (j - (i + 1)) = m2 + 1 := ⟨m - (j - (i + 1)) - 1, by omega⟩
        rw [hm2, List.getElem?_cons_succ, List.getElem?_replicate]
        simp
        omega
  · rw [List.getElem?_eq_none (by rw [List.length_range]; omega)]
    rw [if_neg (by omega), if_neg (by omega)]
    symm
    rw [Option.map_none, List.getElem?_eq_none_iff]
    simp
    omega
/-- what shares_by_two tells leads to the point -/
theorem shl_ok {ss : List Pt} (h : SOk ss) {q : Pt} {i j : Nat} (hij : i < j) (hj : j < ss.length) (hs : slabAt ss q (i, j) = true) : (shl ss q i j).length = ss.length ∧ (∀ p ∈ shl ss q i j, isS p = true ∧ p.2 ≤ 800) ∧ leadB ss (shl ss q i j) q = true := by
  have sl : Slab (at0 ss i) (at0 ss j) (foot ss i j) q := of_decide_eq_true hs
  obtain ⟨f0, f1, s0, s1⟩ := sl
  have hU := h.span hij hj
  have ai := at0_eq (ss := ss) (k := i) (by omega)
  have aj := at0_eq hj
  have hU2 := (near_le (h.nrs ai) (h.nrs aj)).1
  have e := shl_split ss q hij hj
  refine ⟨by unfold shl; simp, fun p hp => ?_, lead_of fun c => ?_⟩
  · rw [e] at hp
    have two : isS (0, 1) = true ∧ isS (1, 1) = true := by decide
    simp only [List.mem_append, List.mem_cons, List.mem_replicate] at hp
    rcases hp with ⟨_, rfl⟩ | rfl | ⟨_, rfl⟩ | rfl | ⟨_, rfl⟩
    · exact ⟨two.1, by decide⟩
    · exact ⟨low_isS f0 f1 hU, Int.le_trans (low_le hU) hU2⟩
    · exact ⟨two.2, by decide⟩
    · exact ⟨low_isS s0 s1 hU, Int.le_trans (low_le hU) hU2⟩
    · exact ⟨two.1, by decide⟩
  · have d1 : (lowP (sp (sb q (foot ss i j)) (at0 ss j)) (sp (at0 ss i) (at0 ss j))).2 ∣ prodB (shl ss q i j) := prodB_dvd (by rw [e]; simp)
    have d2 : (lowP (sp (at0 ss i) (sb q (foot ss i j))) (sp (at0 ss i) (at0 ss j))).2 ∣ prodB (shl ss q i j) := prodB_dvd (by rw [e]; simp)
    have w1 := low_w f0 hU d1
    have w2 := low_w s0 hU d2
    have e1 := split_at ai
    have e2 : ss.drop (i + 1) = (ss.take j).drop (i + 1) ++ at0 ss j :: ss.drop (j + 1) := by
      have e := split_at aj
      have : ss.drop (i + 1) = (ss.take j ++ at0 ss j :: ss.drop (j + 1)).drop (i + 1) := by rw [← e]
      rw [this, List.drop_append_of_le_length (by rw [List.length_take]; omega)]
    have ez : ss.zip (shl ss q i j) = (ss.take i).zip (List.replicate (ss.take i).length (0, 1)) ++ (at0 ss i, lowP (sp (sb q (foot ss i j)) (at0 ss j)) (sp (at0 ss i) (at0 ss j))) :: (((ss.take j).drop (i + 1)).zip (List.replicate ((ss.take j).drop (i + 1)).length (1, 1)) ++ (at0 ss j, lowP (sp (at0 ss i) (sb q (foot ss i j))) (sp (at0 ss i) (at0 ss j))) :: (ss.drop (j + 1)).zip (List.replicate (ss.drop (j + 1)).length (0, 1))) := by
      have l1 : (ss.take i).length = i := by rw [List.length_take]; omega
      have l2 : ((ss.take j).drop (i + 1)).length = j - (i + 1) := by rw [List.length_drop, List.length_take]; omega
      have l3 : (ss.drop (j + 1)).length = ss.length - (j + 1) := by rw [List.length_drop]
      rw [e, l1, l2, l3]
      conv => lhs; arg 1; rw [e1, e2]
      rw [List.zip_append (by rw [l1, List.length_replicate]), List.zip_cons_cons, List.zip_append (by rw [l2, List.length_replicate]), List.zip_cons_cons]
    have cr := cramer (at0 ss i) (at0 ss j) (sb q (foot ss i j)) c
    have eq : sp c q = sp c (sb q (foot ss i j)) + sp c (foot ss i j) := by rw [(lin_sp c).sb]; omega
    rw [ez, lsum_app, lsum_cons, lsum_app, lsum_cons, lsum_rep, lsum_rep, lsum_rep, eq]
    generalize prodB (shl ss q i j) = B at *
    have z0 : wgt B (0, 1) = 0 := by simp [wgt]
    have z1 : wgt B (1, 1) = B := by simp [wgt]
    rw [z0, z1]
    have ef : sm2 ((ss.take j).drop (i + 1)) = foot ss i j := rfl
    rw [ef]
    generalize sp c (foot ss i j) = cF at *
    generalize sb q (foot ss i j) = r at *
    generalize wgt B (lowP (sp r (at0 ss j)) (sp (at0 ss i) (at0 ss j))) = wi at *
    generalize wgt B (lowP (sp (at0 ss i) r) (sp (at0 ss i) (at0 ss j))) = wj at *
    generalize sp r (at0 ss j) = fi at *
    generalize sp (at0 ss i) r = se at *
    generalize sp (at0 ss i) (at0 ss j) = U at *
    generalize sp c r = x at *
    generalize sp c (at0 ss i) = ca at *
    generalize sp c (at0 ss j) = cb at *
    have key : U * (ca * wi + (cF * B + (cb * wj + 0))) = U * ((x + cF) * B) := by grind
    have := Int.eq_of_mul_eq_mul_left (by omega) key
    grind
theorem one_ok {s q : Pt} (hs : Std s) (hn : near s = true) (h : oneB s q = true) : isS (lowP (dt s q) (dt s s)) = true ∧ (lowP (dt s q) (dt s s)).2 ≤ 800 ∧ leadB [s] [lowP (dt s q) (dt s s)] q = true := by
  unfold oneB at h
  simp only [Bool.and_eq_true, decide_eq_true_eq] at h
  obtain ⟨h1, h2, h3⟩ := h
  have hD := std_dt hs
  refine ⟨low_isS h2 h3 hD, Int.le_trans (low_le hD) (near_le hn hn).2, lead_of fun c => ?_⟩
  have hd : (lowP (dt s q) (dt s s)).2 ∣ prodB [lowP (dt s q) (dt s s)] := prodB_dvd List.mem_cons_self
  have w := low_w h2 hD hd
  have e : dt s s * sp c q = dt s q * sp c s := by
    unfold sp at h1
    unfold dt sp
    grind
  rw [List.zip_cons_cons, lsum_cons]
  simp only [List.zip_nil_right, lsum, List.map_nil, List.sum_nil]
  generalize prodB [lowP (dt s q) (dt s s)] = B at *
  generalize wgt B (lowP (dt s q) (dt s s)) = wv at *
  generalize dt s s = D at *
  generalize dt s q = t at *
  generalize sp c s = cs at *
  generalize sp c q = x at *
  have key : D * (cs * wv) = D * (x * B) := by grind
  have := Int.eq_of_mul_eq_mul_left (by omega) key
  omega
end MD

namespace MD
open PySem PySem.Spec L2
section
variable {X : Cx} {K : PySem.W.Frag} {e tg : Expr} {m ma mb : ME} {n : MA} {pos p : Pos} {es : List Expr} {ff : Bool}
/-! ### x op= e -/
theorem iop_mulB : OpR X (inplaceOp .Mult) (rI IntMulOk fun i j => .int (i * j)) := opI fun _ _ _ _ _ _ _ hc q => PyProof.Rows.imul_int q hc
def mAug (i : Nat) (g : G2) (m : ME) : MS := fun E => match E[i]? with
  | some (some (.v d)) => (m E).bind fun r => (g (.c d) r).bind fun r' => r'.pro.bind fun d' => some (.nx (E.set i (some (.v d'))))
  | _ => none
theorem m_aug {i : Nat} {x : Str} {op : Operator} {r : R2} {g : G2} {pos' : Pos} (ho : OpR X (inplaceOp op) r) (hs : SOp X.K r g) (hN : X.N.Nodup) (he : PE X e (tM X.K m)) (hi : X.N[i]? = some x := by rfl) (hx : Loc X.env.scope x := by first | exact Or.inl rfl | exact Or.inr rfl)
    (hf : X.fn x = true ∨ X.env.scope.names.lookup x = some .local := by first | exact .inl rfl | exact .inr rfl) : PS X (.AugAssign (.Name x pos') op e pos) (sM X.K ff (mAug i g m)) :=
  ps_imp (ps_aug hN hi hx he ho hf) fun D σ H ⟨E, W, o, hH, hm, k⟩ => by
    unfold mAug at hm
    split at hm
    · rename_i d ed
      obtain ⟨ra, e1, hm⟩ := bindSome hm
      obtain ⟨rc, e2, hm⟩ := bindSome hm
      obtain ⟨d', e3, hm⟩ := bindSome hm
      cases hm
      obtain ⟨v, ev, dv⟩ := hH.val i d ed
      refine ⟨v, ev, E, W, ra, hH, e1, fun y H1 s1 r1 f1 => ?_⟩
      have hH1 := hH.grow s1
      have rv : RA X.K H1 W v (.c d) := Dpm dv (hid_same s1)
      refine hs v y (.c d) ra rc H1 W _ hH1.dom rv r1 e2 fun z H2 s2 r2 f2 => ?_
      have hH2 := hH1.grow s2
      have dz := r2.pro hH2.dom e3
      exact k _ H2 W.o (hH2.setv i dz) ((Fr.of s1).trans (Fr.of s2))
    · cases hm
/-! ### a, (b, c) -/
def pickN : D → Option (List D) := fun d => match d with | .tuple [x, .tuple [y, z]] => some [x, y, z] | _ => none
theorem tgN (i j k : Nat) : TgOk K (gTup K 2 (gCons (gName i) (gCons (gTup K 2 (gCons (gName j) (gCons (gName k) gNil))) gNil))) [i, j, k] pickN := fun M v d ds σ H Q h e q => by
  unfold pickN at e
  split at e
  · cases e
    obtain ⟨a, xs, rfl, h1, h2⟩ := Dp_tup h
    cases h2 with
    | cons d1 t =>
      cases t with
      | cons d2 t =>
        cases t
        obtain ⟨b, ys, rfl, g1, g2⟩ := Dp_tup d2
        cases g2 with
        | cons c1 t =>
          cases t with
          | cons c2 t =>
            cases t
            exact ⟨a, _, rfl, same_tup hid_sub h1, rfl, _, _, rfl, _, _, rfl, ⟨b, _, rfl, same_tup hid_sub g1, rfl, _, _, rfl, _, _, rfl, rfl, rfl, q _ (.cons d1 (.cons c1 (.cons c2 .nil)))⟩⟩
  · cases e
end
end MD

namespace MD
open PySem PySem.Spec L2
section
variable {X : Cx} {K : PySem.W.Frag} {e tg : Expr} {m ma mb : ME} {n : MA} {pos p : Pos} {es : List Expr} {ff : Bool}
/-! ### a // b, b of up to 9000 bits -/
def CDivB (_ j : Int) : Prop := 0 < j ∧ j.natAbs.log2 < 9000
theorem op_fdivB : OpR X (binaryOp .FloorDiv) (rI CDivB fun i j => .int (i / j)) := opI fun i j _ _ _ _ _ hc q => by
  have h1 : (0 : Int) < j := hc.1
  exact PyProof.Rows.floordiv_int (by omega) (by rw [Int.fdiv_eq_ediv_of_nonneg i (by omega)]; exact q) (.inl (PyProof.noPylong_of_log2 hc.2))
def gDivB : G2 := gIc (fun _ j => decide (0 < j ∧ j.natAbs.log2 < 9000)) fun i j => .int (i / j)
theorem s_divB : SOp K (rI CDivB fun i j => .int (i / j)) gDivB := s_Ic (fun i j h => (of_decide_eq_true h : 0 < j ∧ j.natAbs.log2 < 9000)) fun _ _ _ => .int _
/-! ### [..] * n -/
theorem dpa_rep {H : Hp} {xs : List V} {ds : List D} (h : DpAll K H xs ds) : ∀ k : Nat, DpAll K H (List.replicate k xs).flatten (List.replicate k ds).flatten
  | 0 => .nil
  | k + 1 => by
    rw [List.replicate_succ, List.flatten_cons, List.replicate_succ, List.flatten_cons]
    exact DpAll_app h (dpa_rep h k)
def gRep : G2 := fun x y => match x, y.d with
  | .t (.lst l), .int k => if 0 ≤ k ∧ k < 2 ^ 63 ∧ (Tr.ds l).length * k.toNat ≤ lim then some (.o (List.replicate k.toNat (Tr.ds l)).flatten) else none
  | _, _ => none
theorem s_rep : SOp K rRep gRep := by
  intro x y ra rb rc H W Q hW hx hy hg k
  unfold gRep at hg
  split at hg
  · rename_i l kk ek
    split at hg
    · rename_i hc
      cases hg
      have h2 := hy.dp
      rw [ek] at h2
      cases h2
      obtain ⟨hd, as, lk, nd, fr⟩ := hx
      cases lk with
      | lst g1 g2 =>
        rename_i a vs as'
        have dz : DpAll K (hid W.w H) vs (Tr.ds l) := lks_dp hd (fun a ha => adms_le a ha) l _ _ (fun a ha => fr a (List.mem_cons_of_mem _ ha)) g2
        refine ⟨a, kk, vs, rfl, rfl, g1, by omega, hc.2.1, ?_, fun p hp => ?_⟩
        · rw [DpAll_len dz]; exact Nat.le_trans hc.2.2 lim_line
        · obtain ⟨q1, q2⟩ := new_o hW hp (dpa_rep dz kk.toNat)
          exact k _ _ (same_new hp) q1 q2
    · cases hg
  · cases hg
/-! ### a comprehension over an own list of data -/
def leafy : List Tr → Bool
  | [] => true
  | .leaf _ :: l => leafy l
  | _ :: _ => false
theorem leafy_map : ∀ l : List D, leafy (l.map .leaf) = true
  | [] => rfl
  | _ :: l => leafy_map l
theorem lks_leafy {H : Hp} {M : Msk} : ∀ {l : List Tr} {vs : List V} {as : List Addr}, leafy l = true → Lks K H M vs as l → DpAll K (hid M H) vs (Tr.ds l)
  | [], _, _, _, h => by cases h; rw [Tr.ds]; exact .nil
  | .leaf d :: l, _, _, f, h => by
    cases h with
    | cons h1 h2 =>
      cases h1 with
      | leaf h1 => rw [Tr.ds, Tr.d]; exact .cons h1 (lks_leafy f h2)
  | .lst _ :: l, _, _, f, h => by cases f
  | .tup _ :: l, _, _, f, h => by cases f
  | .obj _ _ _ :: l, _, _, f, h => by cases f
def mLcV (is : List Nat) (pick : D → Option (List D)) (i : Nat) (mt : MT) (me : ME) : ME := fun E => match E[i]? with
  | some (some (.t (.lst l))) => if l.length ≤ lim ∧ leafy l = true then (lcD is pick true mt me (wipeE E is) (Tr.ds l)).map R.o else none
  | _ => none
theorem tLcV_of {is : List Nat} {pick : D → Option (List D)} {v0 : Nat} {mt : MT} {me : ME} {g : TG} (hg : TgOk K g is pick) : ∀ σ H Q, tM K (mLcV is pick v0 mt me) σ H Q → tLc (iList K (tVar v0)) g (tMT K mt) (tM K me) is σ H Q := fun σ H1 Q ⟨E, W, rc, hH1, hm, k⟩ => by
  unfold mLcV at hm
  split at hm
  rotate_left
  · cases hm
  rename_i l0 el0
  split at hm
  rotate_left
  · cases hm
  rename_i hcond
  obtain ⟨hlim0, hleaf⟩ := hcond
  obtain ⟨res, er, e2⟩ := mapSome hm
  subst e2
  obtain ⟨a, vs, as, h1, h2, h3, h4, h5⟩ := hH1.ownl el0
  have dvs := lks_leafy hleaf h3
  generalize hlg : Tr.ds l0 = l at *
  have hlim : l.length ≤ lim := by rw [← DpAll_len dvs, lks_len h3]; exact hlim0
  refine ⟨.ref a, h1, a, rfl, ⟨vs, SqL.of h2⟩, fun D hD => ?_⟩
  have hD0 : W.w D = false := hH1.dom.free hD
  have zD : (W.add D).z D = true := adm_self
  let INV : Nat → Hp → Prop := fun i H2 => Same H1 H2 ∧ Held K H2 (W.add D) (L2.wipe σ is) (wipeE E is) ∧ ∃ acc ad rest, H2 D = some (.lst acc) ∧ DpAll K (hid (adm D W.w) H2) acc ad ∧ lcD is pick true mt me (wipeE E is) (l.drop i) = some rest ∧ ad ++ rest = res ∧ acc.length ≤ i
  refine ⟨fun i m H2 => m = l.length - i ∧ i ≤ l.length ∧ INV i H2, ⟨l.length, by simp, Nat.zero_le _, same_new hD, (hH1.hide hD []).wipe is, [], [], res, upd_same, .nil, by simpa using er, rfl, Nat.le_refl _⟩, ?_⟩
  rintro i mm H2 ⟨rfl, hi, S, hh, acc, ad, rest, eD, da, el, ea, hl⟩
  have hs : SqL K H2 a vs := SqL.of (S _ _ h2)
  have dv2 : DpAll K (hid (adm D W.w) H2) vs l := Dpam dvs fun b o q => by
    rw [hid_eq] at q ⊢
    refine ⟨?_, S _ _ q.2⟩
    unfold adm
    rw [q.1, decide_eq_false (ne_of_none q.2 hD)]
    rfl
  by_cases hlt : i < l.length
  · have hd : l[i]? = some l[i] := by simp [hlt]
    have edrop : l.drop i = l[i] :: l.drop (i + 1) := (List.drop_eq_getElem_cons hlt)
    rw [edrop] at el
    obtain ⟨v, hv, dv⟩ := DpAll_get dv2 hd
    unfold lcD at el
    rw [Bool.true_or, if_pos rfl] at el
    obtain ⟨qs, ep, el⟩ := bindSome el
    obtain ⟨bt, et, el⟩ := bindSome el
    refine .inr ⟨⟨vs, v, hs, hv⟩, fun H' => INV (i + 1) H', fun H' p' => ⟨l.length - (i + 1), by omega, rfl, hlt, p'⟩, fun x H3 y => ?_⟩
    obtain ⟨e1, hy⟩ := y
    subst e1
    have z1 := hy vs hs
    rw [hv] at z1
    cases z1
    have dx' : Dp K (hid (W.add D).w H3) v l[i] := by rw [W.add_w D]; exact dv
    refine hg (W.add D).w v _ qs _ H3 _ dx' ep fun vs' dvs' => ?_
    have hh4 := hh.setAll (is := is) dvs'
    refine ⟨wipe_setAll σ is vs', _, W.add D, bt, hh4, et, fun H4 s4 => ?_⟩
    cases bt with
    | false =>
      rw [if_neg Bool.false_ne_true] at el ⊢
      exact ⟨S.trans s4, (hh.grow s4), acc, ad, rest, s4 _ _ eD, Dpam da (hid_same s4), el, ea, Nat.le_succ_of_le hl⟩
    | true =>
      rw [if_pos rfl] at el ⊢
      obtain ⟨rx, ex, el⟩ := bindSome el
      obtain ⟨yd, ey, el⟩ := bindSome el
      obtain ⟨rest', el', e5⟩ := bindSome el
      cases e5
      refine ⟨_, W.add D, rx, hh4.grow s4, ex, fun yv H5 s5 r5 f5 => ?_⟩
      have hh5 := (hh.grow s4).grow s5
      have S5 : Same H3 H5 := s4.trans s5
      have dy := r5.pro (hh5.dom) ey
      rw [W.add_w D] at dy
      have eD5 := S5 _ _ eD
      refine ⟨acc, eD5, Nat.lt_of_le_of_lt hl (Nat.lt_of_lt_of_le hlt (Nat.le_trans hlim lim_line)), ?_, hh5.updz zD _, acc ++ [yv], ad ++ [yd], rest', upd_same, ?_, el', by rw [List.append_assoc]; exact ea, by simp; exact hl⟩
      · intro b o e
        rw [upd_ne (ne_of_none e hD)]
        exact S5 _ _ (S _ _ e)
      · rw [hid_in adm_self]
        exact DpAll_app (Dpam da (hid_same S5)) (.cons dy .nil)
  · have e : i = l.length := by omega
    subst e
    rw [List.drop_length] at el
    cases el
    rw [List.append_nil] at ea
    subst ea
    exact .inl ⟨⟨vs, hs, by rw [DpAll_len dv2]; exact Nat.le_refl _⟩, k _ H2 S ⟨(hH1.grow S).dom, [D], .lst eD (lks_fl (by rw [adms_one]; exact da)), by simp, fun a ha => by cases List.mem_singleton.mp ha; exact hD0⟩ (rf_o hD)⟩
theorem m_lcV {elt iter : Expr} {ifs : List Expr} {scope : Scope} {own : List (Str × Nat)} {v0 : Nat} {mt : MT} {me : ME} {g : TG} {pick : D → Option (List D)} (hc : X.calm = true) (hN : X.N.Nodup) (ht' : TgOk X.K g (own.map (·.2)) pick) (hi : PE X iter (tVar v0)) (ok : BlkOk X.N X.env.scope scope own)
    (hg : ∀ (s : Shared) (H : Hp) (C : Addr) (cl : List (Str × Addr)) (fp : List Addr), PG (X.blk s H scope (compEnvC scope cl C X.env) fp) tg g) (ht : ∀ (s : Shared) (H : Hp) (C : Addr) (cl : List (Str × Addr)) (fp : List Addr), PTs (X.blk s H scope (compEnvC scope cl C X.env) fp) ifs (tMT X.K mt))
    (he : ∀ (s : Shared) (H : Hp) (C : Addr) (cl : List (Str × Addr)) (fp : List Addr), PE (X.blk s H scope (compEnvC scope cl C X.env) fp) elt (tM X.K me)) (hs : ∀ x, foldedSetIterable iter X.env x = pure x := by intro _; rfl) :
    PE X (.ListComp elt [⟨tg, iter, ifs, 0⟩] scope pos) (tM X.K (mLcV (own.map (·.2)) pick v0 mt me)) :=
  pe_imp (pe_lc hc hN (pi_list hi) ok hg ht he hs) (tLcV_of ht')
theorem mLcV_eq {α : Type} {is : List Nat} {pick : D → Option (List D)} {i : Nat} {mt : MT} {me : ME} {E : Ev} {l : List α} {enc : α → D} {qs : α → List D} {b : α → Bool} {y : α → D} (hi : E[i]? = some (some (.t (Tr.fl (l.map enc))))) (hl : l.length ≤ lim)
    (h : ∀ a ∈ l, pick (enc a) = some (qs a) ∧ mt (setAllE (wipeE E is) is (qs a)) = some (b a) ∧ (b a = true → ∃ r, me (setAllE (wipeE E is) is (qs a)) = some r ∧ r.pro = some (y a))) :
    mLcV is pick i mt me E = some (.o ((l.filter b).map y)) := by
  unfold mLcV
  rw [hi]
  show (if ((l.map enc).map Tr.leaf).length ≤ lim ∧ leafy ((l.map enc).map Tr.leaf) = true then (lcD is pick true mt me (wipeE E is) (Tr.ds ((l.map enc).map Tr.leaf))).map R.o else none) = _
  rw [if_pos ⟨by rw [List.length_map, List.length_map]; exact hl, leafy_map _⟩, ds_leaf, lcD_map (b := b) (y := y) (qs := qs) l fun a ha => ⟨rfl, h a ha⟩]
  rfl
end
end MD

namespace MD
open PySem PySem.Spec L2
def Bd (p : Pt) : Prop := p.1.natAbs < 2 ^ 70 ∧ p.2.natAbs < 2 ^ 70
instance (p : Pt) : Decidable (Bd p) := by unfold Bd; infer_instance
theorem mulB {a b : Int} {m n : Nat} (ha : a.natAbs < 2 ^ m) (hb : b.natAbs < 2 ^ n) (h : m + n ≤ 134217728) : mulOk a b = true := mulOk_bits (PyProof.Rows.intBits_le ha) (PyProof.Rows.intBits_le hb) h
theorem fold_abs : ∀ (sh : List Pt) (w : Int) (m : Nat), w.natAbs ≤ 2 ^ m → (∀ p ∈ sh, Bd p) → (sh.foldl (fun w p => w * p.2) w).natAbs ≤ 2 ^ (m + 70 * sh.length)
  | [], w, m, h, _ => by simpa using h
  | p :: sh, w, m, h, hb => by
    rw [List.foldl_cons]
    have h1 : (w * p.2).natAbs ≤ 2 ^ (m + 70) := by
      rw [Int.natAbs_mul, Nat.pow_add]
      exact Nat.mul_le_mul h (Nat.le_of_lt (hb p List.mem_cons_self).2)
    have := fold_abs sh (w * p.2) (m + 70) h1 fun x hx => hb x (List.mem_cons_of_mem _ hx)
    rw [show m + 70 + 70 * sh.length = m + 70 * (p :: sh).length by rw [List.length_cons]; omega] at this
    exact this
theorem prod_abs {sh : List Pt} (hl : sh.length ≤ 7) (hb : ∀ p ∈ sh, Bd p) : (prodB sh).natAbs < 2 ^ 500 := by
  have := fold_abs sh 1 0 (by decide) hb
  refine Nat.lt_of_le_of_lt this (Nat.pow_lt_pow_right (by decide) (by omega))
theorem log_small {b : Int} (h0 : 0 < b) (h : b.natAbs < 2 ^ 70) : b.natAbs.log2 < 9000 := by
  have : b.natAbs.log2 < 70 := (Nat.log2_lt (by omega)).mpr h
  omega
theorem div_abs {B b : Int} (h0 : 0 < b) (hB : B.natAbs < 2 ^ 500) : (B / b).natAbs < 2 ^ 500 := by
  refine Nat.lt_of_le_of_lt ?_ hB
  exact Int.natAbs_ediv_le_natAbs B b
def dueS (ss sh : List Pt) (q : Pt) : Bool := decide (sh.length = ss.length) && (sh.all isS && leadB ss sh q)
theorem led_snoc (B : Int) (zs : List (Pt × Pt)) (z : Pt × Pt) : led B (zs ++ [z]) = ad (led B zs) (z.1.1 * wgt B z.2, z.1.2 * wgt B z.2) := by unfold led; rw [List.foldl_append]; rfl
theorem led_sum (B : Int) : ∀ (ss sh : List Pt), led B (ss.zip sh) = (((sh.zip ss).map fun z => wgt B z.1 * z.2.1).sum, ((sh.zip ss).map fun z => wgt B z.1 * z.2.2).sum) := by
  have main : ∀ (ss sh : List Pt) (a : Pt), (ss.zip sh).foldl (fun a z => ad a (z.1.1 * wgt B z.2, z.1.2 * wgt B z.2)) a = ad a (((sh.zip ss).map fun z => wgt B z.1 * z.2.1).sum, ((sh.zip ss).map fun z => wgt B z.1 * z.2.2).sum) := by
    intro ss
    induction ss with
    | nil => intro sh a; simp [ad]
    | cons s ss ih =>
      intro sh a
      cases sh with
      | nil => simp [ad]
      | cons p sh =>
        rw [List.zip_cons_cons, List.foldl_cons, ih, List.zip_cons_cons, List.map_cons, List.map_cons, List.sum_cons, List.sum_cons]
        unfold ad
        simp only
        rw [Int.mul_comm (wgt B p) s.1, Int.mul_comm (wgt B p) s.2]
        ext <;> simp <;> omega
  intro ss sh
  unfold led
  rw [main, zero_ad]
theorem lead_sum (ss sh : List Pt) (q : Pt) : leadB ss sh q = (decide (((sh.zip ss).map fun z => wgt (prodB sh) z.1 * z.2.1).sum = prodB sh * q.1) && decide (((sh.zip ss).map fun z => wgt (prodB sh) z.1 * z.2.2).sum = prodB sh * q.2)) := by
  unfold leadB
  rw [led_sum, Bool.eq_iff_iff]
  simp only [decide_eq_true_eq, Bool.and_eq_true, Prod.mk.injEq]
  rw [Int.mul_comm q.1, Int.mul_comm q.2]
theorem corner_max {ss : List Pt} (h : SOk ss) (l : Pt) : maxL ((cor ss).map (dt l)) = reachI ss l := by
  have hne : (cor ss).map (dt l) ≠ [] := by
    intro z
    have := congrArg List.length z
    rw [List.length_map, cor_len] at this
    have := h.l1
    simp at *
    omega
  obtain ⟨m1, m2⟩ := maxL_is hne
  rw [reach_mx]
  apply Int.le_antisymm
  · obtain ⟨p, hp, e⟩ := List.mem_map.mp m1
    obtain ⟨k, hk, rfl⟩ := cor_mem.mp hp
    rw [← e, dt_line]
    exact cq_le h _ hk
  · obtain ⟨k, hk, e⟩ := h.top (l.2, -l.1)
    rw [← e, ← dt_line]
    exact m2 _ (List.mem_map.mpr ⟨_, cor_mem.mpr ⟨k, hk, rfl⟩, rfl⟩)
def GoodSh (ss sh : List Pt) (q : Pt) : Prop := sh.length = ss.length ∧ (∀ p ∈ sh, isS p = true ∧ p.2 ≤ 800) ∧ leadB ss sh q = true
theorem isS_bd {p : Pt} (h : isS p = true) (hb : p.2 ≤ 800) : Bd p := by
  have := isS_pos h
  unfold Bd
  have e : (2 : Nat) ^ 70 = 1180591620717411303424 := by decide
  rw [e]
  omega
def encL (sh : List Pt) : D := .list (sh.map eP)
theorem SOk.smE {ss : List Pt} (h : SOk ss) : (-200 ≤ (sm2 ss).1 ∧ (sm2 ss).1 ≤ 200) ∧ (-200 ≤ (sm2 ss).2 ∧ (sm2 ss).2 ≤ 200) := by
  have := sm2_bound ss h.nr
  have := h.l6
  omega
end MD
namespace MD
open PySem PySem.Spec L2
theorem var_own {i : Nat} {E : Ev} {l : List D} (h : E[i]? = some (some (.t (Tr.fl l)))) : mVar i E = some (.u (.list l)) := by
  unfold mVar
  rw [h]
  show some (R.u (Tr.fl l).d) = _
  rw [Td_fl]
theorem mMake1u {C : Addr} {ns : List Str} {g : List D → Option (List Tr)} {m : ME} {E : Ev} {l : List D} {Ts : List Tr} (h : m E = some (.u (.list l))) (hg : g [.list l] = some Ts) : mMake C 1 ns g (mCons m mNil) E = some (R.t (.obj C ns Ts)).taint := by
  unfold mMake mCons mNil
  rw [h]
  show (if [R.u (.list l)].length = 1 then (match pros [R.u (.list l)] with | some ds => (g ds).map fun Ts => R.t (.obj C ns Ts) | none => (g ([R.u (.list l)].map R.d)).map fun Ts => (R.t (.obj C ns Ts)).taint) else none) = _
  have e : pros [R.u (.list l)] = none := by
    rw [pros_cons, Rpro_u, flat_list]
    rfl
  rw [e]
  show (g [.list l]).map _ = _
  rw [hg]
  rfl
theorem make_pro (C : Addr) (ns : List Str) (sh : List Pt) : ((R.t (.obj C ns [Tr.fl (sh.map eP)])).taint).pro = some (.obj C ns [.list (sh.map eP)]) := by
  have hf : (Tr.obj C ns [Tr.fl (sh.map eP)]).fleaf = true := by
    have e := Tr.fleaf_fl (sh.map eP)
    rw [flats_P] at e
    simp [Tr.fleaf, Tr.fleafs, e]
  show (if (Tr.obj C ns [Tr.fl (sh.map eP)]).fleaf = true then R.t (Tr.obj C ns [Tr.fl (sh.map eP)]) else .u (Tr.obj C ns [Tr.fl (sh.map eP)]).d).pro = _
  rw [if_pos hf, Rpro_t]
  simp [Tr.d, Tr.ds, Td_fl]
theorem mCall3 {g : List D → Option R} {m m' m'' : ME} {E : Ev} {x y z r' : R} {d d' d'' : D} (h : m E = some x) (h' : m' E = some y) (h'' : m'' E = some z) (hp : x.pro = some d) (hp' : y.pro = some d') (hp'' : z.pro = some d'') (hg : g [d, d', d''] = some r') : mCall 3 g (mCons m (mCons m' (mCons m'' mNil))) E = some r'.up := by
  unfold mCall mCons mNil
  rw [h]
  show ((((m' E).bind fun x => (((m'' E).bind fun x => some [x]).bind fun xs => some (x :: xs))).bind fun xs => some (x :: xs)).bind _) = _
  rw [h']
  show (((((m'' E).bind fun x => some [x]).bind fun xs => some (y :: xs)).bind fun xs => some (x :: xs)).bind _) = _
  rw [h'']
  show (if [x, y, z].length = 3 then (match pros [x, y, z] with | some ds => (g ds).map R.up | none => (g ([x, y, z].map R.d)).map R.taint) else none) = _
  have e : pros [x, y, z] = some [d, d', d''] := by rw [pros_cons, pros_cons, pros_cons, hp, hp', hp'']; rfl
  rw [e]
  show (g [d, d', d'']).map R.up = _
  rw [hg]
  rfl
theorem mMeth2 {C : Addr} {mn : Str} {g : List D → Option R} {mo m' m'' : ME} {E : Ev} {x y z r' : R} {d d' d'' : D} {ns : List Str} {ds : List D} (h : mo E = some x) (hd : x.d = .obj C ns ds) (hn : mn ∉ ns) (h' : m' E = some y) (h'' : m'' E = some z) (hp : x.pro = some d) (hp' : y.pro = some d') (hp'' : z.pro = some d'') (hg : g [d, d', d''] = some r') : mMeth C mn 3 g mo (mCons m' (mCons m'' mNil)) E = some r'.up := by
  unfold mMeth
  rw [h]
  show (match x.d with | .obj C' ns _ => if C' = C ∧ mn ∉ ns then mCall 3 g (fun E => (mCons m' (mCons m'' mNil) E).bind fun rs => some (x :: rs)) E else none | _ => none) = _
  rw [hd]
  show (if C = C ∧ mn ∉ ns then mCall 3 g (fun E => (mCons m' (mCons m'' mNil) E).bind fun rs => some (x :: rs)) E else none) = _
  rw [if_pos ⟨rfl, hn⟩]
  have := mCall3 (g := g) (E := E) (m := fun _ => some x) (m' := m') (m'' := m'') rfl h' h'' hp hp' hp'' hg
  exact this
theorem mAndV_t {a b : ME} {E : Ev} {r : R} (h1 : a E = some (.c (.bool true))) (h2 : b E = some r) : mAndV a b E = some r := by unfold mAndV; rw [h1]; exact h2
end MD

namespace MD
open PySem PySem.Spec L2
/-! ### arguments without a star, many at once -/
def noStar : Expr → Bool
  | .Starred _ _ => false
  | _ => true
theorem star_of {a : Expr} {es : List Expr} {env : Env} (h : noStar a = true) : starEach (a :: es) env = (false, eval a env) :: starEach es env := by
  cases a with
  | Starred _ _ => cases h
  | _ => rfl
theorem m_acons1 {X : Cx} {a : Expr} {ma : ME} {es : List Expr} {n : MA} (ha : PE X a (tM X.K ma)) (hr : PA X es (tMA X.K n)) (h : noStar a = true := by rfl) : PA X (a :: es) (tMA X.K (mCons ma n)) := m_acons ha hr (star_of h)
theorem m_an2 {X : Cx} {a1 a2 : Expr} {m1 m2 : ME} (h1 : PE X a1 (tM X.K m1)) (h2 : PE X a2 (tM X.K m2)) (s1 : noStar a1 = true := by rfl) (s2 : noStar a2 = true := by rfl) : PA X [a1, a2] (tMA X.K (mCons m1 (mCons m2 mNil))) := (m_acons1 h1 (m_acons1 h2 m_anil s2) s1)
theorem m_an3 {X : Cx} {a1 a2 a3 : Expr} {m1 m2 m3 : ME} (h1 : PE X a1 (tM X.K m1)) (h2 : PE X a2 (tM X.K m2)) (h3 : PE X a3 (tM X.K m3)) (s1 : noStar a1 = true := by rfl) (s2 : noStar a2 = true := by rfl) (s3 : noStar a3 = true := by rfl) : PA X [a1, a2, a3] (tMA X.K (mCons m1 (mCons m2 (mCons m3 mNil)))) := (m_acons1 h1 (m_acons1 h2 (m_acons1 h3 m_anil s3) s2) s1)
theorem m_an4 {X : Cx} {a1 a2 a3 a4 : Expr} {m1 m2 m3 m4 : ME} (h1 : PE X a1 (tM X.K m1)) (h2 : PE X a2 (tM X.K m2)) (h3 : PE X a3 (tM X.K m3)) (h4 : PE X a4 (tM X.K m4)) (s1 : noStar a1 = true := by rfl) (s2 : noStar a2 = true := by rfl) (s3 : noStar a3 = true := by rfl) (s4 : noStar a4 = true := by rfl) : PA X [a1, a2, a3, a4] (tMA X.K (mCons m1 (mCons m2 (mCons m3 (mCons m4 mNil))))) := (m_acons1 h1 (m_acons1 h2 (m_acons1 h3 (m_acons1 h4 m_anil s4) s3) s2) s1)
theorem m_an5 {X : Cx} {a1 a2 a3 a4 a5 : Expr} {m1 m2 m3 m4 m5 : ME} (h1 : PE X a1 (tM X.K m1)) (h2 : PE X a2 (tM X.K m2)) (h3 : PE X a3 (tM X.K m3)) (h4 : PE X a4 (tM X.K m4)) (h5 : PE X a5 (tM X.K m5)) (s1 : noStar a1 = true := by rfl) (s2 : noStar a2 = true := by rfl) (s3 : noStar a3 = true := by rfl) (s4 : noStar a4 = true := by rfl) (s5 : noStar a5 = true := by rfl) : PA X [a1, a2, a3, a4, a5] (tMA X.K (mCons m1 (mCons m2 (mCons m3 (mCons m4 (mCons m5 mNil)))))) := (m_acons1 h1 (m_acons1 h2 (m_acons1 h3 (m_acons1 h4 (m_acons1 h5 m_anil s5) s4) s3) s2) s1)
theorem m_an8 {X : Cx} {a1 a2 a3 a4 a5 a6 a7 a8 : Expr} {m1 m2 m3 m4 m5 m6 m7 m8 : ME} (h1 : PE X a1 (tM X.K m1)) (h2 : PE X a2 (tM X.K m2)) (h3 : PE X a3 (tM X.K m3)) (h4 : PE X a4 (tM X.K m4)) (h5 : PE X a5 (tM X.K m5)) (h6 : PE X a6 (tM X.K m6)) (h7 : PE X a7 (tM X.K m7)) (h8 : PE X a8 (tM X.K m8)) (s1 : noStar a1 = true := by rfl) (s2 : noStar a2 = true := by rfl) (s3 : noStar a3 = true := by rfl) (s4 : noStar a4 = true := by rfl) (s5 : noStar a5 = true := by rfl) (s6 : noStar a6 = true := by rfl) (s7 : noStar a7 = true := by rfl) (s8 : noStar a8 = true := by rfl) : PA X [a1, a2, a3, a4, a5, a6, a7, a8] (tMA X.K (mCons m1 (mCons m2 (mCons m3 (mCons m4 (mCons m5 (mCons m6 (mCons m7 (mCons m8 mNil))))))))) := (m_acons1 h1 (m_acons1 h2 (m_acons1 h3 (m_acons1 h4 (m_acons1 h5 (m_acons1 h6 (m_acons1 h7 (m_acons1 h8 m_anil s8) s7) s6) s5) s4) s3) s2) s1)
theorem m_an9 {X : Cx} {a1 a2 a3 a4 a5 a6 a7 a8 a9 : Expr} {m1 m2 m3 m4 m5 m6 m7 m8 m9 : ME} (h1 : PE X a1 (tM X.K m1)) (h2 : PE X a2 (tM X.K m2)) (h3 : PE X a3 (tM X.K m3)) (h4 : PE X a4 (tM X.K m4)) (h5 : PE X a5 (tM X.K m5)) (h6 : PE X a6 (tM X.K m6)) (h7 : PE X a7 (tM X.K m7)) (h8 : PE X a8 (tM X.K m8)) (h9 : PE X a9 (tM X.K m9)) (s1 : noStar a1 = true := by rfl) (s2 : noStar a2 = true := by rfl) (s3 : noStar a3 = true := by rfl) (s4 : noStar a4 = true := by rfl) (s5 : noStar a5 = true := by rfl) (s6 : noStar a6 = true := by rfl) (s7 : noStar a7 = true := by rfl) (s8 : noStar a8 = true := by rfl) (s9 : noStar a9 = true := by rfl) : PA X [a1, a2, a3, a4, a5, a6, a7, a8, a9] (tMA X.K (mCons m1 (mCons m2 (mCons m3 (mCons m4 (mCons m5 (mCons m6 (mCons m7 (mCons m8 (mCons m9 mNil)))))))))) := (m_acons1 h1 (m_acons1 h2 (m_acons1 h3 (m_acons1 h4 (m_acons1 h5 (m_acons1 h6 (m_acons1 h7 (m_acons1 h8 (m_acons1 h9 m_anil s9) s8) s7) s6) s5) s4) s3) s2) s1)
theorem fsi_L {l : List Expr} {p : Pos} {env : Env} : ∀ x, foldedSetIterable (.List l p) env x = pure x := fun _ => rfl
theorem fsi_K {f : Expr} {l : List Expr} {k : List Keyword} {p : Pos} {env : Env} : ∀ x, foldedSetIterable (.Call f l k p) env x = pure x := fun _ => rfl
theorem fsi_N {x0 : Str} {p : Pos} {env : Env} : ∀ x, foldedSetIterable (.Name x0 p) env x = pure x := fun _ => rfl
end MD

namespace MD
open PySem PySem.Spec L2
/-! ### small steps of mirrors -/
theorem mLst_o {n : MA} {E : Ev} {rs : List R} {ds : List D} (h : n E = some rs) (hl : rs.length ≤ lim) (hp : pros rs = some ds) : mLst n E = some (.o ds) := by
  unfold mLst
  rw [h]
  show (if rs.length ≤ lim then (pros rs).map R.o else none) = _
  rw [if_pos hl, hp]
  rfl
theorem mCons_eq {m : ME} {n : MA} {E : Ev} {x : R} {xs : List R} (h : m E = some x) (h' : n E = some xs) : mCons m n E = some (x :: xs) := by
  unfold mCons
  rw [h]
  show (n E).bind _ = _
  rw [h']
  rfl
theorem mNil_eq (E : Ev) : mNil E = some [] := rfl
theorem flat_rep {α : Type} (d : α) : ∀ n : Nat, (List.replicate n [d]).flatten = List.replicate n d
  | 0 => rfl
  | n + 1 => by rw [List.replicate_succ, List.flatten_cons, flat_rep d n]; rfl
theorem rep_cond {n : Nat} (h : n ≤ 1000) : 0 ≤ (n : Int) ∧ (n : Int) < 2 ^ 63 ∧ 1 * (n : Int).toNat ≤ lim := ⟨by omega, by omega, by rw [Int.toNat_natCast, Nat.one_mul]; exact Nat.le_trans h (by decide)⟩
theorem rep_o (d : D) (n : Nat) (h : n ≤ 1000) : gRep (.o [d]) (.c (.int n)) = some (.o (List.replicate n d)) := by
  have e : gRep (.o [d]) (.c (.int n)) = if 0 ≤ (n : Int) ∧ (n : Int) < 2 ^ 63 ∧ (Tr.ds ([d].map .leaf)).length * (n : Int).toNat ≤ lim then some (R.o (List.replicate (n : Int).toNat (Tr.ds ([d].map .leaf))).flatten) else none := rfl
  rw [e, ds_leaf, List.length_singleton, if_pos (rep_cond h), Int.toNat_natCast, flat_rep]
theorem mAlt_l {m1 m2 : ME} {E : Ev} {r : R} (h : m1 E = some r) : mAlt m1 m2 E = some r := by unfold mAlt; rw [h]
theorem mAlt_r {m1 m2 : ME} {E : Ev} {x : Option R} (h : m1 E = none) (h2 : m2 E = x) : mAlt m1 m2 E = x := by unfold mAlt; rw [h]; exact h2
theorem mMeth_none {C C' : Addr} {mn : Str} {n0 : Nat} {g : List D → Option R} {mo : ME} {n : MA} {E : Ev} {x : R} {ns : List Str} {ds : List D} (h : mo E = some x) (hd : x.d = .obj C' ns ds) (hc : C' ≠ C) : mMeth C mn n0 g mo n E = none := by
  unfold mMeth
  rw [h]
  show (match x.d with | .obj C' ns _ => if C' = C ∧ mn ∉ ns then mCall n0 g (fun E => (n E).bind fun rs => some (x :: rs)) E else none | _ => none) = _
  rw [hd]
  show (if C' = C ∧ mn ∉ ns then _ else none) = _
  rw [if_neg fun z => hc z.1]
theorem sl_eq {m : ME} {ml mh : Ev → Option (Option Int)} {E : Ev} {x : R} {lo hi : Option Int} (h : m E = some x) (hl : ml E = some lo) (hh : mh E = some hi) : mSl m ml mh E = gCut x lo hi := by
  unfold mSl
  rw [h]
  show (ml E).bind _ = _
  rw [hl]
  show (mh E).bind _ = _
  rw [hh]
  rfl
theorem asgO_eq {i : Nat} {m : ME} {E : Ev} {l : List D} (h : m E = some (.o l)) : mAsgO i m E = some (.nx (E.set i (some (.t (Tr.fl l))))) := by
  unfold mAsgO
  rw [h]
  rfl
theorem rep_map {α : Type} (n : Nat) (a : α) (f : α → D) : List.replicate n (f a) = (List.replicate n a).map f := by rw [List.map_replicate]
theorem gNe_same {x y : R} {d : D} (hx : x.d = d) (hy : y.d = d) (ok : okD d = true) (e : deq d d = true) : gNe x y = some (.c (.bool false)) := by
  unfold gNe
  rw [hx, hy, ok, e]
  rfl
theorem mCallN {n : Nat} {g : List D → Option R} {m : MA} {E : Ev} {rs : List R} {ds : List D} {r' : R} (h : m E = some rs) (hl : rs.length = n) (hp : pros rs = some ds) (hg : g ds = some r') : mCall n g m E = some r'.up := by
  unfold mCall
  rw [h]
  show (if rs.length = n then (match pros rs with | some ds => (g ds).map R.up | none => _) else none) = _
  rw [if_pos hl, hp]
  show (g ds).map R.up = _
  rw [hg]
  rfl
theorem upo_pro (C : Addr) (ns : List Str) (sh : List Pt) : ((R.t (.obj C ns [Tr.fl (sh.map eP)])).up).pro = some (.obj C ns [.list (sh.map eP)]) := by
  show (R.t (Tr.obj C ns [Tr.fl (sh.map eP)])).pro = _
  rw [Rpro_t]
  simp [Tr.d, Tr.ds, Td_fl]
end MD

namespace k06
open PySem PySem.Spec L2 MD
def top (i : Nat) : Stmt := PySem.Challenge.pw_stickbodies_k06_points_by_hand.main.body.getD i (.Pass ⟨0, 0, 0, 0⟩)
def inC (s : Stmt) (j : Nat) : Stmt := match s with | .ClassDef _ _ _ b _ _ _ _ _ _ _ => b.getD j (.Pass ⟨0, 0, 0, 0⟩) | _ => s
local macro_rules | `(tactic| walk_at "ev") => `(tactic| simp [mSeq, mRet, mIfS, mAsgV, mAsgO, mOp, mUn, mVar, mC, mAndV, mOrV, mNotV, mTAnd, mTOr, mTNot, mB, mIf, mCall, mCl, mNil, mCons, mTup, mLst, mNext, mNo, mChain, gI, gIc, gAdd, MD.gSub, gLt, gLe, gGt, gGe, gMul, gDiv, gMod, gPow, gNeg, gEq, gNe, gAbs, gMax2, Rd_c, Rd_u, Rd_t, Rd_o, Rcl_c, Rcl_u, Rcl_t, Rcl_o, Rtr_b, Rup_c, Rup_u, Rup_t, Rup_o, Rpro_c, Rpro_o, Rpro_t, Rpro_u, Rtaint_o, Rtaint_c, Rmk_t, Rmk_f, pros_nil, pros_cons, sh_int, sh_bool, sh_P, sh_L, eqv_int, eqv_bool, eqv_P, eqv_L, flat_int, flat_bool, flat_list, flat_P, flats_P, ix_P0, ix_P1, tup_P, Td_fl, Td_pair, rAsgO_o, rAsgO_t, mPar, mRetO, mRetP, mSl, mNoPart, mPart, cut_c, list_c, ix_T0, sh_nil, sh_ints, eqv_ints_nil, eqv_L_nil, flat_PP, startE, lim, isi_P, len_P, isi_L, isi_Lu, isi_Tu, len_L, len_Lu, len_Lo, len_Tu, any_o, all_o, sum_o, sum_c, in_L, setAllE, wipeE, mDrop, mAug, gDivB, mParO, dt, *])
structure Txt (K : PySem.W.Frag) (mg : Str → Option Value) (C_Shares C_Apart : Addr) : Prop where
  b_abs : mg "abs" = none
  b_all : mg "all" = none
  b_any : mg "any" = none
  b_bool : mg "bool" = none
  b_int : mg "int" = none
  b_isinstance : mg "isinstance" = none
  b_len : mg "len" = none
  b_list : mg "list" = none
  b_max : mg "max" = none
  b_range : mg "range" = none
  b_sum : mg "sum" = none
  b_tuple : mg "tuple" = none
  b_zip : mg "zip" = none
  c_FARTHEST : ∃ t, mg "FARTHEST" = some (.int 20 t)
  c_MOST_STICKS : ∃ t, mg "MOST_STICKS" = some (.int 6 t)
  t_ALL_OF_IT : ∃ t o its n, mg "ALL_OF_IT" = some (.ref t) ∧ K.lookup t = some o ∧ o.cls = .type "tuple" ∧ o.data = .seq its n ∧ its.size ≤ sizeLine ∧ Vals (([1, 1] : List Int).map V.int) its.toList
  t_NONE_OF_IT : ∃ t o its n, mg "NONE_OF_IT" = some (.ref t) ∧ K.lookup t = some o ∧ o.cls = .type "tuple" ∧ o.data = .seq its n ∧ its.size ≤ sizeLine ∧ Vals (([0, 1] : List Int).map V.int) its.toList
  mc_Shares : mg "Shares" = some (.ref C_Shares)
  cl_Shares : Cls K C_Shares
  ci_Shares : ClsI K C_Shares
  mc_Apart : mg "Apart" = some (.ref C_Apart)
  cl_Apart : Cls K C_Apart
  ci_Apart : ClsI K C_Apart
  na_Apart_line : NoAttr K C_Apart "line"
  na_Shares_shares : NoAttr K C_Shares "shares"
  ki_Apart_Shares : PySem.W.kitOne K (.ref C_Apart) (.ref C_Shares) = some false
  ki_Shares_Shares : PySem.W.kitOne K (.ref C_Shares) (.ref C_Shares) = some true
section
variable {P : Program} {w : World} {K : PySem.W.Frag} {mg : Str → Option Value} {base : Heap} {C_Shares C_Apart : Addr}
abbrev s_is_number : Stmt := top 7
abbrev N_is_number : List Str := ["value"]
def Sp_is_number (g : List D → Option R) : Prop := ∀ n : Int, g [.int n] = some (.c (.bool true))
theorem sc_is_number : FnScope N_is_number ["value"] (defScope s_is_number) := ⟨rfl, rfl, rfl, by decide +kernel, rfl, by decide +kernel, by decide +kernel⟩
set_option maxHeartbeats 4000000 in
theorem ok_is_number (T : Txt K mg C_Shares C_Apart) (F : FunG K mg "is_number" s_is_number ["value"]) : ∃ g, Cal P w K mg base "is_number" 1 ["value"] g ∧ Sp_is_number g := by
  refine cal_ex F sc_is_number (fun f cdv A outer s H E hr => (m_sone (m_ret (m_and (m_isi .int T.b_isinstance T.b_int (m_var (pv 0))) (m_one (m_not (m_isi .bool T.b_isinstance T.b_bool (m_var (pv 0))))))))) ?_
  intro n
  exact runD_eq (r := .c (.bool true)) rfl
abbrev s_is_point : Stmt := top 8
abbrev N_is_point : List Str := ["value"]
def Sp_is_point (g : List D → Option R) : Prop := ∀ p : Pt, g [eP p] = some (.c (.bool true))
theorem sc_is_point : FnScope N_is_point ["value"] (defScope s_is_point) := ⟨rfl, rfl, rfl, by decide +kernel, rfl, by decide +kernel, by decide +kernel⟩
set_option maxHeartbeats 4000000 in
theorem ok_is_point (T : Txt K mg C_Shares C_Apart) (F : FunG K mg "is_point" s_is_point ["value"]) {g_is_number : List D → Option R} (C_is_number : Cal P w K mg base "is_number" 1 ["value"] g_is_number) (H_is_number : Sp_is_number g_is_number) : ∃ g, Cal P w K mg base "is_point" 2 ["value"] g ∧ Sp_is_point g := by
  refine cal_ex F sc_is_point (fun f cdv A outer s H E hr => (m_sone (m_ret (m_and (m_isi .tuple T.b_isinstance T.b_tuple (m_var (pv 0))) (m_and (m_cmp (op_eqD hr.units) s_eq (m_callB call_len_seq s_len T.b_len (m_acons1 (m_var (pv 0)) m_anil)) m_int (nomark _)) (m_and (m_callC C_is_number (hr.mono (by decide)) (m_acons1 (m_ix (m_var (pv 0)) m_int) m_anil)) (m_one (m_callC C_is_number (hr.mono (by decide)) (m_acons1 (m_ix (m_var (pv 0)) m_int) m_anil))))))))) ?_
  intro p
  refine runD_eq (r := .c (.bool true)) ?_
  have h1 := H_is_number p.1
  have h2 := H_is_number p.2
  walk_at "ev"
abbrev s_is_near : Stmt := top 9
abbrev N_is_near : List Str := ["value"]
def Sp_is_near (g : List D → Option R) : Prop := ∀ p : Pt, g [eP p] = some (.c (.bool (near p)))
theorem sc_is_near : FnScope N_is_near ["value"] (defScope s_is_near) := ⟨rfl, rfl, rfl, by decide +kernel, rfl, by decide +kernel, by decide +kernel⟩
set_option maxHeartbeats 4000000 in
theorem ok_is_near (T : Txt K mg C_Shares C_Apart) (F : FunG K mg "is_near" s_is_near ["value"]) {g_is_point : List D → Option R} (C_is_point : Cal P w K mg base "is_point" 2 ["value"] g_is_point) (H_is_point : Sp_is_point g_is_point) : ∃ g, Cal P w K mg base "is_near" 3 ["value"] g ∧ Sp_is_near g := by
  refine cal_ex F sc_is_near (fun f cdv A outer s H E hr => (m_sone (m_ret (m_and (m_callC C_is_point (hr.mono (by decide)) (m_acons1 (m_var (pv 0)) m_anil)) (m_and (m_cmp op_le s_le (m_callB call_abs s_abs T.b_abs (m_acons1 (m_ix (m_var (pv 0)) m_int) m_anil)) (m_gint T.c_FARTHEST) (nomark _)) (m_one (m_cmp op_le s_le (m_callB call_abs s_abs T.b_abs (m_acons1 (m_ix (m_var (pv 0)) m_int) m_anil)) (m_gint T.c_FARTHEST) (nomark _)))))))) ?_
  intro p
  have h := H_is_point p
  refine runD_eq (r := .c (.bool (near p))) ?_
  walk_at "ev"
  unfold near absI
  by_cases a : (if p.1 < 0 then -p.1 else p.1) ≤ 20 <;> by_cases b : (if p.2 < 0 then -p.2 else p.2) ≤ 20 <;> simp [a, b, Rup_c]
abbrev s_greatest_into : Stmt := top 10
abbrev N_greatest_into : List Str := ["one", "other"]
def Sp_greatest_into (g : List D → Option R) : Prop := ∀ a b : Nat, g [.int a, .int b] = some (.c (.int (Nat.gcd a b : Nat)))
theorem sc_greatest_into : FnScope N_greatest_into ["one", "other"] (defScope s_greatest_into) := ⟨rfl, rfl, rfl, by decide +kernel, rfl, by decide +kernel, by decide +kernel⟩
set_option maxHeartbeats 4000000 in
theorem ok_greatest_into (T : Txt K mg C_Shares C_Apart) (F : FunG K mg "greatest_into" s_greatest_into ["one", "other"]) : ∃ g, Cal P w K mg base "greatest_into" 1 ["one", "other"] g ∧ Sp_greatest_into g := by
  refine cal_ex F sc_greatest_into (fun f cdv A outer s H E hr => (m_cons (m_while PassesOwn.never (m_tcmp (op_neD hr.units) s_ne (m_var (pv 1)) m_int (nomark _))
    (m_sone (m_par (i := 0) (j := 1) rfl sc_greatest_into.nd (m_an2 (m_var (pv 1)) (m_op op_mod s_mod (m_var (pv 0)) (m_var (pv 1)))))))
    (m_sone (m_ret (m_callB call_abs s_abs T.b_abs (m_acons1 (m_var (pv 0)) m_anil)))))) ?_
  intro a b
  refine runD_to ?_
  refine mSeq_ex (P := fun E => E = [some (.v (.int (Nat.gcd a b : Nat))), some (.v (.int 0))]) ?_ ?_
  · refine mWhile_ex (fun E => ∃ x y : Nat, E = [some (.v (.int x)), some (.v (.int y))] ∧ Nat.gcd x y = Nat.gcd a b) (fun E => match E with | [_, some (.v (.int y))] => y.toNat | _ => 0) ⟨a, b, rfl, rfl⟩ ?_ ?_
    · rintro E ⟨x, y, rfl, hg⟩
      by_cases hy : y = 0
      · subst hy
        left
        walk_at "ev"
      · right
        have h0 : ¬ ((y : Int) = 0) := by omega
        have hp : 0 < y := by omega
        refine ⟨by walk_at "ev", [some (.v (.int y)), some (.v (.int ((x % y : Nat) : Int)))], ?_, ⟨y, x % y, rfl, ?_⟩, ?_⟩
        · walk_at "ev"
        · rw [← hg, Nat.gcd_comm x y, Nat.gcd_rec y x, Nat.gcd_comm]
        · show ((x % y : Nat) : Int).toNat < (y : Int).toNat
          have := Nat.mod_lt x hp
          omega
    · rintro E ⟨x, y, rfl, hg⟩ h3
      have hy : y = 0 := by
        apply Classical.byContradiction
        intro hy
        have : ¬ ((y : Int) = 0) := by omega
        revert h3
        walk_at "ev"
      subst hy
      rw [Nat.gcd_zero_right] at hg
      rw [hg]
      rfl
  · rintro E rfl
    refine ⟨.rt (.c (.int (Nat.gcd a b : Nat))), ?_, _, rfl, rfl⟩
    have : ¬ ((Nat.gcd a b : Nat) : Int) < 0 := by omega
    walk_at "ev"
abbrev s_span : Stmt := top 11
abbrev N_span : List Str := ["one", "other"]
def Sp_span (g : List D → Option R) : Prop := ∀ p q : Pt, (Sm p ∨ Sm q) → g [eP p, eP q] = some (.c (.int (sp p q)))
theorem sc_span : FnScope N_span ["one", "other"] (defScope s_span) := ⟨rfl, rfl, rfl, by decide +kernel, rfl, by decide +kernel, by decide +kernel⟩
set_option maxHeartbeats 4000000 in
theorem ok_span (T : Txt K mg C_Shares C_Apart) (F : FunG K mg "span" s_span ["one", "other"]) : ∃ g, Cal P w K mg base "span" 1 ["one", "other"] g ∧ Sp_span g := by
  refine cal_ex F sc_span (fun f cdv A outer s H E hr => (m_sone (m_ret (m_op op_sub s_sub (m_op op_mulB s_mul (m_ix (m_var (pv 0)) m_int) (m_ix (m_var (pv 1)) m_int)) (m_op op_mulB s_mul (m_ix (m_var (pv 0)) m_int) (m_ix (m_var (pv 1)) m_int)))))) ?_
  intro p q hq
  refine runD_eq (r := .c (.int (sp p q))) ?_
  have h1 : mulOk p.1 q.2 = true := hq.elim (fun h => mul_l h.1) (fun h => mul_r h.2)
  have h2 : mulOk p.2 q.1 = true := hq.elim (fun h => mul_l h.2) (fun h => mul_r h.1)
  walk_at "ev"
  rfl
abbrev s_stands : Stmt := top 12
abbrev N_stands : List Str := ["stick"]
def Sp_stands (g : List D → Option R) : Prop := ∀ p : Pt, g [eP p] = some (.c (.bool (std p)))
theorem sc_stands : FnScope N_stands ["stick"] (defScope s_stands) := ⟨rfl, rfl, rfl, by decide +kernel, rfl, by decide +kernel, by decide +kernel⟩
set_option maxHeartbeats 4000000 in
theorem ok_stands (T : Txt K mg C_Shares C_Apart) (F : FunG K mg "stands" s_stands ["stick"]) : ∃ g, Cal P w K mg base "stands" 1 ["stick"] g ∧ Sp_stands g := by
  refine cal_ex F sc_stands (fun f cdv A outer s H E hr => (m_sone (m_ret (m_or (m_cmp op_gt s_gt (m_ix (m_var (pv 0)) m_int) m_int (nomark _)) (m_one (m_and (m_cmp (op_eqD hr.units) s_eq (m_ix (m_var (pv 0)) m_int) m_int (nomark _)) (m_one (m_cmp op_gt s_gt (m_ix (m_var (pv 0)) m_int) m_int (nomark _))))))))) ?_
  intro p
  refine runD_eq (r := .c (.bool (std p))) ?_
  walk_at "ev"
  unfold std
  by_cases h1 : 0 < p.2 <;> by_cases h2 : p.2 = 0 <;> simp [h1, h2, Rup_c]
abbrev s_put_together : Stmt := top 13
abbrev N_put_together : List Str := ["one", "other"]
def Sp_put_together (g : List D → Option R) : Prop := ∀ p q : Pt, g [eP p, eP q] = some (.c (eP (ad p q)))
theorem sc_put_together : FnScope N_put_together ["one", "other"] (defScope s_put_together) := ⟨rfl, rfl, rfl, by decide +kernel, rfl, by decide +kernel, by decide +kernel⟩
set_option maxHeartbeats 4000000 in
theorem ok_put_together (T : Txt K mg C_Shares C_Apart) (F : FunG K mg "put_together" s_put_together ["one", "other"]) : ∃ g, Cal P w K mg base "put_together" 1 ["one", "other"] g ∧ Sp_put_together g := by
  refine cal_ex F sc_put_together (fun f cdv A outer s H E hr => (m_sone (m_ret (m_tup (m_an2 (m_op op_addG s_add (m_ix (m_var (pv 0)) m_int) (m_ix (m_var (pv 1)) m_int)) (m_op op_addG s_add (m_ix (m_var (pv 0)) m_int) (m_ix (m_var (pv 1)) m_int))))))) ?_
  intro p q
  refine runD_eq (r := .c (eP (ad p q))) ?_
  walk_at "ev"
  rfl
abbrev s_taken_back : Stmt := top 14
abbrev N_taken_back : List Str := ["one", "other"]
def Sp_taken_back (g : List D → Option R) : Prop := ∀ p q : Pt, g [eP p, eP q] = some (.c (eP (sb p q)))
theorem sc_taken_back : FnScope N_taken_back ["one", "other"] (defScope s_taken_back) := ⟨rfl, rfl, rfl, by decide +kernel, rfl, by decide +kernel, by decide +kernel⟩
set_option maxHeartbeats 4000000 in
theorem ok_taken_back (T : Txt K mg C_Shares C_Apart) (F : FunG K mg "taken_back" s_taken_back ["one", "other"]) : ∃ g, Cal P w K mg base "taken_back" 1 ["one", "other"] g ∧ Sp_taken_back g := by
  refine cal_ex F sc_taken_back (fun f cdv A outer s H E hr => (m_sone (m_ret (m_tup (m_an2 (m_op op_sub s_sub (m_ix (m_var (pv 0)) m_int) (m_ix (m_var (pv 1)) m_int)) (m_op op_sub s_sub (m_ix (m_var (pv 0)) m_int) (m_ix (m_var (pv 1)) m_int))))))) ?_
  intro p q
  refine runD_eq (r := .c (eP (sb p q))) ?_
  walk_at "ev"
  rfl
abbrev s_longer : Stmt := top 15
abbrev N_longer : List Str := ["stick", "times"]
def Sp_longer (g : List D → Option R) : Prop := ∀ (p : Pt) (t : Int), Sm p → g [eP p, .int t] = some (.c (eP (p.1 * t, p.2 * t)))
theorem sc_longer : FnScope N_longer ["stick", "times"] (defScope s_longer) := ⟨rfl, rfl, rfl, by decide +kernel, rfl, by decide +kernel, by decide +kernel⟩
set_option maxHeartbeats 4000000 in
theorem ok_longer (T : Txt K mg C_Shares C_Apart) (F : FunG K mg "longer" s_longer ["stick", "times"]) : ∃ g, Cal P w K mg base "longer" 1 ["stick", "times"] g ∧ Sp_longer g := by
  refine cal_ex F sc_longer (fun f cdv A outer s H E hr => (m_sone (m_ret (m_tup (m_an2 (m_op op_mulB s_mul (m_ix (m_var (pv 0)) m_int) (m_var (pv 1))) (m_op op_mulB s_mul (m_ix (m_var (pv 0)) m_int) (m_var (pv 1)))))))) ?_
  intro p t hp
  refine runD_eq (r := .c (eP (p.1 * t, p.2 * t))) ?_
  have h1 : mulOk p.1 t = true := mul_l hp.1
  have h2 : mulOk p.2 t = true := mul_l hp.2
  walk_at "ev"
abbrev s_all_together : Stmt := top 16
abbrev N_all_together : List Str := ["sticks", "led", "stick"]
def Sp_all_together (g : List D → Option R) : Prop := ∀ ps : List Pt, g [.list (ps.map eP)] = some (.c (eP (sm2 ps)))
theorem sc_all_together : FnScope N_all_together ["sticks"] (defScope s_all_together) := ⟨rfl, rfl, rfl, by decide +kernel, rfl, by decide +kernel, by decide +kernel⟩
set_option maxHeartbeats 4000000 in
theorem ok_all_together (T : Txt K mg C_Shares C_Apart) (F : FunG K mg "all_together" s_all_together ["sticks"]) {g_put_together : List D → Option R} (C_put_together : Cal P w K mg base "put_together" 1 ["one", "other"] g_put_together) (H_put_together : Sp_put_together g_put_together) : ∃ g, Cal P w K mg base "all_together" 2 ["sticks"] g ∧ Sp_all_together g := by
  refine cal_ex F sc_all_together (fun f cdv A outer s H E hr => (m_cons (m_set (i := 1) sc_all_together.nd (m_tup (m_an2 m_int m_int)))
    (m_cons (m_for (tg1 2) PassesOwn.never rfl (m_ilist (m_var (pv 0))) (pg_name (i := 2) sc_all_together.nd rfl (by first | exact Or.inl rfl | exact Or.inr rfl))
    (m_sone (m_set (i := 1) sc_all_together.nd (m_callC C_put_together (hr.mono (by decide)) (m_an2 (m_var (pv 1)) (m_var (pv 2)))))) fsi_N)
    (m_sone (m_ret (m_var (pv 1))))))) ?_
  intro ps
  refine runD_eq (r := .c (eP (sm2 ps))) ?_
  walk_at "ev"
  refine bind_nx (mFor_ind (l := ps) (enc := eP) (fun pre E => ∃ j, E = [some (Sl.v (D.list (ps.map eP))), some (Sl.v (eP (sm2 pre))), j]) rfl ⟨none, rfl⟩ ?_) ?_
  · rintro pre a E ha _ _ ⟨j, rfl⟩
    have e := H_put_together (sm2 pre) a
    rw [sm2_snoc]
    exact ⟨_, by walk_at "ev"; rfl, ⟨_, rfl⟩⟩
  · rintro E ⟨j, rfl⟩
    walk_at "ev"
abbrev s_along : Stmt := top 17
abbrev N_along : List Str := ["line", "point"]
def Sp_along (g : List D → Option R) : Prop := ∀ p q : Pt, (Sm p ∨ Sm q) → g [eP p, eP q] = some (.c (.int (dt p q)))
theorem sc_along : FnScope N_along ["line", "point"] (defScope s_along) := ⟨rfl, rfl, rfl, by decide +kernel, rfl, by decide +kernel, by decide +kernel⟩
set_option maxHeartbeats 4000000 in
theorem ok_along (T : Txt K mg C_Shares C_Apart) (F : FunG K mg "along" s_along ["line", "point"]) : ∃ g, Cal P w K mg base "along" 1 ["line", "point"] g ∧ Sp_along g := by
  refine cal_ex F sc_along (fun f cdv A outer s H E hr => (m_sone (m_ret (m_op op_addG s_add (m_op op_mulB s_mul (m_ix (m_var (pv 0)) m_int) (m_ix (m_var (pv 1)) m_int)) (m_op op_mulB s_mul (m_ix (m_var (pv 0)) m_int) (m_ix (m_var (pv 1)) m_int)))))) ?_
  intro p q hq
  refine runD_eq (r := .c (.int (dt p q))) ?_
  have h1 : mulOk p.1 q.1 = true := hq.elim (fun h => mul_l h.1) (fun h => mul_r h.1)
  have h2 : mulOk p.2 q.2 = true := hq.elim (fun h => mul_l h.2) (fun h => mul_r h.2)
  walk_at "ev"
abbrev s_twos : Stmt := top 18
abbrev N_twos : List Str := ["many", "i", "j"]
def Sp_twos (g : List D → Option R) : Prop := ∀ n : Nat, n ≤ 6 → g [.int n] = some (.o ((pairs n).map enc2))
theorem sc_twos : FnScope N_twos ["many"] (defScope s_twos) := ⟨rfl, rfl, rfl, by decide +kernel, rfl, by decide +kernel, by decide +kernel⟩
set_option maxHeartbeats 4000000 in
theorem ok_twos (T : Txt K mg C_Shares C_Apart) (F : FunG K mg "twos" s_twos ["many"]) : ∃ g, Cal P w K mg base "twos" 1 ["many"] g ∧ Sp_twos g := by
  refine cal_ex F sc_twos (fun f cdv A outer s H E hr => (m_sone (m_ret (m_lc2 (own := [("i", 1), ("j", 2)]) rfl sc_twos.nd (tg1 1) (tg1 2) (by decide) (by decide) (m_irange1 T.b_range (m_acons1 (m_var (pv 0)) m_anil)) (blkOk_by (own := [("i", 1), ("j", 2)]) (N := N_twos) (sc := defScope s_twos) (by decide +kernel)) (fun _ _ _ _ _ => (pg_name (i := 1) sc_twos.nd rfl (by first | exact Or.inl rfl | exact Or.inr rfl))) (fun _ _ _ _ _ => m_pts0) (fun _ _ _ _ _ => (m_irange2 T.b_range (m_an2 (m_op op_addG s_add (m_var (pv 1)) m_int) (m_var (pv 0))))) (fun _ _ _ _ _ => (pg_name (i := 2) sc_twos.nd rfl (by first | exact Or.inl rfl | exact Or.inr rfl))) (fun _ _ _ _ _ => m_pts0) (fun _ _ _ _ _ => (m_lst (m_an2 (m_var (pv 1)) (m_var (pv 2))))))))) ?_
  intro n hn
  refine runD_to ?_
  refine ⟨_, mRet_eq (r := .o ((pairs n).map enc2)) ?_, _, rfl, rfl⟩
  have hr : mIR1 (mCons (mVar 0) mNil) (startE N_twos [.int n]) = some (true, (List.range n).map fun (i : Nat) => D.int (0 + (i : Int))) := by
    refine (mIR1_eq (j := n) (by walk_at "ev" <;> rfl) (by unfold big62; apply decide_eq_true; omega)).trans ?_
    rw [Int.toNat_natCast]
  have key : ∀ me mi1, (∀ i ∈ List.range n, mIn [2] pick1 mi1 mYes me (setAllE (wipeE (startE N_twos [.int n]) [1, 2]) [1] [D.int (0 + (i : Int))]) = some ((List.range (n - (i + 1))).map fun k => enc2 (i, i + 1 + k))) → mLc22 [1, 2] [1] pick1 (mIR1 (mCons (mVar 0) mNil)) mYes [2] pick1 mi1 mYes me (startE N_twos [.int n]) = some (.o ((pairs n).map enc2)) := by
    intro me mi1 h
    unfold mLc22
    rw [hr]
    show (lc2D [1] pick1 true mYes (mIn [2] pick1 mi1 mYes me) (wipeE (startE N_twos [.int n]) [1, 2]) ((List.range n).map fun (i : Nat) => D.int (0 + (i : Int)))).bind _ = _
    rw [lc2D_map (b := fun _ => true) (qs := fun (i : Nat) => [D.int (0 + (i : Int))]) (y := fun i => (List.range (n - (i + 1))).map fun k => enc2 (i, i + 1 + k)) (List.range n) fun i hi => ⟨rfl, rfl, fun _ => h i hi⟩, filter_true]
    rw [pairs_enc]
    show (if ((pairs n).map enc2).length ≤ lim then _ else none) = _
    rw [if_pos (by rw [List.length_map]; exact Nat.le_trans (pairs_len n hn) (by decide))]
  refine key _ _ fun i hi => ?_
  have hi := List.mem_range.mp hi
  unfold mIn
  have hr2 : mIR2 (mCons (mOp gAdd (mVar 1) (mC (D.int 1))) (mCons (mVar 0) mNil)) (setAllE (wipeE (startE N_twos [.int n]) [1, 2]) [1] [D.int (0 + (i : Int))]) = some (true, (List.range (n - (i + 1))).map fun (k : Nat) => D.int ((0 + (i : Int) + 1) + (k : Int))) := by
    refine (mIR2_eq (lo := 0 + (i : Int) + 1) (hi := n) (by walk_at "ev" <;> rfl) (by unfold big62; apply decide_eq_true; omega) (by unfold big62; apply decide_eq_true; omega)).trans ?_
    rw [show ((n : Int) - (0 + (i : Int) + 1)).toNat = n - (i + 1) by omega]
  rw [hr2]
  show lcD [2] pick1 true _ _ _ _ = _
  rw [lcD_map (b := fun _ => true) (y := fun k => enc2 (i, i + 1 + k)) (qs := fun (k : Nat) => [D.int ((0 + (i : Int) + 1) + (k : Int))]) (List.range (n - (i + 1))) fun k hk => ⟨rfl, rfl, rfl, fun _ => ⟨.o [.int i, .int ((i + 1 + k : Nat) : Int)], ?_, Rpro_o _⟩⟩, filter_true]
  have e : (0 + (i : Int) + 1 + (k : Int)) = ((i + 1 + k : Nat) : Int) := by omega
  rw [e]
  walk_at "ev" <;> rfl
abbrev s_are_near : Stmt := top 19
abbrev N_are_near : List Str := ["value", "pair"]
def Sp_are_near (g : List D → Option R) : Prop := ∀ ps : List Pt, 1 ≤ ps.length → ps.length ≤ 6 → (∀ p ∈ ps, near p = true) → g [.list (ps.map eP)] = some (.c (.bool true))
theorem sc_are_near : FnScope N_are_near ["value"] (defScope s_are_near) := ⟨rfl, rfl, rfl, by decide +kernel, rfl, by decide +kernel, by decide +kernel⟩
set_option maxHeartbeats 4000000 in
theorem ok_are_near (T : Txt K mg C_Shares C_Apart) (F : FunG K mg "are_near" s_are_near ["value"]) {g_is_near : List D → Option R} (C_is_near : Cal P w K mg base "is_near" 3 ["value"] g_is_near) (H_is_near : Sp_is_near g_is_near) : ∃ g, Cal P w K mg base "are_near" 4 ["value"] g ∧ Sp_are_near g := by
  refine cal_ex F sc_are_near (fun f cdv A outer s H E hr => (m_cons (m_if (PW.pt (m_wor (m_tnot (m_tval (m_isi .list T.b_isinstance T.b_list (m_var (pv 0))))) (m_wor1 (m_tnot (m_tchain op_le s_le op_le s_le m_int (m_callB call_len_seq s_len T.b_len (m_acons1 (m_var (pv 0)) m_anil)) (m_gint T.c_MOST_STICKS))))))
    (m_sone (m_ret m_bl))
    m_snil)
    (m_sone (m_ret (m_callB (cr_all rfl) s_all T.b_all (m_acons1 (m_lc (own := [("pair", 1)]) rfl sc_are_near.nd (tg1 1) (m_ilist (m_var (pv 0))) (blkOk_by (own := [("pair", 1)]) (N := N_are_near) (sc := defScope s_are_near) (by decide +kernel)) (fun _ _ _ _ _ => (pg_name (i := 1) sc_are_near.nd rfl (by first | exact Or.inl rfl | exact Or.inr rfl))) (fun _ _ _ _ _ => m_pts0) (fun _ _ _ _ _ => (m_callC C_is_near (hr.mono (by decide)) (m_acons1 (m_var (pv 1)) m_anil)))) m_anil)))))) ?_
  intro ps h1 h2 h3
  refine runD_eq (r := .c (.bool true)) ?_
  have h4 : (1 : Int) ≤ ps.length := by omega
  have h5 : (ps.length : Int) ≤ 6 := by omega
  walk_at "ev"
  rw [mLc1 (l := ps) (enc := eP) (b := fun _ => true) (y := fun p => .bool true) (c := true)]
  · rw [filter_true]
    show ((gAll [R.o (ps.map fun _ => D.bool true)]).bind fun r => some (Out.rt r.up)) = _
    rw [all_f ps (fun _ => true)]
    simp [Rup_c]
  · rfl
  · exact Nat.le_trans h2 (by decide)
  · intro p hp
    have e1 := H_is_near p
    have e2 := h3 p hp
    refine ⟨rfl, rfl, fun _ => ⟨.c (.bool true), ?_, rfl⟩⟩
    walk_at "ev"
abbrev s_are_sticks : Stmt := top 20
abbrev N_are_sticks : List Str := ["value", "stick", "at"]
def Sp_are_sticks (g : List D → Option R) : Prop := ∀ ss : List Pt, SOk ss → g [.list (ss.map eP)] = some (.c (.bool true))
theorem sc_are_sticks : FnScope N_are_sticks ["value"] (defScope s_are_sticks) := ⟨rfl, rfl, rfl, by decide +kernel, rfl, by decide +kernel, by decide +kernel⟩
set_option maxHeartbeats 4000000 in
theorem ok_are_sticks (T : Txt K mg C_Shares C_Apart) (F : FunG K mg "are_sticks" s_are_sticks ["value"]) {g_span : List D → Option R} (C_span : Cal P w K mg base "span" 1 ["one", "other"] g_span) (H_span : Sp_span g_span) {g_stands : List D → Option R} (C_stands : Cal P w K mg base "stands" 1 ["stick"] g_stands) (H_stands : Sp_stands g_stands) {g_are_near : List D → Option R} (C_are_near : Cal P w K mg base "are_near" 4 ["value"] g_are_near) (H_are_near : Sp_are_near g_are_near) : ∃ g, Cal P w K mg base "are_sticks" 5 ["value"] g ∧ Sp_are_sticks g := by
  refine cal_ex F sc_are_sticks (fun f cdv A outer s H E hr => (m_cons (m_if (PW.pt (m_wor (m_tnot (m_tval (m_callC C_are_near (hr.mono (by decide)) (m_acons1 (m_var (pv 0)) m_anil)))) (m_wor1 (m_tnot (m_tval (m_callB (cr_all rfl) s_all T.b_all (m_acons1 (m_lc (own := [("stick", 1)]) rfl sc_are_sticks.nd (tg1 1) (m_ilist (m_var (pv 0))) (blkOk_by (own := [("stick", 1)]) (N := N_are_sticks) (sc := defScope s_are_sticks) (by decide +kernel)) (fun _ _ _ _ _ => (pg_name (i := 1) sc_are_sticks.nd rfl (by first | exact Or.inl rfl | exact Or.inr rfl))) (fun _ _ _ _ _ => m_pts0) (fun _ _ _ _ _ => (m_callC C_stands (hr.mono (by decide)) (m_acons1 (m_var (pv 1)) m_anil)))) m_anil)))))))
    (m_sone (m_ret m_bl))
    m_snil)
    (m_sone (m_ret (m_callB (cr_all rfl) s_all T.b_all (m_acons1 (m_lc (own := [("at", 2)]) rfl sc_are_sticks.nd (tg1 2) (m_irange2 T.b_range (m_an2 m_int (m_callB call_len_seq s_len T.b_len (m_acons1 (m_var (pv 0)) m_anil)))) (blkOk_by (own := [("at", 2)]) (N := N_are_sticks) (sc := defScope s_are_sticks) (by decide +kernel)) (fun _ _ _ _ _ => (pg_name (i := 2) sc_are_sticks.nd rfl (by first | exact Or.inl rfl | exact Or.inr rfl))) (fun _ _ _ _ _ => m_pts0) (fun _ _ _ _ _ => (m_cmp op_gt s_gt (m_callC C_span (hr.mono (by decide)) (m_an2 (m_ix (m_var (pv 0)) (m_op op_sub s_sub (m_var (pv 2)) m_int)) (m_ix (m_var (pv 0)) (m_var (pv 2))))) m_int (nomark _)))) m_anil)))))) ?_
  intro ss h
  refine runD_eq (r := .c (.bool true)) ?_
  have h1 := H_are_near ss h.l1 h.l6 h.nr
  refine (mSeq_nx (E1 := [some (Sl.v (D.list (ss.map eP))), none, none]) ((mIfS_f ?_).trans rfl)).trans ?_
  · have a1 : mCl gAll (mCons (mLc [1] pick1 (mIL (mVar 0)) mYes (mCall 1 g_stands (mCons (mVar 1) mNil))) mNil) [some (Sl.v (D.list (ss.map eP))), none, none] = some (.c (.bool true)) :=
      mAll_true (l := ss) (enc := eP) (qs := fun s => [eP s]) (c := true) rfl h.lim fun s hs => ⟨rfl, rfl, by have e := H_stands s; rw [std_iff.mpr (h.sd s hs)] at e; (walk_at "ev")⟩
    exact mTOr_f (mTNot_eq (mB_eq (k := true) (by walk_at "ev"))) (mTNot_eq (mB_eq a1))
  · have hr : mIR2 (mCons (mC (D.int 1)) (mCons (mCl gLen (mCons (mVar 0) mNil)) mNil)) [some (Sl.v (D.list (ss.map eP))), none, none] = some (true, (List.range (ss.length - 1)).map fun (i : Nat) => D.int (1 + (i : Int))) := by
      have := h.l6
      refine (mIR2_eq (lo := 1) (hi := ss.length) (by walk_at "ev") (by unfold big62; apply decide_eq_true; omega) (by unfold big62; apply decide_eq_true; omega)).trans ?_
      rw [show ((ss.length : Int) - 1).toNat = ss.length - 1 by omega]
    refine mRet_eq (r := .c (.bool true)) (mAll_true (l := List.range (ss.length - 1)) (enc := fun (i : Nat) => D.int (1 + (i : Int))) (qs := fun i => [D.int (1 + (i : Int))]) (c := true) hr (by rw [List.length_range]; have := h.lim; omega) fun k hk => ⟨rfl, rfl, ?_⟩)
    have hk1 : k + 1 < ss.length := by have := List.mem_range.mp hk; omega
    have i1 := ix_Lc ss (k := (1 + (k : Int)) - 1) (j := k) (by omega) (List.getElem?_eq_getElem (show k < ss.length by omega))
    have i2 := ix_Lc ss (k := 1 + (k : Int)) (j := k + 1) (by omega) (List.getElem?_eq_getElem hk1)
    have hpos := h.neigh k _ _ (List.getElem?_eq_getElem (show k < ss.length by omega)) (List.getElem?_eq_getElem hk1)
    have hs := H_span ss[k] ss[k + 1] (.inr <| near_sm (h.nr _ (List.getElem_mem hk1)))
    generalize ss[k] = a at *
    generalize ss[k + 1] = b at *
    walk_at "ev"
abbrev s_check_sticks : Stmt := top 21
abbrev N_check_sticks : List Str := ["value"]
def Sp_check_sticks (g : List D → Option R) : Prop := ∀ ss : List Pt, SOk ss → g [.list (ss.map eP)] = some (.c .none)
theorem sc_check_sticks : FnScope N_check_sticks ["value"] (defScope s_check_sticks) := ⟨rfl, rfl, rfl, by decide +kernel, rfl, by decide +kernel, by decide +kernel⟩
set_option maxHeartbeats 4000000 in
theorem ok_check_sticks (T : Txt K mg C_Shares C_Apart) (F : FunG K mg "check_sticks" s_check_sticks ["value"]) {g_are_sticks : List D → Option R} (C_are_sticks : Cal P w K mg base "are_sticks" 5 ["value"] g_are_sticks) (H_are_sticks : Sp_are_sticks g_are_sticks) : ∃ g, Cal P w K mg base "check_sticks" 6 ["value"] g ∧ Sp_check_sticks g := by
  refine cal_exN F sc_check_sticks (fun f cdv A outer s H E hr => (m_sone (m_if (m_tnot (m_tval (m_callC C_are_sticks (hr.mono (by decide)) (m_acons1 (m_var (pv 0)) m_anil))))
    (m_sone m_never)
    m_snil))) ?_
  intro ss h
  have h1 := H_are_sticks ss h
  exact runN_nx (by walk_at "ev" <;> rfl)
abbrev s_check_point : Stmt := top 22
abbrev N_check_point : List Str := ["value"]
def Sp_check_point (g : List D → Option R) : Prop := ∀ p : Pt, g [eP p] = some (.c .none)
theorem sc_check_point : FnScope N_check_point ["value"] (defScope s_check_point) := ⟨rfl, rfl, rfl, by decide +kernel, rfl, by decide +kernel, by decide +kernel⟩
set_option maxHeartbeats 4000000 in
theorem ok_check_point (T : Txt K mg C_Shares C_Apart) (F : FunG K mg "check_point" s_check_point ["value"]) {g_is_point : List D → Option R} (C_is_point : Cal P w K mg base "is_point" 2 ["value"] g_is_point) (H_is_point : Sp_is_point g_is_point) : ∃ g, Cal P w K mg base "check_point" 3 ["value"] g ∧ Sp_check_point g := by
  refine cal_exN F sc_check_point (fun f cdv A outer s H E hr => (m_sone (m_if (m_tnot (m_tval (m_callC C_is_point (hr.mono (by decide)) (m_acons1 (m_var (pv 0)) m_anil))))
    (m_sone m_never)
    m_snil))) ?_
  intro p
  have h1 := H_is_point p
  exact runN_nx (by walk_at "ev" <;> rfl)
abbrev s_reach : Stmt := top 24
abbrev N_reach : List Str := ["sticks", "line", "stick"]
def Sp_reach (g : List D → Option R) : Prop := ∀ (ss : List Pt) (l : Pt), ss.length ≤ 6 → (∀ s ∈ ss, Sm s) → g [.list (ss.map eP), eP l] = some (.c (.int (reachI ss l)))
theorem sc_reach : FnScope N_reach ["sticks", "line"] (defScope s_reach) := ⟨rfl, rfl, rfl, by decide +kernel, rfl, by decide +kernel, by decide +kernel⟩
set_option maxHeartbeats 4000000 in
theorem ok_reach (T : Txt K mg C_Shares C_Apart) (F : FunG K mg "reach" s_reach ["sticks", "line"]) {g_along : List D → Option R} (C_along : Cal P w K mg base "along" 1 ["line", "point"] g_along) (H_along : Sp_along g_along) : ∃ g, Cal P w K mg base "reach" 2 ["sticks", "line"] g ∧ Sp_reach g := by
  refine cal_ex F sc_reach (fun f cdv A outer s H E hr => (m_sone (m_ret (m_callB (cr_sum rfl) s_sum T.b_sum (m_acons1 (m_lc (own := [("stick", 2)]) rfl sc_reach.nd (tg1 2) (m_ilist (m_var (pv 0))) (blkOk_by (own := [("stick", 2)]) (N := N_reach) (sc := defScope s_reach) (by decide +kernel)) (fun _ _ _ _ _ => (pg_name (i := 2) sc_reach.nd rfl (by first | exact Or.inl rfl | exact Or.inr rfl))) (fun _ _ _ _ _ => m_pts0) (fun _ _ _ _ _ => (m_callB (call_max2 rfl) s_max2 T.b_max (m_an2 m_int (m_callC C_along (hr.mono (by decide)) (m_an2 (m_var (pv 1)) (m_var (pv 2)))))))) m_anil))))) ?_
  intro ss l hl hs
  refine runD_to ?_
  refine ⟨_, mRet_eq (r := .c (.int (reachI ss l))) ?_, _, rfl, rfl⟩
  refine mSum_f (l := ss) (enc := eP) (qs := fun p => [eP p]) (c := true) (fun t => max 0 (dt l t)) rfl (Nat.le_trans hl (by decide)) fun t ht => ⟨rfl, rfl, ?_⟩
  have ha := H_along l t (.inr (hs t ht))
  have e : (if dt l t > 0 then dt l t else 0) = max 0 (dt l t) := by omega
  refine (?_ : _ = some (R.c (.int (if dt l t > 0 then dt l t else 0)))).trans (by rw [e])
  generalize dt l t = v at *
  walk_at "ev"
abbrev s_is_share : Stmt := top 26
abbrev N_is_share : List Str := ["value"]
def Sp_is_share (g : List D → Option R) : Prop := ∀ p : Pt, g [eP p] = some (.c (.bool (isS p)))
theorem sc_is_share : FnScope N_is_share ["value"] (defScope s_is_share) := ⟨rfl, rfl, rfl, by decide +kernel, rfl, by decide +kernel, by decide +kernel⟩
set_option maxHeartbeats 4000000 in
theorem ok_is_share (T : Txt K mg C_Shares C_Apart) (F : FunG K mg "is_share" s_is_share ["value"]) {g_greatest_into : List D → Option R} (C_greatest_into : Cal P w K mg base "greatest_into" 1 ["one", "other"] g_greatest_into) (H_greatest_into : Sp_greatest_into g_greatest_into) {g_is_point : List D → Option R} (C_is_point : Cal P w K mg base "is_point" 2 ["value"] g_is_point) (H_is_point : Sp_is_point g_is_point) : ∃ g, Cal P w K mg base "is_share" 3 ["value"] g ∧ Sp_is_share g := by
  refine cal_ex F sc_is_share (fun f cdv A outer s H E hr => (m_sone (m_ret (m_and (m_callC C_is_point (hr.mono (by decide)) (m_acons1 (m_var (pv 0)) m_anil)) (m_and (m_chain op_le s_le op_le s_le m_int (m_ix (m_var (pv 0)) m_int) (m_ix (m_var (pv 0)) m_int)) (m_one (m_cmp (op_eqD hr.units) s_eq (m_callC C_greatest_into (hr.mono (by decide)) (m_an2 (m_ix (m_var (pv 0)) m_int) (m_ix (m_var (pv 0)) m_int))) m_int (nomark _)))))))) ?_
  intro p
  refine runD_eq (r := .c (.bool (isS p))) ?_
  have h1 := H_is_point p
  unfold isS
  by_cases a : 0 ≤ p.1
  · by_cases b : p.1 ≤ p.2
    · have h2 := H_greatest_into p.1.toNat p.2.toNat
      rw [show (p.1.toNat : Int) = p.1 by omega, show (p.2.toNat : Int) = p.2 by omega] at h2
      by_cases g1 : Nat.gcd p.1.toNat p.2.toNat = 1
      · rw [g1] at h2
        walk_at "ev"
      · have g2 : ¬ ((Nat.gcd p.1.toNat p.2.toNat : Nat) : Int) = 1 := by omega
        walk_at "ev"
    · walk_at "ev"
  · walk_at "ev"
abbrev s_are_shares : Stmt := top 27
abbrev N_are_shares : List Str := ["many", "value", "share"]
def Sp_are_shares (g : List D → Option R) : Prop := ∀ (n : Nat) (sh : List Pt), sh.length ≤ 7 → g [.int n, .list (sh.map eP)] = some (.c (.bool (decide (sh.length = n) && sh.all isS)))
theorem sc_are_shares : FnScope N_are_shares ["many", "value"] (defScope s_are_shares) := ⟨rfl, rfl, rfl, by decide +kernel, rfl, by decide +kernel, by decide +kernel⟩
set_option maxHeartbeats 4000000 in
theorem ok_are_shares (T : Txt K mg C_Shares C_Apart) (F : FunG K mg "are_shares" s_are_shares ["many", "value"]) {g_is_share : List D → Option R} (C_is_share : Cal P w K mg base "is_share" 3 ["value"] g_is_share) (H_is_share : Sp_is_share g_is_share) : ∃ g, Cal P w K mg base "are_shares" 4 ["many", "value"] g ∧ Sp_are_shares g := by
  refine cal_ex F sc_are_shares (fun f cdv A outer s H E hr => (m_cons (m_if (PW.pt (m_wor (m_tnot (m_tval (m_isi .list T.b_isinstance T.b_list (m_var (pv 1))))) (m_wor1 (m_tcmp (op_neD hr.units) s_ne (m_callB call_len_seq s_len T.b_len (m_acons1 (m_var (pv 1)) m_anil)) (m_var (pv 0)) (nomark _)))))
    (m_sone (m_ret m_bl))
    m_snil)
    (m_sone (m_ret (m_callB (cr_all rfl) s_all T.b_all (m_acons1 (m_lc (own := [("share", 2)]) rfl sc_are_shares.nd (tg1 2) (m_ilist (m_var (pv 1))) (blkOk_by (own := [("share", 2)]) (N := N_are_shares) (sc := defScope s_are_shares) (by decide +kernel)) (fun _ _ _ _ _ => (pg_name (i := 2) sc_are_shares.nd rfl (by first | exact Or.inl rfl | exact Or.inr rfl))) (fun _ _ _ _ _ => m_pts0) (fun _ _ _ _ _ => (m_callC C_is_share (hr.mono (by decide)) (m_acons1 (m_var (pv 2)) m_anil)))) m_anil)))))) ?_
  intro n sh hl
  refine runD_to ?_
  by_cases he : sh.length = n
  · have he' : (sh.length : Int) = n := by omega
    refine mSeq_ex (P := fun E => E = [some (.v (.int n)), some (.v (.list (sh.map eP))), none]) ⟨_, (mIfS_f (by subst he; walk_at "ev")).trans rfl, rfl⟩ ?_
    rintro E rfl
    refine ⟨_, mRet_eq (mAll_f (l := sh) (enc := eP) (qs := fun p => [eP p]) (c := true) isS rfl (Nat.le_trans hl (by decide)) fun p hp => ⟨rfl, rfl, ?_⟩), _, rfl, by rw [decide_eq_true he]; rfl⟩
    have h1 := H_is_share p
    generalize isS p = b at *
    walk_at "ev"
  · have he' : ¬ (sh.length : Int) = n := by omega
    refine ⟨.rt (.c (.bool false)), ?_, _, rfl, by rw [decide_eq_false he]; rfl⟩
    walk_at "ev"
abbrev s_lead_to : Stmt := top 28
abbrev N_lead_to : List Str := ["sticks", "shares", "point", "whole", "share", "led", "stick", "top", "bottom"]
def Sp_lead_to (g : List D → Option R) : Prop := ∀ (ss sh : List Pt) (q : Pt), SOk ss → Sm q → sh.length = ss.length → (∀ p ∈ sh, isS p = true ∧ Bd p) → g [.list (ss.map eP), .list (sh.map eP), eP q] = some (.c (.bool (leadB ss sh q)))
theorem sc_lead_to : FnScope N_lead_to ["sticks", "shares", "point"] (defScope s_lead_to) := ⟨rfl, rfl, rfl, by decide +kernel, rfl, by decide +kernel, by decide +kernel⟩
set_option maxHeartbeats 4000000 in
theorem ok_lead_to (T : Txt K mg C_Shares C_Apart) (F : FunG K mg "lead_to" s_lead_to ["sticks", "shares", "point"]) {g_longer : List D → Option R} (C_longer : Cal P w K mg base "longer" 1 ["stick", "times"] g_longer) (H_longer : Sp_longer g_longer) {g_put_together : List D → Option R} (C_put_together : Cal P w K mg base "put_together" 1 ["one", "other"] g_put_together) (H_put_together : Sp_put_together g_put_together) : ∃ g, Cal P w K mg base "lead_to" 2 ["sticks", "shares", "point"] g ∧ Sp_lead_to g := by
  refine cal_ex F sc_lead_to (fun f cdv A outer s H E hr => (m_cons (m_set (i := 3) sc_lead_to.nd m_int)
    (m_cons (m_for (tg1 4) PassesOwn.never rfl (m_ilist (m_var (pv 1))) (pg_name (i := 4) sc_lead_to.nd rfl (by first | exact Or.inl rfl | exact Or.inr rfl))
    (m_sone (m_aug (i := 3) iop_mulB s_mul sc_lead_to.nd (m_ix (m_var (pv 4)) m_int))) fsi_N)
    (m_cons (m_set (i := 5) sc_lead_to.nd (m_tup (m_an2 m_int m_int)))
    (m_cons (m_for (tgN 6 7 8) PassesOwn.never rfl (m_izip T.b_zip (m_an2 (m_var (pv 0)) (m_var (pv 1)))) (pg_tup rfl (pgs_cons (pg_name (i := 6) sc_lead_to.nd rfl (by first | exact Or.inl rfl | exact Or.inr rfl)) (pgs_cons (pg_tup rfl (pgs_cons (pg_name (i := 7) sc_lead_to.nd rfl (by first | exact Or.inl rfl | exact Or.inr rfl)) (pgs_cons (pg_name (i := 8) sc_lead_to.nd rfl (by first | exact Or.inl rfl | exact Or.inr rfl)) pgs_nil))) pgs_nil)))
    (m_sone (m_set (i := 5) sc_lead_to.nd (m_callC C_put_together (hr.mono (by decide)) (m_an2 (m_var (pv 5)) (m_callC C_longer (hr.mono (by decide)) (m_an2 (m_var (pv 6)) (m_op op_mulB s_mul (m_var (pv 7)) (m_op op_fdivB s_divB (m_var (pv 3)) (m_var (pv 8)))))))))) fsi_K)
    (m_sone (m_ret (m_cmp (op_eqD hr.units) s_eq (m_var (pv 5)) (m_callC C_longer (hr.mono (by decide)) (m_an2 (m_var (pv 2)) (m_var (pv 3)))) (nomark _))))))))) ?_
  intro ss sh q h hq hl hb
  have hl6 := h.l6
  have hbd : ∀ p ∈ sh, Bd p := fun p hp => (hb p hp).2
  have hB := prod_abs (sh := sh) (by omega) hbd
  refine runD_to ?_
  refine mSeq_ex (P := fun E => E = [some (.v (.list (ss.map eP))), some (.v (.list (sh.map eP))), some (.v (eP q)), some (.v (.int 1)), none, none, none, none, none]) ⟨_, by walk_at "ev" <;> rfl, rfl⟩ ?_
  rintro E rfl
  refine mSeq_ex (mFor_ind (l := sh) (enc := eP) (fun pre E => ∃ j4, E = [some (.v (.list (ss.map eP))), some (.v (.list (sh.map eP))), some (.v (eP q)), some (.v (.int (prodB pre))), j4, none, none, none, none]) rfl ⟨none, rfl⟩ ?_) ?_
  · rintro pre p E hp hlt ⟨post, hpost⟩ ⟨j4, rfl⟩
    have hpre : (prodB pre).natAbs < 2 ^ 500 := prod_abs (by omega) fun x hx => hbd x (by rw [hpost]; exact List.mem_append_left _ hx)
    have hm : mulOk (prodB pre) p.2 = true := mulB hpre (hbd p hp).2 (by decide)
    have e : prodB (pre ++ [p]) = prodB pre * p.2 := by unfold prodB; rw [List.foldl_append]; rfl
    rw [e]
    refine ⟨_, ?_, ⟨some (.v (eP p)), rfl⟩⟩
    generalize prodB pre = w at *
    clear hpre
    walk_at "ev"
  rintro E ⟨j4, rfl⟩
  refine mSeq_ex (P := fun E => E = [some (.v (.list (ss.map eP))), some (.v (.list (sh.map eP))), some (.v (eP q)), some (.v (.int (prodB sh))), j4, some (.v (eP (0, 0))), none, none, none]) ⟨_, by generalize prodB sh = w at *; (walk_at "ev" <;> rfl), rfl⟩ ?_
  rintro E rfl
  refine mSeq_ex (mForN (l := ss.zip sh) (enc := fun z => D.tuple [eP z.1, eP z.2]) (qs := fun z => [eP z.1, .int z.2.1, .int z.2.2]) (fun pre E => ∃ j6 j7 j8, E = [some (.v (.list (ss.map eP))), some (.v (.list (sh.map eP))), some (.v (eP q)), some (.v (.int (prodB sh))), j4, some (.v (eP (led (prodB sh) pre))), j6, j7, j8]) ?_ ⟨none, none, none, rfl⟩ ?_) ?_
  · rw [mIZ_eq (x := .c (.list (ss.map eP))) (y := .c (.list (sh.map eP))) (l := ss.map eP) (l' := sh.map eP) rfl rfl rfl, zips_map]
    rfl
  · rintro pre ⟨s, p⟩ E hz hlt _ ⟨j6, j7, j8, rfl⟩
    refine ⟨rfl, ?_⟩
    have hzs := List.of_mem_zip hz
    have hp := hb p hzs.2
    have hpos := isS_pos hp.1
    have hsm := near_sm (h.nr s hzs.1)
    have hlog := log_small hpos.2.2 hp.2.2
    have hm : mulOk p.1 (prodB sh / p.2) = true := mulB hp.2.1 (div_abs hpos.2.2 hB) (by decide)
    have h1 := H_longer s (wgt (prodB sh) p) hsm
    have h2 := H_put_together (led (prodB sh) pre) (s.1 * wgt (prodB sh) p, s.2 * wgt (prodB sh) p)
    rw [led_snoc]
    refine ⟨_, ?_, ⟨some (.v (eP s)), some (.v (.int p.1)), some (.v (.int p.2)), rfl⟩⟩
    have hw : p.1 * (prodB sh / p.2) = wgt (prodB sh) p := rfl
    have hpp : 0 < p.2 := hpos.2.2
    have hdv : gDivB (.c (.int (prodB sh))) (.c (.int p.2)) = some (.c (.int (prodB sh / p.2))) := by
      show (if decide (0 < p.2 ∧ p.2.natAbs.log2 < 9000) = true then some (R.c (.int (prodB sh / p.2))) else none) = _
      rw [if_pos (decide_eq_true ⟨hpp, hlog⟩)]
    refine mAsgV_eq (r := .c (eP (ad (led (prodB sh) pre) (s.1 * wgt (prodB sh) p, s.2 * wgt (prodB sh) p)))) (mCall2 (x := .c (eP (led (prodB sh) pre))) (y := .c (eP (s.1 * wgt (prodB sh) p, s.2 * wgt (prodB sh) p))) rfl (mCall2 (x := .c (eP s)) (y := .c (.int (wgt (prodB sh) p))) rfl ((mOp_eq (x := .c (.int p.1)) (y := .c (.int (prodB sh / p.2))) rfl ((mOp_eq (x := .c (.int (prodB sh))) (y := .c (.int p.2)) rfl rfl).trans hdv)).trans ?_) rfl rfl h1) rfl rfl h2) rfl
    show (if mulOk p.1 (prodB sh / p.2) = true then some (R.c (.int (p.1 * (prodB sh / p.2)))) else none) = _
    rw [if_pos hm]
    rfl
  · rintro E ⟨j6, j7, j8, rfl⟩
    have h1 := H_longer q (prodB sh) hq
    refine ⟨_, mRet_eq (r := .c (.bool (leadB ss sh q))) ((mOp_eq (x := .c (eP (led (prodB sh) (ss.zip sh)))) (y := .c (eP (q.1 * prodB sh, q.2 * prodB sh))) rfl (mCall2 (x := .c (eP q)) (y := .c (.int (prodB sh))) rfl rfl rfl rfl h1)).trans ?_), _, rfl, rfl⟩
    show (if okD _ && okD _ then some (R.c (.bool (deq _ _))) else none) = _
    rw [Rd_c, Rd_c, sh_P, sh_P, eqv_P]
    rfl
abbrev s_Shares_init : Stmt := inC (top 30) 0
abbrev N_Shares_init : List Str := ["self", "shares"]
def Sp_Shares_init (g : List D → Option (List Tr)) : Prop := ∀ sh : List Pt, g [.list (sh.map eP)] = some [Tr.fl (sh.map eP)]
theorem sc_Shares_init : FnScope N_Shares_init ["self", "shares"] (defScope s_Shares_init) := ⟨rfl, rfl, rfl, by decide +kernel, rfl, by decide +kernel, by decide +kernel⟩
set_option maxHeartbeats 4000000 in
theorem ok_Shares_init (T : Txt K mg C_Shares C_Apart) (F : FunI K C_Shares "Shares.__init__" s_Shares_init ["self", "shares"]) : ∃ g, Ini P w K mg base C_Shares 1 1 ["shares"] g ∧ Sp_Shares_init g := by
  refine ini_ex F sc_Shares_init rfl T.cl_Shares T.na_Shares_shares (fun f cdv A outer s H E hr => (pss_one (ps_fld (pv 0) (m_callT call_list_of s_list T.b_list (m_acons1 (m_var (pv 1)) m_anil)) rfl))) ?_
  intro sh
  unfold gInit
  have e : mCl gList (mCons (mVar 1) mNil) (startE N_Shares_init [.obj C_Shares [] [], .list (sh.map eP)]) = some (.o (sh.map eP)) := rfl
  have hp : (Tr.fl (sh.map eP)).pure = true := fl_pure (pures_P sh)
  rw [e]
  show (if (Tr.fl (sh.map eP)).pure = true then _ else none) = _
  rw [if_pos hp]
  rfl
abbrev s_Shares_shows : Stmt := inC (top 30) 1
abbrev N_Shares_shows : List Str := ["self", "sticks", "point"]
def Sp_Shares_shows (C_Shares C_Apart : Addr) (g : List D → Option R) : Prop := ∀ (ss sh : List Pt) (q : Pt), SOk ss → Sm q → sh.length ≤ 7 → (∀ p ∈ sh, Bd p) → g [.obj C_Shares ["shares"] [.list (sh.map eP)], .list (ss.map eP), eP q] = some (.c (.bool (dueS ss sh q)))
theorem sc_Shares_shows : FnScope N_Shares_shows ["self", "sticks", "point"] (defScope s_Shares_shows) := ⟨rfl, rfl, rfl, by decide +kernel, rfl, by decide +kernel, by decide +kernel⟩
set_option maxHeartbeats 4000000 in
theorem ok_Shares_shows (T : Txt K mg C_Shares C_Apart) (F : FunM K C_Shares "shows" "Shares.shows" s_Shares_shows ["self", "sticks", "point"]) {g_lead_to : List D → Option R} (C_lead_to : Cal P w K mg base "lead_to" 2 ["sticks", "shares", "point"] g_lead_to) (H_lead_to : Sp_lead_to g_lead_to) {g_are_shares : List D → Option R} (C_are_shares : Cal P w K mg base "are_shares" 4 ["many", "value"] g_are_shares) (H_are_shares : Sp_are_shares g_are_shares) : ∃ g, Mth P w K mg base C_Shares "shows" 5 3 g ∧ Sp_Shares_shows C_Shares C_Apart g := by
  refine mth_ex F sc_Shares_shows (fun f cdv A outer s H E hr => (m_sone (m_ret (m_and (m_callC C_are_shares (hr.mono (by decide)) (m_an2 (m_callB call_len_seq s_len T.b_len (m_acons1 (m_var (pv 1)) m_anil)) (m_fld1 T.cl_Shares T.na_Shares_shares (m_var (pv 0))))) (m_one (m_callC C_lead_to (hr.mono (by decide)) (m_an3 (m_var (pv 1)) (m_fld1 T.cl_Shares T.na_Shares_shares (m_var (pv 0))) (m_var (pv 2))))))))) ?_
  intro ss sh q h hq hl hb
  refine runD_eq (r := .c (.bool (dueS ss sh q))) ?_
  have h1 := H_are_shares ss.length sh hl
  have hf : gFld [C_Shares] "shares" (.c (.obj C_Shares ["shares"] [.list (sh.map eP)])) = some (.c (.list (sh.map eP))) := by
    show (if C_Shares ∈ [C_Shares] then _ else none) = _
    rw [if_pos List.mem_cons_self]
    rfl
  unfold dueS
  cases e1 : decide (sh.length = ss.length) && sh.all isS with
  | true =>
    rw [e1] at h1
    rw [Bool.and_eq_true, decide_eq_true_eq, List.all_eq_true] at e1
    have h2 := H_lead_to ss sh q h hq e1.1 fun p hp => ⟨e1.2 p hp, hb p hp⟩
    rw [decide_eq_true e1.1, List.all_eq_true.mpr e1.2]
    generalize leadB ss sh q = k at *
    clear e1 hb
    walk_at "ev"
  | false =>
    rw [e1] at h1
    rw [← Bool.and_assoc, e1]
    clear e1 hb
    walk_at "ev"
abbrev s_Apart_init : Stmt := inC (top 31) 0
abbrev N_Apart_init : List Str := ["self", "line"]
def Sp_Apart_init (g : List D → Option (List Tr)) : Prop := ∀ l : Pt, g [eP l] = some [.leaf (eP l)]
theorem sc_Apart_init : FnScope N_Apart_init ["self", "line"] (defScope s_Apart_init) := ⟨rfl, rfl, rfl, by decide +kernel, rfl, by decide +kernel, by decide +kernel⟩
set_option maxHeartbeats 4000000 in
theorem ok_Apart_init (T : Txt K mg C_Shares C_Apart) (F : FunI K C_Apart "Apart.__init__" s_Apart_init ["self", "line"]) : ∃ g, Ini P w K mg base C_Apart 1 1 ["line"] g ∧ Sp_Apart_init g := by
  refine ini_ex F sc_Apart_init rfl T.cl_Apart T.na_Apart_line (fun f cdv A outer s H E hr => (pss_one (ps_fld (pv 0) (m_var (pv 1)) rfl))) ?_
  intro l
  rfl
abbrev s_Apart_shows : Stmt := inC (top 31) 1
abbrev N_Apart_shows : List Str := ["self", "sticks", "point"]
def Sp_Apart_shows (C_Shares C_Apart : Addr) (g : List D → Option R) : Prop := ∀ (ss : List Pt) (l q : Pt), ss.length ≤ 6 → (∀ s ∈ ss, Sm s) → (Sm l ∨ Sm q) → g [.obj C_Apart ["line"] [eP l], .list (ss.map eP), eP q] = some (.c (.bool (decide (reachI ss l < dt l q))))
theorem sc_Apart_shows : FnScope N_Apart_shows ["self", "sticks", "point"] (defScope s_Apart_shows) := ⟨rfl, rfl, rfl, by decide +kernel, rfl, by decide +kernel, by decide +kernel⟩
set_option maxHeartbeats 4000000 in
theorem ok_Apart_shows (T : Txt K mg C_Shares C_Apart) (F : FunM K C_Apart "shows" "Apart.shows" s_Apart_shows ["self", "sticks", "point"]) {g_along : List D → Option R} (C_along : Cal P w K mg base "along" 1 ["line", "point"] g_along) (H_along : Sp_along g_along) {g_reach : List D → Option R} (C_reach : Cal P w K mg base "reach" 2 ["sticks", "line"] g_reach) (H_reach : Sp_reach g_reach) {g_is_point : List D → Option R} (C_is_point : Cal P w K mg base "is_point" 2 ["value"] g_is_point) (H_is_point : Sp_is_point g_is_point) : ∃ g, Mth P w K mg base C_Apart "shows" 3 3 g ∧ Sp_Apart_shows C_Shares C_Apart g := by
  refine mth_ex F sc_Apart_shows (fun f cdv A outer s H E hr => (m_sone (m_ret (m_and (m_callC C_is_point (hr.mono (by decide)) (m_acons1 (m_fld1 T.cl_Apart T.na_Apart_line (m_var (pv 0))) m_anil)) (m_one (m_cmp op_gt s_gt (m_callC C_along (hr.mono (by decide)) (m_an2 (m_fld1 T.cl_Apart T.na_Apart_line (m_var (pv 0))) (m_var (pv 2)))) (m_callC C_reach (hr.mono (by decide)) (m_an2 (m_var (pv 1)) (m_fld1 T.cl_Apart T.na_Apart_line (m_var (pv 0))))) (nomark _))))))) ?_
  intro ss l q hl hs hll
  refine runD_eq (r := .c (.bool (decide (reachI ss l < dt l q)))) ?_
  have h1 := H_is_point l
  have h2 := H_along l q hll
  have h3 := H_reach ss l hl hs
  have hf : gFld [C_Apart] "line" (.c (.obj C_Apart ["line"] [eP l])) = some (.c (eP l)) := by
    show (if C_Apart ∈ [C_Apart] then _ else none) = _
    rw [if_pos List.mem_cons_self]
    rfl
  generalize reachI ss l = a at *
  generalize dt l q = b at *
  walk_at "ev"
abbrev s_lowest : Stmt := top 35
abbrev N_lowest : List Str := ["top", "bottom", "by"]
def Sp_lowest (g : List D → Option R) : Prop := ∀ t b : Nat, 0 < b → b < 1073741824 → g [.int t, .int b] = some (.c (eP ((t / Nat.gcd t b : Nat), (b / Nat.gcd t b : Nat))))
theorem sc_lowest : FnScope N_lowest ["top", "bottom"] (defScope s_lowest) := ⟨rfl, rfl, rfl, by decide +kernel, rfl, by decide +kernel, by decide +kernel⟩
set_option maxHeartbeats 4000000 in
theorem ok_lowest (T : Txt K mg C_Shares C_Apart) (F : FunG K mg "lowest" s_lowest ["top", "bottom"]) {g_greatest_into : List D → Option R} (C_greatest_into : Cal P w K mg base "greatest_into" 1 ["one", "other"] g_greatest_into) (H_greatest_into : Sp_greatest_into g_greatest_into) : ∃ g, Cal P w K mg base "lowest" 2 ["top", "bottom"] g ∧ Sp_lowest g := by
  refine cal_ex F sc_lowest (fun f cdv A outer s H E hr => (m_cons (m_set (i := 2) sc_lowest.nd (m_callC C_greatest_into (hr.mono (by decide)) (m_an2 (m_var (pv 0)) (m_var (pv 1)))))
    (m_sone (m_ret (m_tup (m_an2 (m_op op_fdiv s_div (m_var (pv 0)) (m_var (pv 2))) (m_op op_fdiv s_div (m_var (pv 1)) (m_var (pv 2))))))))) ?_
  intro t b hb hb2
  have h := H_greatest_into t b
  have hg : 0 < Nat.gcd t b := Nat.gcd_pos_of_pos_right t hb
  have hg2 : Nat.gcd t b < 1073741824 := Nat.lt_of_le_of_lt (Nat.gcd_le_right t hb) hb2
  refine runD_eq (r := .c (eP ((t / Nat.gcd t b : Nat), (b / Nat.gcd t b : Nat)))) ?_
  generalize Nat.gcd t b = d at *
  have c1 : (0 : Int) < d ∧ (d : Int) < 1073741824 := by omega
  walk_at "ev"
abbrev s_shares_of_one : Stmt := top 36
abbrev N_shares_of_one : List Str := ["stick", "point", "top", "bottom"]
def Sp_shares_of_one (g : List D → Option R) : Prop := ∀ s q : Pt, near s = true → Std s → g [eP s, eP q] = some (if oneB s q = true then .o [eP (lowP (dt s q) (dt s s))] else .c .none)
theorem sc_shares_of_one : FnScope N_shares_of_one ["stick", "point"] (defScope s_shares_of_one) := ⟨rfl, rfl, rfl, by decide +kernel, rfl, by decide +kernel, by decide +kernel⟩
set_option maxHeartbeats 4000000 in
theorem ok_shares_of_one (T : Txt K mg C_Shares C_Apart) (F : FunG K mg "shares_of_one" s_shares_of_one ["stick", "point"]) {g_lowest : List D → Option R} (C_lowest : Cal P w K mg base "lowest" 2 ["top", "bottom"] g_lowest) (H_lowest : Sp_lowest g_lowest) {g_span : List D → Option R} (C_span : Cal P w K mg base "span" 1 ["one", "other"] g_span) (H_span : Sp_span g_span) {g_along : List D → Option R} (C_along : Cal P w K mg base "along" 1 ["line", "point"] g_along) (H_along : Sp_along g_along) : ∃ g, Cal P w K mg base "shares_of_one" 3 ["stick", "point"] g ∧ Sp_shares_of_one g := by
  refine cal_ex F sc_shares_of_one (fun f cdv A outer s H E hr => (m_cons (m_set (i := 2) sc_shares_of_one.nd (m_callC C_along (hr.mono (by decide)) (m_an2 (m_var (pv 0)) (m_var (pv 1)))))
    (m_cons (m_set (i := 3) sc_shares_of_one.nd (m_callC C_along (hr.mono (by decide)) (m_an2 (m_var (pv 0)) (m_var (pv 0)))))
    (m_cons (m_if (PW.pt (m_wor (m_tcmp (op_neD hr.units) s_ne (m_callC C_span (hr.mono (by decide)) (m_an2 (m_var (pv 0)) (m_var (pv 1)))) m_int (nomark _)) (m_wor1 (m_tnot (m_tchain op_le s_le op_le s_le m_int (m_var (pv 2)) (m_var (pv 3)))))))
    (m_sone (m_ret m_non))
    m_snil)
    (m_sone (m_ret (m_lst (m_acons1 (m_callC C_lowest (hr.mono (by decide)) (m_an2 (m_var (pv 2)) (m_var (pv 3)))) m_anil)))))))) ?_
  intro s q hn hs
  have hsm := near_sm hn
  refine runD_to ?_
  have h1 := H_along s q (.inl hsm)
  have h2 := H_along s s (.inl hsm)
  have h3 := H_span s q (.inl hsm)
  have hb := std_dt hs
  have hb2 := (near_le hn hn).2
  refine mSeq_ex (P := fun E => E = [some (.v (eP s)), some (.v (eP q)), some (.v (.int (dt s q))), none]) ⟨_, by generalize dt s q = v at *; (walk_at "ev" <;> rfl), rfl⟩ ?_
  rintro E rfl
  refine mSeq_ex (P := fun E => E = [some (.v (eP s)), some (.v (eP q)), some (.v (.int (dt s q))), some (.v (.int (dt s s)))]) ⟨_, by generalize dt s s = v at *; (walk_at "ev" <;> rfl), rfl⟩ ?_
  rintro E rfl
  have hlow : oneB s q = true → g_lowest [.int (dt s q), .int (dt s s)] = some (.c (eP (lowP (dt s q) (dt s s)))) := fun ho => by
    unfold oneB at ho
    simp only [Bool.and_eq_true, decide_eq_true_eq] at ho
    have := H_lowest (dt s q).toNat (dt s s).toNat (by omega) (by omega)
    rw [show ((dt s q).toNat : Int) = dt s q by omega, show ((dt s s).toNat : Int) = dt s s by omega] at this
    exact this
  unfold oneB at hlow ⊢
  generalize dt s q = t at *
  generalize dt s s = b at *
  generalize sp s q = z at *
  by_cases hz : z = 0
  · by_cases ht : 0 ≤ t
    · by_cases hb3 : t ≤ b
      · have hl := hlow (by simp [hz, ht, hb3])
        clear hlow
        refine ⟨.rt (.o [eP (lowP t b)]), ?_, _, rfl, by simp [hz, ht, hb3, Rup_o]⟩
        refine (mSeq_nx ((mIfS_f (by walk_at "ev")).trans rfl)).trans ?_
        walk_at "ev" <;> rfl
      · clear hlow
        refine ⟨.rt (.c .none), ?_, _, rfl, by simp [hz, ht, hb3, Rup_c]⟩
        walk_at "ev"
    · clear hlow
      refine ⟨.rt (.c .none), ?_, _, rfl, by simp [hz, ht, Rup_c]⟩
      walk_at "ev"
  · clear hlow
    refine ⟨.rt (.c .none), ?_, _, rfl, by simp [hz, Rup_c]⟩
    walk_at "ev"
abbrev s_shares_by_two : Stmt := top 37
abbrev N_shares_by_two : List Str := ["sticks", "i", "j", "point", "rest", "bottom", "first", "second", "shares", "at"]
def Sp_shares_by_two (g : List D → Option R) : Prop := ∀ (ss : List Pt) (q : Pt) (i j : Nat), SOk ss → i < j → j < ss.length → g [.list (ss.map eP), .int i, .int j, eP q] = some (if slabAt ss q (i, j) = true then .o ((shl ss q i j).map eP) else .c .none)
theorem sc_shares_by_two : FnScope N_shares_by_two ["sticks", "i", "j", "point"] (defScope s_shares_by_two) := ⟨rfl, rfl, rfl, by decide +kernel, rfl, by decide +kernel, by decide +kernel⟩
set_option maxHeartbeats 4000000 in
theorem ok_shares_by_two (T : Txt K mg C_Shares C_Apart) (F : FunG K mg "shares_by_two" s_shares_by_two ["sticks", "i", "j", "point"]) {g_lowest : List D → Option R} (C_lowest : Cal P w K mg base "lowest" 2 ["top", "bottom"] g_lowest) (H_lowest : Sp_lowest g_lowest) {g_span : List D → Option R} (C_span : Cal P w K mg base "span" 1 ["one", "other"] g_span) (H_span : Sp_span g_span) {g_taken_back : List D → Option R} (C_taken_back : Cal P w K mg base "taken_back" 1 ["one", "other"] g_taken_back) (H_taken_back : Sp_taken_back g_taken_back) {g_all_together : List D → Option R} (C_all_together : Cal P w K mg base "all_together" 2 ["sticks"] g_all_together) (H_all_together : Sp_all_together g_all_together) : ∃ g, Cal P w K mg base "shares_by_two" 3 ["sticks", "i", "j", "point"] g ∧ Sp_shares_by_two g := by
  refine cal_ex F sc_shares_by_two (fun f cdv A outer s H E hr => (m_cons (m_set (i := 4) sc_shares_by_two.nd (m_callC C_taken_back (hr.mono (by decide)) (m_an2 (m_var (pv 3)) (m_callC C_all_together (hr.mono (by decide)) (m_acons1 (m_slice (m_var (pv 0)) (m_posome (m_op op_addG s_add (m_var (pv 1)) m_int)) (m_posome (m_var (pv 2)))) m_anil)))))
    (m_cons (m_set (i := 5) sc_shares_by_two.nd (m_callC C_span (hr.mono (by decide)) (m_an2 (m_ix (m_var (pv 0)) (m_var (pv 1))) (m_ix (m_var (pv 0)) (m_var (pv 2))))))
    (m_cons (m_set (i := 6) sc_shares_by_two.nd (m_callC C_span (hr.mono (by decide)) (m_an2 (m_var (pv 4)) (m_ix (m_var (pv 0)) (m_var (pv 2))))))
    (m_cons (m_set (i := 7) sc_shares_by_two.nd (m_callC C_span (hr.mono (by decide)) (m_an2 (m_ix (m_var (pv 0)) (m_var (pv 1))) (m_var (pv 4)))))
    (m_cons (m_if (PW.pt (m_wor (m_tnot (m_tchain op_le s_le op_le s_le m_int (m_var (pv 6)) (m_var (pv 5)))) (m_wor1 (m_tnot (m_tchain op_le s_le op_le s_le m_int (m_var (pv 7)) (m_var (pv 5)))))))
    (m_sone (m_ret m_non))
    m_snil)
    (m_cons (m_setLcO (i := 8) (own := [("at", 9)]) rfl sc_shares_by_two.nd (tg1 9) (m_irange1 T.b_range (m_acons1 (m_callB call_len_seq s_len T.b_len (m_acons1 (m_var (pv 0)) m_anil)) m_anil)) (blkOk_by (own := [("at", 9)]) (N := N_shares_by_two) (sc := defScope s_shares_by_two) (by decide +kernel)) (fun _ _ _ _ _ => (pg_name (i := 9) sc_shares_by_two.nd rfl (by first | exact Or.inl rfl | exact Or.inr rfl))) (fun _ _ _ _ _ => m_pts0) (fun _ _ _ _ _ => (m_ifExp (m_tchain op_lt s_lt op_lt s_lt (m_var (pv 1)) (m_var (pv 9)) (m_var (pv 2))) (m_gtup T.t_ALL_OF_IT) (m_gtup T.t_NONE_OF_IT))))
    (m_cons (m_setI (pv 8) (m_var (pv 1)) (m_callC C_lowest (hr.mono (by decide)) (m_an2 (m_var (pv 6)) (m_var (pv 5)))))
    (m_cons (m_setI (pv 8) (m_var (pv 2)) (m_callC C_lowest (hr.mono (by decide)) (m_an2 (m_var (pv 7)) (m_var (pv 5)))))
    (m_sone (m_reto (pv 8)))))))))))) ?_
  intro ss q i j h hij hj
  have hl6 := h.l6
  have ai := at0_eq (ss := ss) (k := i) (by omega)
  have aj := at0_eq hj
  have hni := h.nrs ai
  have hnj := h.nrs aj
  have hsi := near_sm hni
  have hsj := near_sm hnj
  have hU := h.span hij hj
  have hU2 := (near_le hni hnj).1
  have i1 := ix_Lc ss (k := (i : Int)) rfl ai
  have i2 := ix_Lc ss (k := (j : Int)) rfl aj
  have c1 : cutD (ss.map eP) (some ((i : Int) + 1)) (some (j : Int)) = ((ss.take j).drop (i + 1)).map eP := by
    rw [show (i : Int) + 1 = ((i + 1 : Nat) : Int) by omega, cut_both _ _ _ (by omega) (by rw [List.length_map]; omega), List.map_drop, List.map_take]
  have h1 := H_all_together ((ss.take j).drop (i + 1))
  have h2 := H_taken_back q (foot ss i j)
  have h3 := H_span (at0 ss i) (at0 ss j) (.inl hsi)
  have h4 := H_span (sb q (foot ss i j)) (at0 ss j) (.inr hsj)
  have h5 := H_span (at0 ss i) (sb q (foot ss i j)) (.inl hsi)
  refine runD_to ?_
  refine mSeq_ex (P := fun E => E = [some (.v (.list (ss.map eP))), some (.v (.int i)), some (.v (.int j)), some (.v (eP q)), some (.v (eP (sb q (foot ss i j)))), none, none, none, none, none]) ⟨_, ?_, rfl⟩ ?_
  · have ef : sm2 ((ss.take j).drop (i + 1)) = foot ss i j := rfl
    rw [ef] at h1
    generalize foot ss i j = F at *
    clear ef
    generalize ((ss.take j).drop (i + 1)).map eP = ml at *
    walk_at "ev" <;> rfl
  rintro E rfl
  refine mSeq_ex (P := fun E => E = [some (.v (.list (ss.map eP))), some (.v (.int i)), some (.v (.int j)), some (.v (eP q)), some (.v (eP (sb q (foot ss i j)))), some (.v (.int (sp (at0 ss i) (at0 ss j)))), none, none, none, none]) ⟨_, ?_, rfl⟩ ?_
  · generalize sp (at0 ss i) (at0 ss j) = v at *
    walk_at "ev" <;> rfl
  rintro E rfl
  refine mSeq_ex (P := fun E => E = [some (.v (.list (ss.map eP))), some (.v (.int i)), some (.v (.int j)), some (.v (eP q)), some (.v (eP (sb q (foot ss i j)))), some (.v (.int (sp (at0 ss i) (at0 ss j)))), some (.v (.int (sp (sb q (foot ss i j)) (at0 ss j)))), none, none, none]) ⟨_, ?_, rfl⟩ ?_
  · generalize sb q (foot ss i j) = r at *
    generalize sp r (at0 ss j) = v at *
    walk_at "ev" <;> rfl
  rintro E rfl
  refine mSeq_ex (P := fun E => E = [some (.v (.list (ss.map eP))), some (.v (.int i)), some (.v (.int j)), some (.v (eP q)), some (.v (eP (sb q (foot ss i j)))), some (.v (.int (sp (at0 ss i) (at0 ss j)))), some (.v (.int (sp (sb q (foot ss i j)) (at0 ss j)))), some (.v (.int (sp (at0 ss i) (sb q (foot ss i j))))), none, none]) ⟨_, ?_, rfl⟩ ?_
  · generalize sb q (foot ss i j) = r at *
    generalize sp (at0 ss i) r = v at *
    walk_at "ev" <;> rfl
  rintro E rfl
  have low : ∀ t : Int, 0 ≤ t → t ≤ sp (at0 ss i) (at0 ss j) → g_lowest [.int t, .int (sp (at0 ss i) (at0 ss j))] = some (.c (eP (lowP t (sp (at0 ss i) (at0 ss j))))) := fun t h0 h1 => by
    have := H_lowest t.toNat (sp (at0 ss i) (at0 ss j)).toNat (by omega) (by omega)
    rw [show (t.toNat : Int) = t by omega, show ((sp (at0 ss i) (at0 ss j)).toNat : Int) = sp (at0 ss i) (at0 ss j) by omega] at this
    exact this
  have hsl : slabAt ss q (i, j) = (decide (0 ≤ sp (sb q (foot ss i j)) (at0 ss j)) && decide (sp (sb q (foot ss i j)) (at0 ss j) ≤ sp (at0 ss i) (at0 ss j)) && (decide (0 ≤ sp (at0 ss i) (sb q (foot ss i j))) && decide (sp (at0 ss i) (sb q (foot ss i j)) ≤ sp (at0 ss i) (at0 ss j)))) := slab_dec ss q i j
  have hsh : shl ss q i j = (((List.range ss.length).map fun k => if i < k ∧ k < j then ((1, 1) : Pt) else (0, 1)).set i (lowP (sp (sb q (foot ss i j)) (at0 ss j)) (sp (at0 ss i) (at0 ss j)))).set j (lowP (sp (at0 ss i) (sb q (foot ss i j))) (sp (at0 ss i) (at0 ss j))) := rfl
  rw [hsl, hsh]
  clear hsl hsh h1 h2 h3 h4 h5 i1 i2 c1
  generalize sp (sb q (foot ss i j)) (at0 ss j) = fi at *
  generalize sp (at0 ss i) (sb q (foot ss i j)) = se at *
  generalize sp (at0 ss i) (at0 ss j) = U at *
  generalize sb q (foot ss i j) = rs at *
  by_cases a1 : 0 ≤ fi
  · by_cases a2 : fi ≤ U
    · by_cases a3 : 0 ≤ se
      · by_cases a4 : se ≤ U
        · have l1 := low fi a1 a2
          have l2 := low se a3 a4
          rw [if_pos (by simp [a1, a2, a3, a4])]
          refine mSeq_ex (P := fun E => E = [some (.v (.list (ss.map eP))), some (.v (.int i)), some (.v (.int j)), some (.v (eP q)), some (.v (eP rs)), some (.v (.int U)), some (.v (.int fi)), some (.v (.int se)), none, none]) ⟨_, (mIfS_f (by clear low l1 l2; walk_at "ev")).trans rfl, rfl⟩ ?_
          rintro E rfl
          have hr : mIR1 (mCons (mCl gLen (mCons (mVar 0) mNil)) mNil) [some (.v (.list (ss.map eP))), some (.v (.int i)), some (.v (.int j)), some (.v (eP q)), some (.v (eP rs)), some (.v (.int U)), some (.v (.int fi)), some (.v (.int se)), none, none] = some (true, (List.range ss.length).map fun (k : Nat) => D.int (0 + (k : Int))) := by
            refine (mIR1_eq (j := ss.length) (by clear low l1 l2; walk_at "ev") (by unfold big62; apply decide_eq_true; omega)).trans ?_
            rw [Int.toNat_natCast]
          refine mSeq_ex (P := fun E => E = [some (.v (.list (ss.map eP))), some (.v (.int i)), some (.v (.int j)), some (.v (eP q)), some (.v (eP rs)), some (.v (.int U)), some (.v (.int fi)), some (.v (.int se)), some (.t (Tr.fl (((List.range ss.length).map fun k => if i < k ∧ k < j then ((1, 1) : Pt) else (0, 1)).map eP))), none]) ⟨_, mAsgO_o (mLcG (l := List.range ss.length) (enc := fun (k : Nat) => D.int (0 + (k : Int))) (qs := fun (k : Nat) => [D.int (0 + (k : Int))]) (b := fun _ => true) (y := fun k => eP (if i < k ∧ k < j then ((1, 1) : Pt) else (0, 1))) (c := true) hr (by rw [List.length_range]; exact h.lim) fun k hk => ⟨rfl, rfl, rfl, fun _ => ⟨.c (eP (if i < k ∧ k < j then ((1, 1) : Pt) else (0, 1))), ?_, rfl⟩⟩), ?_⟩ ?_
          · clear low l1 l2
            have t1 : R.c (.tuple (([1, 1] : List Int).map D.int)) = .c (eP (1, 1)) := rfl
            have t2 : R.c (.tuple (([0, 1] : List Int).map D.int)) = .c (eP (0, 1)) := rfl
            by_cases b1 : i < k
            · have b1' : (i : Int) < 0 + (k : Int) := by omega
              by_cases b2 : k < j
              · have b2' : 0 + (k : Int) < (j : Int) := by omega
                rw [if_pos ⟨b1, b2⟩]
                refine (mIf_t ?_).trans ?_
                · exact mB_eq (mChain_t (x := .c (.int i)) (y := .c (.int (0 + (k : Int)))) (w := .c (.int j)) rfl rfl rfl (congrArg (fun z => some (R.c (.bool z))) (decide_eq_true b1')) (congrArg (fun z => some (R.c (.bool z))) (decide_eq_true b2')))
                · rfl
              · have b2' : ¬ 0 + (k : Int) < (j : Int) := by omega
                rw [if_neg (fun z => b2 z.2)]
                refine (mIf_f ?_).trans ?_
                · exact mB_eq (mChain_t (x := .c (.int i)) (y := .c (.int (0 + (k : Int)))) (w := .c (.int j)) rfl rfl rfl (congrArg (fun z => some (R.c (.bool z))) (decide_eq_true b1')) (congrArg (fun z => some (R.c (.bool z))) (decide_eq_false b2')))
                · rfl
            · have b1' : ¬ (i : Int) < 0 + (k : Int) := by omega
              rw [if_neg (fun z => b1 z.1)]
              refine (mIf_f ?_).trans ?_
              · exact mB_eq (mChain_f (x := .c (.int i)) (y := .c (.int (0 + (k : Int)))) rfl rfl (congrArg (fun z => some (R.c (.bool z))) (decide_eq_false b1')))
              · rfl
          · rw [filter_true, List.map_map]
            rfl
          rintro E rfl
          generalize hl0 : ((List.range ss.length).map fun k => if i < k ∧ k < j then ((1, 1) : Pt) else (0, 1)) = L0
          have hlen0 : L0.length = ss.length := by rw [← hl0]; simp
          refine mSeq_ex (P := fun E => E = [some (.v (.list (ss.map eP))), some (.v (.int i)), some (.v (.int j)), some (.v (eP q)), some (.v (eP rs)), some (.v (.int U)), some (.v (.int fi)), some (.v (.int se)), some (.t (Tr.fl ((L0.set i (lowP fi U)).map eP))), none]) ⟨_, mSetI_fl (l := L0.map eP) (d := eP (lowP fi U)) (k := (i : Int)) (j := i) (r := .c (eP (lowP fi U))) (ri := .c (.int i)) rfl (by clear low l2; walk_at "ev" <;> rfl) rfl rfl rfl (by unfold ixN; rw [List.length_map, if_pos (by omega), if_pos (by omega)]; simp), by rw [map_set_P]; rfl⟩ ?_
          rintro E rfl
          refine mSeq_ex (P := fun E => E = [some (.v (.list (ss.map eP))), some (.v (.int i)), some (.v (.int j)), some (.v (eP q)), some (.v (eP rs)), some (.v (.int U)), some (.v (.int fi)), some (.v (.int se)), some (.t (Tr.fl (((L0.set i (lowP fi U)).set j (lowP se U)).map eP))), none]) ⟨_, mSetI_fl (l := (L0.set i (lowP fi U)).map eP) (d := eP (lowP se U)) (k := (j : Int)) (j := j) (r := .c (eP (lowP se U))) (ri := .c (.int j)) rfl (by clear low l1; walk_at "ev" <;> rfl) rfl rfl rfl (by unfold ixN; rw [List.length_map, List.length_set, if_pos (by omega), if_pos (by omega)]; simp), by rw [map_set_P]; rfl⟩ ?_
          rintro E rfl
          exact ⟨_, rfl, _, rfl, rfl⟩
        · rw [if_neg (by simp [a4])]
          clear low
          refine ⟨.rt (.c .none), ?_, _, rfl, rfl⟩
          walk_at "ev"
      · rw [if_neg (by simp [a3])]
        clear low
        refine ⟨.rt (.c .none), ?_, _, rfl, rfl⟩
        walk_at "ev"
    · rw [if_neg (by simp [a2])]
      clear low
      refine ⟨.rt (.c .none), ?_, _, rfl, rfl⟩
      walk_at "ev"
  · rw [if_neg (by simp [a1])]
    clear low
    refine ⟨.rt (.c .none), ?_, _, rfl, rfl⟩
    walk_at "ev"
abbrev s_shares_to : Stmt := top 38
abbrev N_shares_to : List Str := ["sticks", "point", "i", "j", "shares"]
def Sp_shares_to (g : List D → Option R) : Prop := ∀ (ss : List Pt) (q : Pt), SOk ss → ∃ r, g [.list (ss.map eP), eP q] = some r ∧ ∃ d, r.pro = some d ∧ (foundB ss q = true → ∃ sh : List Pt, d = .list (sh.map eP) ∧ GoodSh ss sh q) ∧ (foundB ss q = false → d = .none)
theorem sc_shares_to : FnScope N_shares_to ["sticks", "point"] (defScope s_shares_to) := ⟨rfl, rfl, rfl, by decide +kernel, rfl, by decide +kernel, by decide +kernel⟩
set_option maxHeartbeats 4000000 in
theorem ok_shares_to (T : Txt K mg C_Shares C_Apart) (F : FunG K mg "shares_to" s_shares_to ["sticks", "point"]) {g_twos : List D → Option R} (C_twos : Cal P w K mg base "twos" 1 ["many"] g_twos) (H_twos : Sp_twos g_twos) {g_shares_by_two : List D → Option R} (C_shares_by_two : Cal P w K mg base "shares_by_two" 3 ["sticks", "i", "j", "point"] g_shares_by_two) (H_shares_by_two : Sp_shares_by_two g_shares_by_two) {g_shares_of_one : List D → Option R} (C_shares_of_one : Cal P w K mg base "shares_of_one" 3 ["stick", "point"] g_shares_of_one) (H_shares_of_one : Sp_shares_of_one g_shares_of_one) : ∃ g, Cal P w K mg base "shares_to" 4 ["sticks", "point"] g ∧ Sp_shares_to g := by
  refine cal_ex F sc_shares_to (fun f cdv A outer s H E hr => (m_cons (m_if (m_tcmp (op_eqD hr.units) s_eq (m_callB call_len_seq s_len T.b_len (m_acons1 (m_var (pv 0)) m_anil)) m_int (nomark _))
    (m_sone (m_ret (m_callC C_shares_of_one (hr.mono (by decide)) (m_an2 (m_ix (m_var (pv 0)) m_int) (m_var (pv 1))))))
    m_snil)
    (m_cons (m_for (tgL [2, 3]) PassesOwn.never rfl (m_ilist (m_callC C_twos (hr.mono (by decide)) (m_acons1 (m_callB call_len_seq s_len T.b_len (m_acons1 (m_var (pv 0)) m_anil)) m_anil))) (pg_lst rfl (pgs_cons (pg_name (i := 2) sc_shares_to.nd rfl (by first | exact Or.inl rfl | exact Or.inr rfl)) (pgs_cons (pg_name (i := 3) sc_shares_to.nd rfl (by first | exact Or.inl rfl | exact Or.inr rfl)) pgs_nil)))
    (m_cons (m_set (i := 4) sc_shares_to.nd (m_callC C_shares_by_two (hr.mono (by decide)) (m_an4 (m_var (pv 0)) (m_var (pv 2)) (m_var (pv 3)) (m_var (pv 1)))))
    (m_sone (m_if (m_tcmp MD.op_isnotN s_isN (m_var (pv 4)) m_non (nomark _))
    (m_sone (m_ret (m_var (pv 4))))
    m_snil))) fsi_K)
    (m_sone (m_ret m_non))))) ?_
  intro ss q h
  refine runD_get ?_
  have hl6 := h.l6
  have hl1 := h.l1
  by_cases h1 : ss.length = 1
  · have e := one_of h1
    have a0 := at0_eq (ss := ss) (k := 0) (by omega)
    have hs := H_shares_of_one (at0 ss 0) q (h.nrs a0) (h.sd _ (List.mem_of_getElem? a0))
    have i1 := ix_Lc ss (k := 0) (j := 0) rfl a0
    have hl : (ss.length : Int) = 1 := by omega
    have hf : foundB ss q = oneB (at0 ss 0) q := by unfold foundB; rw [if_pos h1]
    rw [hf]
    cases ho : oneB (at0 ss 0) q with
    | true =>
      rw [ho, if_pos rfl] at hs
      have hgs : GoodSh ss [lowP (dt (at0 ss 0) q) (dt (at0 ss 0) (at0 ss 0))] q := by
        obtain ⟨o1, o2, o3⟩ := one_ok (h.sd _ (List.mem_of_getElem? a0)) (h.nrs a0) ho
        refine ⟨by rw [h1]; rfl, fun p hp => by cases List.mem_singleton.mp hp; exact ⟨o1, o2⟩, ?_⟩
        rw [e]
        exact o3
      refine ⟨.rt (.o [eP (lowP (dt (at0 ss 0) q) (dt (at0 ss 0) (at0 ss 0)))]), ?_, _, rfl, _, Rpro_o _, fun _ => ⟨[_], rfl, hgs⟩, fun z => by cases z⟩
      generalize lowP (dt (at0 ss 0) q) (dt (at0 ss 0) (at0 ss 0)) = lw at *
      clear e hf
      walk_at "ev"
    | false =>
      rw [ho, if_neg Bool.false_ne_true] at hs
      refine ⟨.rt (.c .none), ?_, _, rfl, _, rfl, (fun z => by cases z), fun _ => rfl⟩
      clear e hf
      walk_at "ev"
  · have hl : ¬ (ss.length : Int) = 1 := by omega
    have h2 := H_twos ss.length h.l6
    have hf : foundB ss q = (pairs ss.length).any (slabAt ss q) := by unfold foundB; rw [if_neg h1]
    rw [hf]
    refine mSeq_ex (P := fun E => E = [some (.v (.list (ss.map eP))), some (.v (eP q)), none, none, none]) ⟨_, (mIfS_f (by walk_at "ev")).trans rfl, rfl⟩ ?_
    rintro E rfl
    refine mSeq_for (l := pairs ss.length) (enc := enc2) (qs := fun a => [.int (a.1 : Nat), .int (a.2 : Nat)]) (fun pre E => ∃ j2 j3 j4, E = [some (.v (.list (ss.map eP))), some (.v (eP q)), j2, j3, j4]) (fun a => slabAt ss q a = true) (fun r => ∃ sh : List Pt, r = .c (.list (sh.map eP)) ∧ GoodSh ss sh q) (mIL_o _ (by walk_at "ev")) ⟨none, none, none, rfl⟩ ?_ ?_ ?_
    · rintro pre ⟨i, j⟩ E ha hlt _ ⟨j2, j3, j4, rfl⟩
      refine ⟨rfl, ?_⟩
      obtain ⟨p1, p2⟩ := pairs_mem ha
      simp only at p1 p2
      have hs := H_shares_by_two ss q i j h p1 p2
      by_cases hsl : slabAt ss q (i, j) = true
      · rw [if_pos hsl] at hs
        refine .inr ⟨hsl, .c (.list ((shl ss q i j).map eP)), ?_, _, rfl, shl_ok h p1 p2 hsl⟩
        clear hsl
        generalize (shl ss q i j).map eP = sh at *
        have hN : isN (.list sh) = false := rfl
        have hg : gIsN true (.c (.list sh)) (.c .none) = some (.c (.bool true)) := rfl
        walk_at "ev"
      · rw [if_neg hsl] at hs
        refine .inl ⟨hsl, _, ?_, ⟨some (.v (.int i)), some (.v (.int j)), some (.v .none), rfl⟩⟩
        have hg : gIsN true (.c .none) (.c .none) = some (.c (.bool false)) := rfl
        clear hsl
        walk_at "ev"
    · rintro hex r ⟨sh, rfl, hgs⟩
      refine ⟨_, rfl, _, rfl, fun _ => ⟨sh, rfl, hgs⟩, fun z => ?_⟩
      rw [List.any_eq_true.mpr hex] at z
      cases z
    · rintro hall E ⟨j2, j3, j4, rfl⟩
      refine ⟨.rt (.c .none), by walk_at "ev", _, rfl, _, rfl, fun z => ?_, fun _ => rfl⟩
      obtain ⟨a, h1, h2⟩ := List.any_eq_true.mp z
      exact absurd h2 (hall a h1)
abbrev s_lines_of : Stmt := top 39
abbrev N_lines_of : List Str := ["sticks", "told", "x", "y"]
def Sp_lines_of (g : List D → Option R) : Prop := ∀ ss : List Pt, ss.length ≤ 6 → g [.list (ss.map eP)] = some (.o ((linesOf ss).map eP))
theorem sc_lines_of : FnScope N_lines_of ["sticks"] (defScope s_lines_of) := ⟨rfl, rfl, rfl, by decide +kernel, rfl, by decide +kernel, by decide +kernel⟩
set_option maxHeartbeats 4000000 in
theorem ok_lines_of (T : Txt K mg C_Shares C_Apart) (F : FunG K mg "lines_of" s_lines_of ["sticks"]) : ∃ g, Cal P w K mg base "lines_of" 1 ["sticks"] g ∧ Sp_lines_of g := by
  refine cal_ex F sc_lines_of (fun f cdv A outer s H E hr => (m_cons (m_seto (i := 1) sc_lines_of.nd (m_lst m_anil))
    (m_cons (m_for (tg2 2 3) PassesOwn.never rfl (m_ilist (m_var (pv 0))) (pg_tup rfl (pgs_cons (pg_name (i := 2) sc_lines_of.nd rfl (by first | exact Or.inl rfl | exact Or.inr rfl)) (pgs_cons (pg_name (i := 3) sc_lines_of.nd rfl (by first | exact Or.inl rfl | exact Or.inr rfl)) pgs_nil)))
    (m_sone (m_extend (pv 1) (m_acons1 (m_lst (m_an4 (m_tup (m_an2 (m_var (pv 3)) (m_un un_neg s_neg (m_var (pv 2))))) (m_tup (m_an2 (m_un un_neg s_neg (m_var (pv 3))) (m_var (pv 2)))) (m_tup (m_an2 (m_var (pv 2)) (m_var (pv 3)))) (m_tup (m_an2 (m_un un_neg s_neg (m_var (pv 2))) (m_un un_neg s_neg (m_var (pv 3))))))) m_anil))) fsi_N)
    (m_sone (m_reto (pv 1)))))) ?_
  intro ss hl
  refine runD_to ?_
  refine mSeq_ex (P := fun E => E = [some (.v (.list (ss.map eP))), some (.t (Tr.fl [])), none, none]) ⟨_, by walk_at "ev" <;> rfl, rfl⟩ ?_
  rintro E rfl
  refine mSeq_ex (mForN (l := ss) (enc := eP) (qs := fun p => [.int p.1, .int p.2]) (fun pre E => ∃ j2 j3, E = [some (.v (.list (ss.map eP))), some (.t (Tr.fl ((linesOf pre).map eP))), j2, j3]) rfl ⟨none, none, rfl⟩ ?_) ?_
  · rintro pre s E hs hlt _ ⟨j2, j3, rfl⟩
    refine ⟨rfl, ?_⟩
    have hll : (linesOf pre).length = 4 * pre.length := lines_len pre
    refine ⟨_, mExt_fl (l := (linesOf pre).map eP) (l' := [eP (s.2, -s.1), eP (-s.2, s.1), eP (s.1, s.2), eP (-s.1, -s.2)]) rfl (by walk_at "ev" <;> rfl) ?_, ⟨some (.v (.int s.1)), some (.v (.int s.2)), ?_⟩⟩
    · rw [List.length_map, hll]
      exact Nat.le_trans (show 4 * pre.length + 4 ≤ 28 by omega) (by decide)
    · rw [lines_snoc, List.map_append]
      rfl
  · rintro E ⟨j2, j3, rfl⟩
    exact ⟨_, by walk_at "ev" <;> rfl, _, rfl, rfl⟩
abbrev s_parted : Stmt := top 40
abbrev N_parted : List Str := ["sticks", "point", "answers", "line", "answer"]
def Sp_parted (C_Shares C_Apart : Addr) (g : List D → Option R) : Prop := ∀ (ss : List Pt) (q : Pt), SOk ss → holdB ss q = false → ∃ r, g [.list (ss.map eP), eP q] = some r ∧ ∃ l : Pt, r = .c (.obj C_Apart ["line"] [eP l])
theorem sc_parted : FnScope N_parted ["sticks", "point"] (defScope s_parted) := ⟨rfl, rfl, rfl, by decide +kernel, rfl, by decide +kernel, by decide +kernel⟩
set_option maxHeartbeats 4000000 in
theorem ok_parted (T : Txt K mg C_Shares C_Apart) (F : FunG K mg "parted" s_parted ["sticks", "point"]) {g_Apart_shows : List D → Option R} (C_Apart_shows : Mth P w K mg base C_Apart "shows" 3 3 g_Apart_shows) (H_Apart_shows : Sp_Apart_shows C_Shares C_Apart g_Apart_shows) {g_lines_of : List D → Option R} (C_lines_of : Cal P w K mg base "lines_of" 1 ["sticks"] g_lines_of) (H_lines_of : Sp_lines_of g_lines_of) {g_Apart_init : List D → Option (List Tr)} (C_Apart_init : Ini P w K mg base C_Apart 1 1 ["line"] g_Apart_init) (H_Apart_init : Sp_Apart_init g_Apart_init) : ∃ g, Cal P w K mg base "parted" 4 ["sticks", "point"] g ∧ Sp_parted C_Shares C_Apart g := by
  refine cal_ex F sc_parted (fun f cdv A outer s H E hr => (m_cons (m_setLc (i := 2) (own := [("line", 3)]) rfl sc_parted.nd (tg1 3) (m_ilist (m_callC C_lines_of (hr.mono (by decide)) (m_acons1 (m_var (pv 0)) m_anil))) (blkOk_by (own := [("line", 3)]) (N := N_parted) (sc := defScope s_parted) (by decide +kernel)) (fun _ _ _ _ _ => (pg_name (i := 3) sc_parted.nd rfl (by first | exact Or.inl rfl | exact Or.inr rfl))) (fun _ _ _ _ _ => m_pts0) (fun _ _ _ _ _ => (m_makeC C_Apart_init (hr.mono (by decide)) T.mc_Apart (m_acons1 (m_var (pv 3)) m_anil))))
    (m_sone (m_ret (m_ix (m_lc (own := [("answer", 4)]) rfl sc_parted.nd (tg1 4) (m_ilist (m_var (pv 2))) (blkOk_by (own := [("answer", 4)]) (N := N_parted) (sc := defScope s_parted) (by decide +kernel)) (fun _ _ _ _ _ => (pg_name (i := 4) sc_parted.nd rfl (by first | exact Or.inl rfl | exact Or.inr rfl))) (fun _ _ _ _ _ => (pts_one (m_tval (m_methC C_Apart_shows (m_var (pv 4)) T.cl_Apart (hr.mono (by decide)) (m_an2 (m_var (pv 0)) (m_var (pv 1))))))) (fun _ _ _ _ _ => (m_var (pv 4)))) m_int))))) ?_
  intro ss q h hh
  refine runD_get ?_
  have hl := H_lines_of ss h.l6
  have hsm : ∀ s ∈ ss, Sm s := fun s hs => near_sm (h.nr s hs)
  have hll : (linesOf ss).length ≤ 24 := by rw [lines_len]; have := h.l6; omega
  have hlim : (linesOf ss).length ≤ lim := Nat.le_trans hll (by decide)
  refine mSeq_ex (P := fun E => E = [some (.v (.list (ss.map eP))), some (.v (eP q)), some (.v (.list ((linesOf ss).map fun l => .obj C_Apart ["line"] [eP l]))), none, none]) ⟨_, mAsgV_eq (mLcG (l := linesOf ss) (enc := eP) (qs := fun p => [eP p]) (b := fun _ => true) (y := fun l => .obj C_Apart ["line"] [eP l]) (c := true) (mIL_o _ (by walk_at "ev" <;> rfl)) hlim fun l hl => ⟨rfl, rfl, rfl, fun _ => ⟨_, mMake1 (r := .c (eP l)) rfl rfl (H_Apart_init l), obj_pro _ _ _⟩⟩) (Rpro_o _), by rw [filter_true]; rfl⟩ ?_
  rintro E rfl
  obtain ⟨l0, hm0, hp0⟩ := part_line h hh
  have hlc : ∀ (me : ME) (mt : MT), (∀ l ∈ linesOf ss, mt [some (.v (.list (ss.map eP))), some (.v (eP q)), some (.v (.list ((linesOf ss).map fun l => .obj C_Apart ["line"] [eP l]))), none, some (.v (.obj C_Apart ["line"] [eP l]))] = some (decide (reachI ss l < dt l q))) → me = mVar 4 → mLc [4] pick1 (mIL (mVar 2)) mt me [some (.v (.list (ss.map eP))), some (.v (eP q)), some (.v (.list ((linesOf ss).map fun l => .obj C_Apart ["line"] [eP l]))), none, none] = some (.o (((linesOf ss).filter fun l => decide (reachI ss l < dt l q)).map fun l => .obj C_Apart ["line"] [eP l])) := fun me mt hmt hme => by
    subst hme
    exact mLcG (l := linesOf ss) (enc := fun l => .obj C_Apart ["line"] [eP l]) (qs := fun l => [.obj C_Apart ["line"] [eP l]]) (c := true) rfl hlim fun l hl => ⟨rfl, rfl, hmt l hl, fun _ => ⟨_, rfl, rfl⟩⟩
  have hmem : l0 ∈ (linesOf ss).filter fun l => decide (reachI ss l < dt l q) := List.mem_filter.mpr ⟨hm0, decide_eq_true hp0⟩
  obtain ⟨l1, L, hL⟩ : ∃ l1 L, ((linesOf ss).filter fun l => decide (reachI ss l < dt l q)) = l1 :: L := by
    cases e : (linesOf ss).filter fun l => decide (reachI ss l < dt l q) with
    | nil => rw [e] at hmem; cases hmem
    | cons a L => exact ⟨a, L, rfl⟩
  refine ⟨_, mRet_eq (r := .c (.obj C_Apart ["line"] [eP l1])) ((mOp_eq (y := .c (.int 0)) (hlc _ _ (fun l hl => ?_) rfl) rfl).trans ?_), _, rfl, l1, rfl⟩
  · have hs := H_Apart_shows ss l q h.l6 hsm (.inl (line_sm h hl))
    refine mB_eq ?_
    show (match (R.c (.obj C_Apart ["line"] [eP l])).d with | .obj C' ns _ => if C' = C_Apart ∧ ("shows" : Str) ∉ ns then mCall 3 g_Apart_shows _ _ else none | _ => none) = _
    show (if C_Apart = C_Apart ∧ ("shows" : Str) ∉ [("line" : Str)] then mCall 3 g_Apart_shows _ _ else none) = _
    rw [if_pos ⟨rfl, by decide⟩]
    generalize decide (reachI ss l < dt l q) = k at *
    walk_at "ev"
  · rw [hL, List.map_cons]
    exact ix_o0 _ _
abbrev s_within : Stmt := top 41
abbrev N_within : List Str := ["sticks", "point", "shares"]
def Sp_within (C_Shares C_Apart : Addr) (g : List D → Option R) : Prop := ∀ (ss : List Pt) (q : Pt), SOk ss → ∃ r, g [.list (ss.map eP), eP q] = some r ∧ (foundB ss q = true → ∃ sh : List Pt, r = .t (.obj C_Shares ["shares"] [Tr.fl (sh.map eP)]) ∧ GoodSh ss sh q) ∧ (foundB ss q = false → ∃ l : Pt, r = .c (.obj C_Apart ["line"] [eP l]))
theorem sc_within : FnScope N_within ["sticks", "point"] (defScope s_within) := ⟨rfl, rfl, rfl, by decide +kernel, rfl, by decide +kernel, by decide +kernel⟩
set_option maxHeartbeats 4000000 in
theorem ok_within (T : Txt K mg C_Shares C_Apart) (F : FunG K mg "within" s_within ["sticks", "point"]) {g_Shares_init : List D → Option (List Tr)} (C_Shares_init : Ini P w K mg base C_Shares 1 1 ["shares"] g_Shares_init) (H_Shares_init : Sp_Shares_init g_Shares_init) {g_parted : List D → Option R} (C_parted : Cal P w K mg base "parted" 4 ["sticks", "point"] g_parted) (H_parted : Sp_parted C_Shares C_Apart g_parted) {g_shares_to : List D → Option R} (C_shares_to : Cal P w K mg base "shares_to" 4 ["sticks", "point"] g_shares_to) (H_shares_to : Sp_shares_to g_shares_to) {g_check_point : List D → Option R} (C_check_point : Cal P w K mg base "check_point" 3 ["value"] g_check_point) (H_check_point : Sp_check_point g_check_point) {g_check_sticks : List D → Option R} (C_check_sticks : Cal P w K mg base "check_sticks" 6 ["value"] g_check_sticks) (H_check_sticks : Sp_check_sticks g_check_sticks) : ∃ g, Cal P w K mg base "within" 7 ["sticks", "point"] g ∧ Sp_within C_Shares C_Apart g := by
  refine cal_ex F sc_within (fun f cdv A outer s H E hr => (m_cons (m_expr (m_callC C_check_sticks (hr.mono (by decide)) (m_acons1 (m_var (pv 0)) m_anil)))
    (m_cons (m_expr (m_callC C_check_point (hr.mono (by decide)) (m_acons1 (m_var (pv 1)) m_anil)))
    (m_cons (m_set (i := 2) sc_within.nd (m_callC C_shares_to (hr.mono (by decide)) (m_an2 (m_var (pv 0)) (m_var (pv 1)))))
    (m_cons (m_if (m_tcmp MD.op_isN s_isN (m_var (pv 2)) m_non (nomark _))
    (m_sone (m_ret (m_callC C_parted (hr.mono (by decide)) (m_an2 (m_var (pv 0)) (m_var (pv 1))))))
    m_snil)
    (m_sone (m_ret (m_makeC C_Shares_init (hr.mono (by decide)) T.mc_Shares (m_acons1 (m_var (pv 2)) m_anil))))))))) ?_
  intro ss q h
  refine runD_get ?_
  have h1 := H_check_sticks ss h
  have h2 := H_check_point q
  obtain ⟨r, h3, d, hp, hd1, hd2⟩ := H_shares_to ss q h
  refine mSeq_ex (P := fun E => E = [some (.v (.list (ss.map eP))), some (.v (eP q)), none]) ⟨_, by walk_at "ev" <;> rfl, rfl⟩ ?_
  rintro E rfl
  refine mSeq_ex (P := fun E => E = [some (.v (.list (ss.map eP))), some (.v (eP q)), none]) ⟨_, by walk_at "ev" <;> rfl, rfl⟩ ?_
  rintro E rfl
  refine mSeq_ex (P := fun E => E = [some (.v (.list (ss.map eP))), some (.v (eP q)), some (.v d)]) ⟨_, mAsgV_eq (mCall2 (x := .c (.list (ss.map eP))) (y := .c (eP q)) rfl rfl rfl rfl h3) (by cases r with | c d => exact hp | u d => exact up_pro hp | t T => exact hp), rfl⟩ ?_
  rintro E rfl
  cases hf : foundB ss q with
  | true =>
    obtain ⟨sh, rfl, hgs⟩ := hd1 hf
    have hg : gIsN false (.c (.list (sh.map eP))) (.c .none) = some (.c (.bool false)) := rfl
    refine ⟨.rt (.t (.obj C_Shares ["shares"] [Tr.fl (sh.map eP)])), ?_, _, rfl, fun _ => ⟨sh, rfl, hgs⟩, fun z => by cases z⟩
    refine (mSeq_nx (E1 := [some (.v (.list (ss.map eP))), some (.v (eP q)), some (.v (.list (sh.map eP)))]) ((mIfS_f (mB_eq ((mOp_eq (x := .c (.list (sh.map eP))) (y := .c .none) rfl rfl).trans hg))).trans rfl)).trans ?_
    exact mRet_eq (mMake1 (r := .c (.list (sh.map eP))) rfl rfl (H_Shares_init sh))
  | false =>
    have hd := hd2 hf
    subst hd
    have hno : holdB ss q = false := by
      cases e : holdB ss q with
      | false => rfl
      | true => rw [hold_found h e] at hf; cases hf
    obtain ⟨r', hr', l, rfl⟩ := H_parted ss q h hno
    have hg : gIsN false (.c .none) (.c .none) = some (.c (.bool true)) := rfl
    refine ⟨.rt (.c (.obj C_Apart ["line"] [eP l])), ?_, _, rfl, (fun z => by cases z), fun _ => ⟨l, rfl⟩⟩
    have e : (mIfS (mB (mOp (gIsN false) (mVar 2) (mC D.none))) (mRet (mCall 2 g_parted (mCons (mVar 0) (mCons (mVar 1) mNil)))) mNext) [some (.v (.list (ss.map eP))), some (.v (eP q)), some (.v .none)] = some (.rt (.c (.obj C_Apart ["line"] [eP l]))) :=
      (mIfS_t (mB_eq ((mOp_eq (x := .c .none) (y := .c .none) rfl rfl).trans hg))).trans (mRet_eq (r := .c (.obj C_Apart ["line"] [eP l])) (mCall2 (x := .c (.list (ss.map eP))) (y := .c (eP q)) rfl rfl rfl rfl hr'))
    exact mSeq_rt e
abbrev s__law_number : Stmt := top 43
abbrev N__law_number : List Str := ["_law_cell", "_law_at", "_law_whole_here", "_law_mixed", "_law_more"]
def Sp__law_number (g : List D → Option R) : Prop := ∀ cell at' whole : Int, Builtin.Int.intBits cell ≤ 1048576 → 0 ≤ at' → at' ≤ 1000 → ∃ v, g [.int cell, .int at', .int whole] = some (.c (.int v))
theorem sc__law_number : FnScope N__law_number ["_law_cell", "_law_at", "_law_whole_here"] (defScope s__law_number) := ⟨rfl, rfl, rfl, by decide +kernel, rfl, by decide +kernel, by decide +kernel⟩
set_option maxHeartbeats 4000000 in
theorem ok__law_number (T : Txt K mg C_Shares C_Apart) (F : FunG K mg "_law_number" s__law_number ["_law_cell", "_law_at", "_law_whole_here"]) : ∃ g, Cal P w K mg base "_law_number" 1 ["_law_cell", "_law_at", "_law_whole_here"] g ∧ Sp__law_number g := by
  refine cal_ex F sc__law_number (fun f cdv A outer s H E hr => (m_cons (m_if (m_tcmp op_ge s_ge (m_var (pv 0)) (m_op op_pow s_pow m_int m_int) (nomark _))
    (m_sone (m_ret (m_var (pv 0))))
    m_snil)
    (m_cons (m_set (i := 3) sc__law_number.nd (m_op op_mod s_mod (m_op op_addG s_add (m_op op_mulB s_mul (m_op op_addG s_add (m_var (pv 0)) (m_op op_mulB s_mul m_int (m_var (pv 1)))) m_int) (m_var (pv 2))) m_int))
    (m_cons (m_set (i := 4) sc__law_number.nd (m_op op_mulB s_mul (m_op op_mulB s_mul (m_var (pv 3)) (m_op op_addG s_add (m_op op_addG s_add (m_var (pv 3)) (m_op op_mulB s_mul m_int (m_var (pv 1)))) m_int)) (m_op op_addG s_add (m_op op_addG s_add (m_var (pv 3)) (m_var (pv 0))) m_int)))
    (m_sone (m_ret (m_op op_fdiv s_div (m_op op_mulB s_mul (m_var (pv 4)) (m_op op_addG s_add (m_var (pv 4)) m_int)) m_int))))))) ?_
  intro cell at' whole hc h0 h1
  obtain ⟨m1, m2, m3, m4, m5, m6⟩ := fold_num hc h0 h1 (((cell + 977 * at') * 48271 + whole) % 2147483647) rfl
  by_cases hb : (1000000000000000000 : Int) ≤ cell
  · refine ⟨cell, runD_eq (r := .c (.int cell)) ?_⟩
    walk_at "ev"
  · generalize hm : ((cell + 977 * at') * 48271 + whole) % 2147483647 = mixed at m4 m5 m6
    refine ⟨(mixed * (mixed + 31 * at' + 7) * (mixed + cell + 5)) * (mixed * (mixed + 31 * at' + 7) * (mixed + cell + 5) + 48271) / 1009, runD_eq (r := .c (.int ((mixed * (mixed + 31 * at' + 7) * (mixed + cell + 5)) * (mixed * (mixed + 31 * at' + 7) * (mixed + cell + 5) + 48271) / 1009))) ?_⟩
    walk_at "ev"
abbrev s__law_whole : Stmt := top 44
abbrev N__law_whole : List Str := ["_law_found"]
def Sp__law_whole (g : List D → Option R) : Prop := ∀ n : Int, g [.int n] = some (.c (.bool true))
theorem sc__law_whole : FnScope N__law_whole ["_law_found"] (defScope s__law_whole) := ⟨rfl, rfl, rfl, by decide +kernel, rfl, by decide +kernel, by decide +kernel⟩
set_option maxHeartbeats 4000000 in
theorem ok__law_whole (T : Txt K mg C_Shares C_Apart) (F : FunG K mg "_law_whole" s__law_whole ["_law_found"]) : ∃ g, Cal P w K mg base "_law_whole" 1 ["_law_found"] g ∧ Sp__law_whole g := by
  refine cal_ex F sc__law_whole (fun f cdv A outer s H E hr => (m_sone (m_ret (m_and (m_isi .int T.b_isinstance T.b_int (m_var (pv 0))) (m_one (m_not (m_isi .bool T.b_isinstance T.b_bool (m_var (pv 0))))))))) ?_
  intro n
  exact runD_eq (r := .c (.bool true)) rfl
abbrev s__law_span : Stmt := top 45
abbrev N__law_span : List Str := ["_law_one", "_law_other"]
def Sp__law_span (g : List D → Option R) : Prop := ∀ p q : Pt, (Sm p ∨ Sm q) → g [eP p, eP q] = some (.c (.int (sp p q)))
theorem sc__law_span : FnScope N__law_span ["_law_one", "_law_other"] (defScope s__law_span) := ⟨rfl, rfl, rfl, by decide +kernel, rfl, by decide +kernel, by decide +kernel⟩
set_option maxHeartbeats 4000000 in
theorem ok__law_span (T : Txt K mg C_Shares C_Apart) (F : FunG K mg "_law_span" s__law_span ["_law_one", "_law_other"]) : ∃ g, Cal P w K mg base "_law_span" 1 ["_law_one", "_law_other"] g ∧ Sp__law_span g := by
  refine cal_ex F sc__law_span (fun f cdv A outer s H E hr => (m_sone (m_ret (m_op op_sub s_sub (m_op op_mulB s_mul (m_ix (m_var (pv 0)) m_int) (m_ix (m_var (pv 1)) m_int)) (m_op op_mulB s_mul (m_ix (m_var (pv 0)) m_int) (m_ix (m_var (pv 1)) m_int)))))) ?_
  intro p q hq
  refine runD_eq (r := .c (.int (sp p q))) ?_
  have h1 : mulOk p.1 q.2 = true := hq.elim (fun h => mul_l h.1) (fun h => mul_r h.2)
  have h2 : mulOk p.2 q.1 = true := hq.elim (fun h => mul_l h.2) (fun h => mul_r h.1)
  walk_at "ev"
  rfl
abbrev s__law_pair : Stmt := top 46
abbrev N__law_pair : List Str := ["_law_number_here", "_law_far", "_law_x", "_law_y"]
def Sp__law_pair (g : List D → Option R) : Prop := ∀ n f : Int, 1 ≤ f → f ≤ 20 → g [.int n, .int f] = some (.c (eP (lpairF f n)))
theorem sc__law_pair : FnScope N__law_pair ["_law_number_here", "_law_far"] (defScope s__law_pair) := ⟨rfl, rfl, rfl, by decide +kernel, rfl, by decide +kernel, by decide +kernel⟩
set_option maxHeartbeats 4000000 in
theorem ok__law_pair (T : Txt K mg C_Shares C_Apart) (F : FunG K mg "_law_pair" s__law_pair ["_law_number_here", "_law_far"]) : ∃ g, Cal P w K mg base "_law_pair" 1 ["_law_number_here", "_law_far"] g ∧ Sp__law_pair g := by
  refine cal_ex F sc__law_pair (fun f cdv A outer s H E hr => (m_cons (m_par (i := 2) (j := 3) rfl sc__law_pair.nd (m_an2 (m_op op_sub s_sub (m_op op_mod s_mod (m_var (pv 0)) (m_op op_addG s_add (m_op op_mulB s_mul m_int (m_var (pv 1))) m_int)) (m_var (pv 1))) (m_op op_mod s_mod (m_op op_fdiv s_div (m_var (pv 0)) m_int) (m_op op_addG s_add (m_var (pv 1)) m_int))))
    (m_cons (m_if (m_tcmp (op_eqD hr.units) s_eq (m_var (pv 3)) m_int (nomark _))
    (m_sone (m_set (i := 2) sc__law_pair.nd (m_op op_addG s_add m_int (m_op op_mod s_mod (m_callB call_abs s_abs T.b_abs (m_acons1 (m_var (pv 2)) m_anil)) (m_var (pv 1))))))
    m_snil)
    (m_sone (m_ret (m_tup (m_an2 (m_var (pv 2)) (m_var (pv 3))))))))) ?_
  intro n f hf hf2
  refine runD_eq (r := .c (eP (lpairF f n))) ?_
  have m1 : mulOk 2 f = true := mul_l (by decide)
  have p1 : (0 : Int) < 2 * f + 1 := by omega
  have p2 : (0 : Int) < f + 1 := by omega
  have p3 : (0 : Int) < f := by omega
  unfold lpairF absI
  by_cases h : n / 41 % (f + 1) = 0
  · walk_at "ev"
  · walk_at "ev"
abbrev s__law_sticks : Stmt := top 47
abbrev N__law_sticks : List Str := ["_law_script", "_law_by", "_law_most", "_law_far", "_law_cells", "_law_whole_here", "_law_found", "_law_at", "_law_stick", "_law_one", "_law_place"]
def Sp__law_sticks (g : List D → Option R) : Prop := ∀ (ns : List Int) (by' : Int), (∀ n ∈ ns, Builtin.Int.intBits n ≤ 1048576) → 0 ≤ by' → by' ≤ 10 → ∀ most far : Int, 1 ≤ most → most ≤ 6 → 1 ≤ far → far ≤ 20 → ∃ r, g [.list (ns.map .int), .int by', .int most, .int far] = some r ∧ ∃ ps : List Pt, r = .o (ps.map eP) ∧ SOk ps ∧ (ps.length : Int) ≤ most ∧ ∀ p ∈ ps, Far far p
theorem sc__law_sticks : FnScope N__law_sticks ["_law_script", "_law_by", "_law_most", "_law_far"] (defScope s__law_sticks) := ⟨rfl, rfl, rfl, by decide +kernel, rfl, by decide +kernel, by decide +kernel⟩
set_option maxHeartbeats 4000000 in
theorem ok__law_sticks (T : Txt K mg C_Shares C_Apart) (F : FunG K mg "_law_sticks" s__law_sticks ["_law_script", "_law_by", "_law_most", "_law_far"]) {g__law_span : List D → Option R} (C__law_span : Cal P w K mg base "_law_span" 1 ["_law_one", "_law_other"] g__law_span) (H__law_span : Sp__law_span g__law_span) {g__law_pair : List D → Option R} (C__law_pair : Cal P w K mg base "_law_pair" 1 ["_law_number_here", "_law_far"] g__law_pair) (H__law_pair : Sp__law_pair g__law_pair) {g__law_number : List D → Option R} (C__law_number : Cal P w K mg base "_law_number" 1 ["_law_cell", "_law_at", "_law_whole_here"] g__law_number) (H__law_number : Sp__law_number g__law_number) : ∃ g, Cal P w K mg base "_law_sticks" 2 ["_law_script", "_law_by", "_law_most", "_law_far"] g ∧ Sp__law_sticks g := by
  refine cal_ex F sc__law_sticks (fun f cdv A outer s H E hr => (m_cons (m_set (i := 4) sc__law_sticks.nd (m_ifExp (m_tcmp (op_neD hr.units) s_ne (m_var (pv 0)) (m_lst m_anil) (nomark _)) (m_slice (m_var (pv 0)) m_ponone (m_posome m_int)) (m_lst (m_acons1 m_int m_anil))))
    (m_cons (m_set (i := 5) sc__law_sticks.nd (m_op op_addG s_add (m_callB (cr_sum rfl) s_sum T.b_sum (m_acons1 (m_var (pv 4)) m_anil)) (m_var (pv 1))))
    (m_cons (m_seto (i := 6) sc__law_sticks.nd (m_lst m_anil))
    (m_cons (m_for (tg1 7) PassesOwn.never rfl (m_irange1 T.b_range (m_acons1 (m_op op_addG s_add m_int (m_op op_mod s_mod (m_var (pv 5)) (m_var (pv 2)))) m_anil)) (pg_name (i := 7) sc__law_sticks.nd rfl (by first | exact Or.inl rfl | exact Or.inr rfl))
    (m_cons (m_set (i := 8) sc__law_sticks.nd (m_callC C__law_pair (hr.mono (by decide)) (m_an2 (m_op op_fdiv s_div (m_callC C__law_number (hr.mono (by decide)) (m_an3 (m_ix (m_var (pv 4)) (m_op op_mod s_mod (m_op op_addG s_add (m_var (pv 7)) (m_var (pv 1))) (m_callB call_len_seq s_len T.b_len (m_acons1 (m_var (pv 4)) m_anil)))) (m_op op_addG s_add (m_var (pv 7)) (m_var (pv 1))) (m_var (pv 5)))) m_int) (m_var (pv 3)))))
    (m_sone (m_if (m_tnot (m_tval (m_callB (cr_any rfl) s_any T.b_any (m_acons1 (m_lc (own := [("_law_one", 9)]) rfl sc__law_sticks.nd (tg1 9) (m_ilist (m_var (pv 6))) (blkOk_by (own := [("_law_one", 9)]) (N := N__law_sticks) (sc := defScope s__law_sticks) (by decide +kernel)) (fun _ _ _ _ _ => (pg_name (i := 9) sc__law_sticks.nd rfl (by first | exact Or.inl rfl | exact Or.inr rfl))) (fun _ _ _ _ _ => m_pts0) (fun _ _ _ _ _ => (m_cmp (op_eqD hr.units) s_eq (m_callC C__law_span (hr.mono (by decide)) (m_an2 (m_var (pv 9)) (m_var (pv 8)))) m_int (nomark _)))) m_anil))))
    (m_cons (m_set (i := 10) sc__law_sticks.nd (m_callB call_len_seq s_len T.b_len (m_acons1 (m_lc (own := [("_law_one", 9)]) rfl sc__law_sticks.nd (tg1 9) (m_ilist (m_var (pv 6))) (blkOk_by (own := [("_law_one", 9)]) (N := N__law_sticks) (sc := defScope s__law_sticks) (by decide +kernel)) (fun _ _ _ _ _ => (pg_name (i := 9) sc__law_sticks.nd rfl (by first | exact Or.inl rfl | exact Or.inr rfl))) (fun _ _ _ _ _ => (pts_one (m_tcmp op_gt s_gt (m_callC C__law_span (hr.mono (by decide)) (m_an2 (m_var (pv 9)) (m_var (pv 8)))) m_int (nomark _)))) (fun _ _ _ _ _ => (m_var (pv 9)))) m_anil)))
    (m_sone (m_insert (pv 6) (m_an2 (m_var (pv 10)) (m_var (pv 8))))))
    m_snil))) fsi_K)
    (m_sone (m_reto (pv 6)))))))) ?_
  intro ns by' hbits hb0 hb1 most far hm1 hm6 hf1 hf20
  refine runD_get ?_
  refine mSeq_ex (P := fun E => ∃ cs : List Int, cs ≠ [] ∧ (∀ c ∈ cs, Builtin.Int.intBits c ≤ 1048576) ∧ E = [some (.v (.list (ns.map .int))), some (.v (.int by')), some (.v (.int most)), some (.v (.int far)), some (.v (.list (cs.map .int))), none, none, none, none, none, none]) ?_ ?_
  · by_cases hn : ns = []
    · subst hn
      refine ⟨_, by walk_at "ev" <;> rfl, [5], by simp, fun c hc => ?_, rfl⟩
      rw [List.mem_singleton.mp hc]
      decide
    · obtain ⟨cs, e1, e2, e3⟩ := cut63 ns
      refine ⟨_, by walk_at "ev" <;> rfl, cs, e3 hn, fun c hc => hbits c (e2 c hc), rfl⟩
  · rintro E ⟨cs, hc, hcb, rfl⟩
    refine mSeq_ex (P := fun E => E = [some (.v (.list (ns.map .int))), some (.v (.int by')), some (.v (.int most)), some (.v (.int far)), some (.v (.list (cs.map .int))), some (.v (.int (cs.sum + by'))), none, none, none, none, none]) ⟨_, by walk_at "ev" <;> rfl, rfl⟩ ?_
    rintro E rfl
    refine mSeq_ex (P := fun E => E = [some (.v (.list (ns.map .int))), some (.v (.int by')), some (.v (.int most)), some (.v (.int far)), some (.v (.list (cs.map .int))), some (.v (.int (cs.sum + by'))), some (.t (Tr.fl [])), none, none, none, none]) ⟨_, by walk_at "ev" <;> rfl, rfl⟩ ?_
    rintro E rfl
    have w0 := Int.emod_nonneg (cs.sum + by') (show most ≠ 0 by omega)
    have w1 := Int.emod_lt_of_pos (cs.sum + by') (show (0 : Int) < most by omega)
    have hmp : (0 : Int) < most := by omega
    have hlen : 0 < cs.length := by cases cs with | nil => exact absurd rfl hc | cons _ _ => simp
    refine mSeq_ex (mFor_ind (l := List.range (1 + (cs.sum + by') % most).toNat) (enc := fun i => D.int (0 + (i : Int))) (fun pre E => ∃ (ps : List Pt) (j7 j8 j9 j10 : Option Sl), E = [some (.v (.list (ns.map .int))), some (.v (.int by')), some (.v (.int most)), some (.v (.int far)), some (.v (.list (cs.map .int))), some (.v (.int (cs.sum + by'))), some (.t (Tr.fl (ps.map eP))), j7, j8, j9, j10] ∧ ps.length ≤ pre.length ∧ (∀ p ∈ ps, Far far p ∧ Std p) ∧ ps.Pairwise (fun a b => 0 < sp a b) ∧ (pre ≠ [] → ps ≠ [])) ?_ ⟨[], none, none, none, none, rfl, by simp, by simp, by simp, by simp⟩ ?_) ?_
    · exact mIR1_eq (by walk_at "ev") (by unfold big62; apply decide_eq_true; omega)
    · rintro pre i E hi hlt ⟨post, hpost⟩ ⟨ps, j7, j8, j9, j10, rfl, g1, g2, gp, g3⟩
      have hi6 : i < (1 + (cs.sum + by') % most).toNat := List.mem_range.mp hi
      have k0 := Int.emod_nonneg ((i : Int) + by') (show (cs.length : Int) ≠ 0 by omega)
      have k1 := Int.emod_lt_of_pos ((i : Int) + by') (show (0 : Int) < cs.length by omega)
      obtain ⟨c, hcm, hix⟩ := ix_ints cs k0 k1
      obtain ⟨v, hv⟩ := H__law_number c ((i : Int) + by') (cs.sum + by') (hcb c hcm) (by omega) (by omega)
      have hp := H__law_pair (v / 3) far hf1 hf20
      have hgood := lpairF_ok (v / 3) hf1
      generalize lpairF far (v / 3) = q at hp hgood
      have hsm := near_sm (hgood.1.near hf20)
      have hpl : ps.length ≤ lim := by
        have : pre.length ≤ 6 := by rw [List.length_range] at hlt; omega
        exact Nat.le_trans g1 (Nat.le_trans this (by decide))
      have hsp : ∀ s, g__law_span [eP s, eP q] = some (.c (.int (sp s q))) := fun s => H__law_span s q (.inr hsm)
      have hcl : (0 : Int) < cs.length := by omega
      by_cases ha : (ps.any fun s => decide (sp s q = 0)) = true
      · refine ⟨_, (mSeq_nx (E1 := [some (.v (.list (ns.map .int))), some (.v (.int by')), some (.v (.int most)), some (.v (.int far)), some (.v (.list (cs.map .int))), some (.v (.int (cs.sum + by'))), some (.t (Tr.fl (ps.map eP))), some (.v (.int i)), some (.v (eP q)), j9, j10]) (by walk_at "ev")).trans ((mIfS_f ?_).trans rfl), ps, _, _, j9, j10, rfl, ?_, g2, gp, fun _ hz => ?_⟩
        · walk_at "ev"
          rw [mLc1 (l := ps) (enc := eP) (b := fun _ => true) (y := fun s => .bool (decide (sp s q = 0))) (c := false) (mIL_u _ (by walk_at "ev")) hpl (fun s hs => ⟨flat_P s, rfl, fun _ => ⟨.c (.bool (decide (sp s q = 0))), by walk_at "ev", rfl⟩⟩)]
          rw [filter_true]
          show (((gAny [R.o (ps.map fun s => D.bool (decide (sp s q = 0)))]).bind _).bind _) = _
          rw [any_f, ha]
          rfl
        · rw [List.length_append]; exact Nat.le_succ_of_le g1
        · rw [hz] at ha; simp at ha
      · have ha' : (ps.any fun s => decide (sp s q = 0)) = false := by simpa using ha
        have hnz : ∀ s ∈ ps, sp s q ≠ 0 := fun s hs hz => by
          have := List.any_eq_false.mp ha' s hs
          simp [hz] at this
        have hkk : -(2 ^ 63 : Int) ≤ ((ps.filter fun s => decide (0 < sp s q)).length : Int) ∧ ((ps.filter fun s => decide (0 < sp s q)).length : Int) < 2 ^ 63 := by
          have := List.length_filter_le (fun s => decide (0 < sp s q)) ps
          have h6 : lim = 100000 := rfl
          omega
        refine ⟨_, (mSeq_nx (E1 := [some (.v (.list (ns.map .int))), some (.v (.int by')), some (.v (.int most)), some (.v (.int far)), some (.v (.list (cs.map .int))), some (.v (.int (cs.sum + by'))), some (.t (Tr.fl (ps.map eP))), some (.v (.int i)), some (.v (eP q)), j9, j10]) (by walk_at "ev")).trans ((mIfS_t ?_).trans ((mSeq_nx (E1 := [some (.v (.list (ns.map .int))), some (.v (.int by')), some (.v (.int most)), some (.v (.int far)), some (.v (.list (cs.map .int))), some (.v (.int (cs.sum + by'))), some (.t (Tr.fl (ps.map eP))), some (.v (.int i)), some (.v (eP q)), j9, some (.v (.int (ps.filter fun s => decide (0 < sp s q)).length))]) ?_).trans (mIns_fl (l := ps.map eP) (d := eP q) (k := (ps.filter fun s => decide (0 < sp s q)).length) rfl (by walk_at "ev" <;> rfl) (by walk_at "ev") (by rw [List.length_map]; exact Nat.lt_of_le_of_lt (Nat.le_trans g1 (by rw [List.length_range] at hlt; omega : pre.length ≤ 6)) (by decide)) hkk))), insAt ps (ps.filter fun s => decide (0 < sp s q)).length q, some (.v (.int i)), some (.v (eP q)), j9, some (.v (.int (ps.filter fun s => decide (0 < sp s q)).length)), ?_, ?_, ins_mem g2 hgood, ins_pw hgood.2 (fun s hs => (g2 s hs).2) gp hnz, fun _ hz => ?_⟩
        · walk_at "ev"
          rw [mLc1 (l := ps) (enc := eP) (b := fun _ => true) (y := fun s => .bool (decide (sp s q = 0))) (c := false) (mIL_u _ (by walk_at "ev")) hpl (fun s hs => ⟨flat_P s, rfl, fun _ => ⟨.c (.bool (decide (sp s q = 0))), by walk_at "ev", rfl⟩⟩)]
          rw [filter_true]
          show (((gAny [R.o (ps.map fun s => D.bool (decide (sp s q = 0)))]).bind _).bind _) = _
          rw [any_f, ha']
          rfl
        · walk_at "ev"
          rw [mLc1 (l := ps) (enc := eP) (b := fun s => decide (0 < sp s q)) (y := eP) (c := false) (mIL_u _ (by walk_at "ev")) hpl (fun s hs => ⟨flat_P s, by walk_at "ev", fun _ => ⟨.c (eP s), by walk_at "ev", rfl⟩⟩)]
          show (((gLen [R.o ((ps.filter fun s => decide (0 < sp s q)).map eP)]).bind _)) = _
          rw [len_Lo, List.length_map]
          rfl
        · rw [insAt_mapE]
          rfl
        · rw [insAt_len, List.length_append]; exact Nat.succ_le_succ g1
        · have := insAt_len ps (ps.filter fun s => decide (0 < sp s q)).length q
          rw [hz] at this
          simp at this
    · rintro E ⟨ps, j7, j8, j9, j10, rfl, g1, g2, gp, g3⟩
      refine ⟨_, by walk_at "ev" <;> rfl, _, rfl, ps, rfl, ⟨?_, ?_, fun s hs => (g2 s hs).1.near hf20, fun s hs => (g2 s hs).2, gp⟩, ?_, fun s hs => (g2 s hs).1⟩
      · have : ps ≠ [] := g3 (fun hz => by have := congrArg List.length hz; rw [List.length_range] at this; simp at this; omega)
        cases ps with
        | nil => exact absurd rfl this
        | cons _ _ => simp
      · rw [List.length_range] at g1; omega
      · rw [List.length_range] at g1; omega
abbrev s__law_sum : Stmt := top 48
abbrev N__law_sum : List Str := ["_law_points", "_law_point"]
def Sp__law_sum (g : List D → Option R) : Prop := ∀ ps : List Pt, ps.length ≤ lim → g [.list (ps.map eP)] = some (.c (eP (sm2 ps)))
theorem sc__law_sum : FnScope N__law_sum ["_law_points"] (defScope s__law_sum) := ⟨rfl, rfl, rfl, by decide +kernel, rfl, by decide +kernel, by decide +kernel⟩
set_option maxHeartbeats 4000000 in
theorem ok__law_sum (T : Txt K mg C_Shares C_Apart) (F : FunG K mg "_law_sum" s__law_sum ["_law_points"]) : ∃ g, Cal P w K mg base "_law_sum" 1 ["_law_points"] g ∧ Sp__law_sum g := by
  refine cal_ex F sc__law_sum (fun f cdv A outer s H E hr => (m_sone (m_ret (m_tup (m_an2 (m_callB (cr_sum rfl) s_sum T.b_sum (m_acons1 (m_lc (own := [("_law_point", 1)]) rfl sc__law_sum.nd (tg1 1) (m_ilist (m_var (pv 0))) (blkOk_by (own := [("_law_point", 1)]) (N := N__law_sum) (sc := defScope s__law_sum) (by decide +kernel)) (fun _ _ _ _ _ => (pg_name (i := 1) sc__law_sum.nd rfl (by first | exact Or.inl rfl | exact Or.inr rfl))) (fun _ _ _ _ _ => m_pts0) (fun _ _ _ _ _ => (m_ix (m_var (pv 1)) m_int))) m_anil)) (m_callB (cr_sum rfl) s_sum T.b_sum (m_acons1 (m_lc (own := [("_law_point", 1)]) rfl sc__law_sum.nd (tg1 1) (m_ilist (m_var (pv 0))) (blkOk_by (own := [("_law_point", 1)]) (N := N__law_sum) (sc := defScope s__law_sum) (by decide +kernel)) (fun _ _ _ _ _ => (pg_name (i := 1) sc__law_sum.nd rfl (by first | exact Or.inl rfl | exact Or.inr rfl))) (fun _ _ _ _ _ => m_pts0) (fun _ _ _ _ _ => (m_ix (m_var (pv 1)) m_int))) m_anil))))))) ?_
  intro ps hl
  refine runD_eq (r := .c (eP (sm2 ps))) ?_
  walk_at "ev"
  rw [mLc1 (l := ps) (enc := eP) (b := fun _ => true) (y := fun p => .int p.1) (c := true) rfl hl (fun p hp => ⟨rfl, rfl, fun _ => ⟨.c (.int p.1), by walk_at "ev", rfl⟩⟩)]
  rw [mLc1 (l := ps) (enc := eP) (b := fun _ => true) (y := fun p => .int p.2) (c := true) rfl hl (fun p hp => ⟨rfl, rfl, fun _ => ⟨.c (.int p.2), by walk_at "ev", rfl⟩⟩)]
  rw [filter_true]
  have e1 := sum_f ps (fun p => p.1)
  have e2 := sum_f ps (fun p => p.2)
  walk_at "ev"
  rfl
abbrev s__law_corners : Stmt := top 49
abbrev N__law_corners : List Str := ["_law_sticks_here", "_law_found", "_law_here", "_law_stick"]
def Sp__law_corners (g : List D → Option R) : Prop := ∀ ss : List Pt, ss.length ≤ 6 → g [.list (ss.map eP)] = some (.o ((cor ss).map eP))
theorem sc__law_corners : FnScope N__law_corners ["_law_sticks_here"] (defScope s__law_corners) := ⟨rfl, rfl, rfl, by decide +kernel, rfl, by decide +kernel, by decide +kernel⟩
set_option maxHeartbeats 4000000 in
theorem ok__law_corners (T : Txt K mg C_Shares C_Apart) (F : FunG K mg "_law_corners" s__law_corners ["_law_sticks_here"]) : ∃ g, Cal P w K mg base "_law_corners" 1 ["_law_sticks_here"] g ∧ Sp__law_corners g := by
  refine cal_ex F sc__law_corners (fun f cdv A outer s H E hr => (m_cons (m_parO (i := 1) (j := 2) rfl sc__law_corners.nd (m_lst m_anil) (m_tup (m_an2 m_int m_int)))
    (m_cons (m_for (tg1 3) PassesOwn.never rfl (m_ilist (m_var (pv 0))) (pg_name (i := 3) sc__law_corners.nd rfl (by first | exact Or.inl rfl | exact Or.inr rfl))
    (m_cons (m_append (pv 1) (m_acons1 (m_var (pv 2)) m_anil))
    (m_sone (m_set (i := 2) sc__law_corners.nd (m_tup (m_an2 (m_op op_addG s_add (m_ix (m_var (pv 2)) m_int) (m_ix (m_var (pv 3)) m_int)) (m_op op_addG s_add (m_ix (m_var (pv 2)) m_int) (m_ix (m_var (pv 3)) m_int))))))) fsi_N)
    (m_cons (m_for (tg1 3) PassesOwn.never rfl (m_ilist (m_var (pv 0))) (pg_name (i := 3) sc__law_corners.nd rfl (by first | exact Or.inl rfl | exact Or.inr rfl))
    (m_cons (m_append (pv 1) (m_acons1 (m_var (pv 2)) m_anil))
    (m_sone (m_set (i := 2) sc__law_corners.nd (m_tup (m_an2 (m_op op_sub s_sub (m_ix (m_var (pv 2)) m_int) (m_ix (m_var (pv 3)) m_int)) (m_op op_sub s_sub (m_ix (m_var (pv 2)) m_int) (m_ix (m_var (pv 3)) m_int))))))) fsi_N)
    (m_sone (m_reto (pv 1))))))) ?_
  intro ss hp6
  refine runD_to ?_
  refine mSeq_ex (P := fun E => E = [some (.v (.list (ss.map eP))), some (.t (Tr.fl [])), some (.v (eP (0, 0))), none]) ⟨_, by walk_at "ev" <;> rfl, rfl⟩ ?_
  rintro E rfl
  refine mSeq_ex (mFor_ind (l := ss) (enc := eP) (fun pre E => ∃ j, E = [some (Sl.v (D.list (ss.map eP))), some (.t (Tr.fl ((wkF (0, 0) pre).map eP))), some (Sl.v (eP (sm2 pre))), j]) rfl ⟨none, rfl⟩ ?_) ?_
  · rintro pre a E ha hl _ ⟨j, rfl⟩
    refine mSeq_nxE (P := fun E => E = [some (Sl.v (D.list (ss.map eP))), some (.t (Tr.fl ((wkF (0, 0) pre).map eP ++ [eP (sm2 pre)]))), some (Sl.v (eP (sm2 pre))), some (.v (eP a))]) ⟨_, mApp_fl (l := (wkF (0, 0) pre).map eP) (d := eP (sm2 pre)) (rs := [.c (eP (sm2 pre))]) rfl (by walk_at "ev") rfl (by rw [List.length_map, wkF_len]; exact Nat.lt_of_lt_of_le hl (Nat.le_trans hp6 (by decide))), rfl⟩ ?_
    rintro E rfl
    rw [wkF_snoc, zero_ad, List.map_append, sm2_snoc]
    refine ⟨_, ?_, ⟨some (.v (eP a)), rfl⟩⟩
    walk_at "ev" <;> rfl
  rintro E ⟨j, rfl⟩
  refine mSeq_ex (mFor_ind (l := ss) (enc := eP) (fun pre E => ∃ j, E = [some (Sl.v (D.list (ss.map eP))), some (.t (Tr.fl ((wkF (0, 0) ss ++ wkB (sm2 ss) pre).map eP))), some (Sl.v (eP (sb (sm2 ss) (sm2 pre)))), j]) rfl ⟨j, by rw [sm2_nil, sb_zero, wkB, List.append_nil]⟩ ?_) ?_
  · rintro pre a E ha hl _ ⟨j, rfl⟩
    refine mSeq_nxE (P := fun E => E = [some (Sl.v (D.list (ss.map eP))), some (.t (Tr.fl ((wkF (0, 0) ss ++ wkB (sm2 ss) pre).map eP ++ [eP (sb (sm2 ss) (sm2 pre))]))), some (Sl.v (eP (sb (sm2 ss) (sm2 pre)))), some (.v (eP a))]) ⟨_, mApp_fl (l := (wkF (0, 0) ss ++ wkB (sm2 ss) pre).map eP) (d := eP (sb (sm2 ss) (sm2 pre))) (rs := [.c (eP (sb (sm2 ss) (sm2 pre)))]) rfl (by walk_at "ev") rfl (by rw [List.length_map, List.length_append, wkF_len, wkB_len]; exact Nat.lt_of_lt_of_le (Nat.add_lt_add_left hl ss.length) (Nat.le_trans (Nat.add_le_add hp6 hp6) (by decide))), rfl⟩ ?_
    rintro E rfl
    rw [sm2_snoc, ← sb_sb, wkB_snoc]
    refine ⟨_, by walk_at "ev" <;> rfl, ⟨some (.v (eP a)), ?_⟩⟩
    simp [sb]
  rintro E ⟨j, rfl⟩
  exact ⟨_, by walk_at "ev" <;> rfl, _, rfl, by unfold cor; simp [Rup_t]; rfl⟩
abbrev s__law_says : Stmt := top 50
abbrev N__law_says : List Str := ["_law_said", "_law_due"]
def Sp__law_says (g : List D → Option R) : Prop := ∀ a b : Bool, g [.bool a, .bool b] = some (.c (.bool (decide (a = b))))
theorem sc__law_says : FnScope N__law_says ["_law_said", "_law_due"] (defScope s__law_says) := ⟨rfl, rfl, rfl, by decide +kernel, rfl, by decide +kernel, by decide +kernel⟩
set_option maxHeartbeats 4000000 in
theorem ok__law_says (T : Txt K mg C_Shares C_Apart) (F : FunG K mg "_law_says" s__law_says ["_law_said", "_law_due"]) : ∃ g, Cal P w K mg base "_law_says" 1 ["_law_said", "_law_due"] g ∧ Sp__law_says g := by
  refine cal_ex F sc__law_says (fun f cdv A outer s H E hr => (m_sone (m_ret (m_and (m_isi .bool T.b_isinstance T.b_bool (m_var (pv 0))) (m_one (m_cmp (op_eqD hr.units) s_eq (m_var (pv 0)) (m_var (pv 1)) (nomark _))))))) ?_
  intro a b
  refine runD_eq (r := .c (.bool (decide (a = b)))) ?_
  cases a <;> cases b <;> rfl
abbrev s__law_share : Stmt := top 51
abbrev N__law_share : List Str := ["_law_share_here", "_law_one", "_law_other"]
def Sp__law_share (g : List D → Option R) : Prop := ∀ p : Pt, g [eP p] = some (.c (.bool (isS p)))
theorem sc__law_share : FnScope N__law_share ["_law_share_here"] (defScope s__law_share) := ⟨rfl, rfl, rfl, by decide +kernel, rfl, by decide +kernel, by decide +kernel⟩
set_option maxHeartbeats 4000000 in
theorem ok__law_share (T : Txt K mg C_Shares C_Apart) (F : FunG K mg "_law_share" s__law_share ["_law_share_here"]) {g__law_whole : List D → Option R} (C__law_whole : Cal P w K mg base "_law_whole" 1 ["_law_found"] g__law_whole) (H__law_whole : Sp__law_whole g__law_whole) : ∃ g, Cal P w K mg base "_law_share" 2 ["_law_share_here"] g ∧ Sp__law_share g := by
  refine cal_ex F sc__law_share (fun f cdv A outer s H E hr => (m_cons (m_if (PW.pt (m_wor (m_tnot (m_tval (m_isi .tuple T.b_isinstance T.b_tuple (m_var (pv 0))))) (m_wor (m_tcmp (op_neD hr.units) s_ne (m_callB call_len_seq s_len T.b_len (m_acons1 (m_var (pv 0)) m_anil)) m_int (nomark _)) (m_wor (m_tnot (m_tval (m_callC C__law_whole (hr.mono (by decide)) (m_acons1 (m_ix (m_var (pv 0)) m_int) m_anil)))) (m_wor1 (m_tnot (m_tval (m_callC C__law_whole (hr.mono (by decide)) (m_acons1 (m_ix (m_var (pv 0)) m_int) m_anil)))))))))
    (m_sone (m_ret m_bl))
    m_snil)
    (m_cons (m_if (PW.pt (m_wor (m_tcmp op_lt s_lt (m_ix (m_var (pv 0)) m_int) m_int (nomark _)) (m_wor1 (m_tnot (m_tchain op_le s_le op_le s_le m_int (m_ix (m_var (pv 0)) m_int) (m_ix (m_var (pv 0)) m_int))))))
    (m_sone (m_ret m_bl))
    m_snil)
    (m_cons (m_asgT (tg2 1 2) (m_var (pv 0)) (pg_tup rfl (pgs_cons (pg_name (i := 1) sc__law_share.nd rfl (by first | exact Or.inl rfl | exact Or.inr rfl)) (pgs_cons (pg_name (i := 2) sc__law_share.nd rfl (by first | exact Or.inl rfl | exact Or.inr rfl)) pgs_nil))))
    (m_cons (m_while PassesOwn.never (m_tcmp op_gt s_gt (m_var (pv 2)) m_int (nomark _))
    (m_sone (m_par (i := 1) (j := 2) rfl sc__law_share.nd (m_an2 (m_var (pv 2)) (m_op op_mod s_mod (m_var (pv 1)) (m_var (pv 2)))))))
    (m_sone (m_ret (m_cmp (op_eqD hr.units) s_eq (m_var (pv 1)) m_int (nomark _))))))))) ?_
  intro p
  refine runD_to ?_
  have h1 := H__law_whole p.1
  have h2 := H__law_whole p.2
  refine mSeq_ex (P := fun E => E = [some (.v (eP p)), none, none]) ⟨_, (mIfS_f (by walk_at "ev")).trans rfl, rfl⟩ ?_
  rintro E rfl
  by_cases hc : 1 ≤ p.2 ∧ 0 ≤ p.1 ∧ p.1 ≤ p.2
  · obtain ⟨c1, c2, c3⟩ := hc
    have c0 : ¬ p.2 < 1 := by omega
    refine mSeq_ex (P := fun E => E = [some (.v (eP p)), none, none]) ⟨_, (mIfS_f (by walk_at "ev")).trans rfl, rfl⟩ ?_
    rintro E rfl
    refine mSeq_ex (P := fun E => E = [some (.v (eP p)), some (.v (.int p.1)), some (.v (.int p.2))]) ⟨_, mAsgT_eq (r := .c (eP p)) rfl rfl rfl, rfl⟩ ?_
    rintro E rfl
    obtain ⟨a, ha⟩ : ∃ a : Nat, p.1 = a := ⟨p.1.toNat, by omega⟩
    obtain ⟨b, hb⟩ : ∃ b : Nat, p.2 = b := ⟨p.2.toNat, by omega⟩
    refine mSeq_ex (P := fun E => E = [some (.v (eP p)), some (.v (.int (Nat.gcd a b : Nat))), some (.v (.int 0))]) ?_ ?_
    · refine mWhile_ex (fun E => ∃ x y : Nat, E = [some (.v (eP p)), some (.v (.int x)), some (.v (.int y))] ∧ Nat.gcd x y = Nat.gcd a b) (fun E => match E with | [_, _, some (.v (.int y))] => y.toNat | _ => 0) ⟨a, b, by rw [ha, hb], rfl⟩ ?_ ?_
      · rintro E ⟨x, y, rfl, hg⟩
        by_cases hy : y = 0
        · subst hy
          left
          walk_at "ev"
        · right
          have hp : 0 < y := by omega
          refine ⟨by walk_at "ev", [some (.v (eP p)), some (.v (.int y)), some (.v (.int ((x % y : Nat) : Int)))], ?_, ⟨y, x % y, rfl, ?_⟩, ?_⟩
          · walk_at "ev"
          · rw [← hg, Nat.gcd_comm x y, Nat.gcd_rec y x, Nat.gcd_comm]
          · show ((x % y : Nat) : Int).toNat < (y : Int).toNat
            have := Nat.mod_lt x hp
            omega
      · rintro E ⟨x, y, rfl, hg⟩ h3
        have hy : y = 0 := by
          apply Classical.byContradiction
          intro hy
          have : 0 < y := by omega
          revert h3
          walk_at "ev"
        subst hy
        rw [Nat.gcd_zero_right] at hg
        rw [hg]
        rfl
    · rintro E rfl
      refine ⟨.rt (.c (.bool (decide (((Nat.gcd a b : Nat) : Int) = 1)))), ?_, _, rfl, ?_⟩
      · generalize Nat.gcd a b = d at *
        walk_at "ev"
      · rw [Rup_c]
        unfold isS
        rw [decide_eq_true c2, decide_eq_true c3, ha, hb, Int.toNat_natCast, Int.toNat_natCast, Bool.true_and, Bool.true_and]
        congr 2
        rw [decide_eq_decide]
        omega
  · have hf : isS p = false := by
      cases e : isS p with
      | false => rfl
      | true => have := isS_pos e; exact absurd ⟨by omega, this.1, this.2.1⟩ hc
    rw [hf]
    refine ⟨.rt (.c (.bool false)), ?_, _, rfl, rfl⟩
    refine mSeq_rt ((mIfS_t ?_).trans rfl)
    by_cases c0 : p.2 < 1
    · exact mTOr_t (by walk_at "ev")
    · refine mTOr_f (by walk_at "ev") ?_
      by_cases c2 : 0 ≤ p.1
      · have c3 : ¬ p.1 ≤ p.2 := fun z => hc ⟨by omega, c2, z⟩
        walk_at "ev"
      · walk_at "ev"
abbrev s__law_leads : Stmt := top 52
abbrev N__law_leads : List Str := ["_law_sticks_here", "_law_shares", "_law_point", "_law_share_here", "_law_bottom", "_law_at", "_law_here", "_law_stick"]
def Sp__law_leads (g : List D → Option R) : Prop := ∀ (ss sh : List Pt) (q : Pt), SOk ss → Sm q → sh.length ≤ 7 → (∀ p ∈ sh, Bd p) → g [.list (ss.map eP), .list (sh.map eP), eP q] = some (.c (.bool (dueS ss sh q)))
theorem sc__law_leads : FnScope N__law_leads ["_law_sticks_here", "_law_shares", "_law_point"] (defScope s__law_leads) := ⟨rfl, rfl, rfl, by decide +kernel, rfl, by decide +kernel, by decide +kernel⟩
set_option maxHeartbeats 4000000 in
theorem ok__law_leads (T : Txt K mg C_Shares C_Apart) (F : FunG K mg "_law_leads" s__law_leads ["_law_sticks_here", "_law_shares", "_law_point"]) {g__law_share : List D → Option R} (C__law_share : Cal P w K mg base "_law_share" 2 ["_law_share_here"] g__law_share) (H__law_share : Sp__law_share g__law_share) : ∃ g, Cal P w K mg base "_law_leads" 3 ["_law_sticks_here", "_law_shares", "_law_point"] g ∧ Sp__law_leads g := by
  refine cal_ex F sc__law_leads (fun f cdv A outer s H E hr => (m_cons (m_if (PW.pt (m_wor (m_tcmp (op_neD hr.units) s_ne (m_callB call_len_seq s_len T.b_len (m_acons1 (m_var (pv 1)) m_anil)) (m_callB call_len_seq s_len T.b_len (m_acons1 (m_var (pv 0)) m_anil)) (nomark _)) (m_wor1 (m_tnot (m_tval (m_callB (cr_all rfl) s_all T.b_all (m_acons1 (m_lc (own := [("_law_share_here", 3)]) rfl sc__law_leads.nd (tg1 3) (m_ilist (m_var (pv 1))) (blkOk_by (own := [("_law_share_here", 3)]) (N := N__law_leads) (sc := defScope s__law_leads) (by decide +kernel)) (fun _ _ _ _ _ => (pg_name (i := 3) sc__law_leads.nd rfl (by first | exact Or.inl rfl | exact Or.inr rfl))) (fun _ _ _ _ _ => m_pts0) (fun _ _ _ _ _ => (m_callC C__law_share (hr.mono (by decide)) (m_acons1 (m_var (pv 3)) m_anil)))) m_anil)))))))
    (m_sone (m_ret m_bl))
    m_snil)
    (m_cons (m_set (i := 4) sc__law_leads.nd m_int)
    (m_cons (m_for (tg1 3) PassesOwn.never rfl (m_ilist (m_var (pv 1))) (pg_name (i := 3) sc__law_leads.nd rfl (by first | exact Or.inl rfl | exact Or.inr rfl))
    (m_sone (m_set (i := 4) sc__law_leads.nd (m_op op_mulB s_mul (m_var (pv 4)) (m_ix (m_var (pv 3)) m_int)))) fsi_N)
    (m_cons (m_for (tg1 5) PassesOwn.never rfl (m_irange1 T.b_range (m_acons1 m_int m_anil)) (pg_name (i := 5) sc__law_leads.nd rfl (by first | exact Or.inl rfl | exact Or.inr rfl))
    (m_cons (m_set (i := 6) sc__law_leads.nd (m_callB (cr_sum rfl) s_sum T.b_sum (m_acons1 (m_lc (own := [("_law_share_here", 3), ("_law_stick", 7)]) rfl sc__law_leads.nd (tg2 3 7) (m_izip T.b_zip (m_an2 (m_var (pv 1)) (m_var (pv 0)))) (blkOk_by (own := [("_law_share_here", 3), ("_law_stick", 7)]) (N := N__law_leads) (sc := defScope s__law_leads) (by decide +kernel)) (fun _ _ _ _ _ => (pg_tup rfl (pgs_cons (pg_name (i := 3) sc__law_leads.nd rfl (by first | exact Or.inl rfl | exact Or.inr rfl)) (pgs_cons (pg_name (i := 7) sc__law_leads.nd rfl (by first | exact Or.inl rfl | exact Or.inr rfl)) pgs_nil)))) (fun _ _ _ _ _ => m_pts0) (fun _ _ _ _ _ => (m_op op_mulB s_mul (m_op op_mulB s_mul (m_ix (m_var (pv 3)) m_int) (m_op op_fdivB s_divB (m_var (pv 4)) (m_ix (m_var (pv 3)) m_int))) (m_ix (m_var (pv 7)) (m_var (pv 5)))))) m_anil)))
    (m_sone (m_if (m_tcmp (op_neD hr.units) s_ne (m_var (pv 6)) (m_op op_mulB s_mul (m_var (pv 4)) (m_ix (m_var (pv 2)) (m_var (pv 5)))) (nomark _))
    (m_sone (m_ret m_bl))
    m_snil))) fsi_K)
    (m_sone (m_ret m_bl))))))) ?_
  intro ss sh q h hq hl hb
  have hl6 := h.l6
  refine runD_to ?_
  have hall : mCl gAll (mCons (mLc [3] pick1 (mIL (mVar 1)) mYes (mCall 1 g__law_share (mCons (mVar 3) mNil))) mNil) [some (.v (.list (ss.map eP))), some (.v (.list (sh.map eP))), some (.v (eP q)), none, none, none, none, none] = some (.c (.bool (sh.all isS))) :=
    mAll_f (l := sh) (enc := eP) (qs := fun p => [eP p]) (c := true) isS rfl (Nat.le_trans hl (by decide)) fun p hp => ⟨rfl, rfl, mCall1 (r := .c (eP p)) rfl rfl (H__law_share p)⟩
  by_cases he : sh.length = ss.length
  · have he' : (sh.length : Int) = ss.length := by omega
    have t1 : mB (mOp gNe (mCl gLen (mCons (mVar 1) mNil)) (mCl gLen (mCons (mVar 0) mNil))) [some (.v (.list (ss.map eP))), some (.v (.list (sh.map eP))), some (.v (eP q)), none, none, none, none, none] = some false := by
      clear hall hb
      walk_at "ev"
    cases hS : sh.all isS with
    | false =>
      rw [hS] at hall
      refine ⟨.rt (.c (.bool false)), mSeq_rt ((mIfS_t (mTOr_f t1 (mTNot_eq (k := false) (mB_eq hall)))).trans rfl), _, rfl, ?_⟩
      unfold dueS
      rw [hS, Bool.false_and, Bool.and_false]
      rfl
    | true =>
      rw [hS] at hall
      have hSS := List.all_eq_true.mp hS
      have hB := prod_abs hl hb
      refine mSeq_ex (P := fun E => E = [some (.v (.list (ss.map eP))), some (.v (.list (sh.map eP))), some (.v (eP q)), none, none, none, none, none]) ⟨_, (mIfS_f (mTOr_f t1 (mTNot_eq (k := true) (mB_eq hall)))).trans rfl, rfl⟩ ?_
      rintro E rfl
      refine mSeq_ex (P := fun E => E = [some (.v (.list (ss.map eP))), some (.v (.list (sh.map eP))), some (.v (eP q)), none, some (.v (.int 1)), none, none, none]) ⟨_, by clear hall hb hSS; walk_at "ev" <;> rfl, rfl⟩ ?_
      rintro E rfl
      refine mSeq_ex (mFor_ind (l := sh) (enc := eP) (fun pre E => ∃ j3, E = [some (.v (.list (ss.map eP))), some (.v (.list (sh.map eP))), some (.v (eP q)), j3, some (.v (.int (prodB pre))), none, none, none]) rfl ⟨none, rfl⟩ ?_) ?_
      · rintro pre p E hp hlt ⟨post, hpost⟩ ⟨j3, rfl⟩
        have hpre : (prodB pre).natAbs < 2 ^ 500 := prod_abs (by omega) fun x hx => hb x (by rw [hpost]; exact List.mem_append_left _ hx)
        have hm : mulOk (prodB pre) p.2 = true := mulB hpre (hb p hp).2 (by decide)
        have e : prodB (pre ++ [p]) = prodB pre * p.2 := by unfold prodB; rw [List.foldl_append]; rfl
        rw [e]
        refine ⟨_, ?_, ⟨some (.v (eP p)), rfl⟩⟩
        generalize prodB pre = w at *
        clear hpre hall hb hSS
        walk_at "ev"
      rintro E ⟨j3, rfl⟩
      have hls := lead_sum ss sh q
      let cd : Nat → Int := fun k => ((sh.zip ss).map fun z => wgt (prodB sh) z.1 * (if k = 0 then z.2.1 else z.2.2)).sum
      let cq : Nat → Int := fun k => prodB sh * (if k = 0 then q.1 else q.2)
      have hdue : dueS ss sh q = (decide (cd 0 = cq 0) && decide (cd 1 = cq 1)) := by
        unfold dueS
        rw [decide_eq_true he, hS, Bool.true_and, Bool.true_and, hls]
        rfl
      rw [hdue]
      refine mSeq_for (l := List.range (2 : Int).toNat) (enc := fun (i : Nat) => D.int (0 + (i : Int))) (qs := fun (i : Nat) => [D.int (0 + (i : Int))]) (fun pre E => ∃ j3 j5 j6 j7, E = [some (.v (.list (ss.map eP))), some (.v (.list (sh.map eP))), some (.v (eP q)), j3, some (.v (.int (prodB sh))), j5, j6, j7]) (fun k => ¬ cd k = cq k) (fun r => r = .c (.bool false)) (mIR1_eq (by clear hall hb hSS; generalize prodB sh = w at *; walk_at "ev") (by decide)) ⟨j3, none, none, none, rfl⟩ ?_ ?_ ?_
      · rintro pre k E hk hlt _ ⟨j3, j5, j6, j7, rfl⟩
        refine ⟨rfl, ?_⟩
        have hk2 : k = 0 ∨ k = 1 := by have := List.mem_range.mp hk; omega
        have ixp : ∀ p : Pt, gIx (.c (eP p)) (.c (.int (0 + (k : Int)))) = some (.c (.int (if k = 0 then p.1 else p.2))) := fun p => by
          rcases hk2 with rfl | rfl <;> rfl
        have hsum : mCl gSum (mCons (mLc [3, 7] pick2 (mIZ (mCons (mVar 1) (mCons (mVar 0) mNil))) mYes (mOp gMul (mOp gMul (mOp gIx (mVar 3) (mC (D.int 0))) (mOp gDivB (mVar 4) (mOp gIx (mVar 3) (mC (D.int 1))))) (mOp gIx (mVar 7) (mVar 5)))) mNil) [some (.v (.list (ss.map eP))), some (.v (.list (sh.map eP))), some (.v (eP q)), j3, some (.v (.int (prodB sh))), some (.v (.int (0 + (k : Int)))), j6, j7] = some (.c (.int (cd k))) := by
          refine mSum_f (l := sh.zip ss) (enc := fun z => D.tuple [eP z.1, eP z.2]) (qs := fun z => [eP z.1, eP z.2]) (c := true) (fun z => wgt (prodB sh) z.1 * (if k = 0 then z.2.1 else z.2.2)) ?_ ?_ ?_
          · rw [mIZ_eq (x := .c (.list (sh.map eP))) (y := .c (.list (ss.map eP))) (l := sh.map eP) (l' := ss.map eP) rfl rfl rfl, zips_map]
            rfl
          · rw [List.length_zip]
            exact Nat.le_trans (Nat.min_le_left _ _) (Nat.le_trans hl (by decide))
          · rintro ⟨p, s⟩ hz
            refine ⟨rfl, rfl, ?_⟩
            have hzs := List.of_mem_zip hz
            have hpb := hb p hzs.1
            have hpos := isS_pos (hSS p hzs.1)
            have hlog := log_small hpos.2.2 hpb.2
            have hdv : gDivB (.c (.int (prodB sh))) (.c (.int p.2)) = some (.c (.int (prodB sh / p.2))) := by
              show (if decide (0 < p.2 ∧ p.2.natAbs.log2 < 9000) = true then some (R.c (.int (prodB sh / p.2))) else none) = _
              rw [if_pos (decide_eq_true ⟨hpos.2.2, hlog⟩)]
            have hm1 : mulOk p.1 (prodB sh / p.2) = true := mulB hpb.1 (div_abs hpos.2.2 hB) (by decide)
            have hsm := near_sm (h.nr s hzs.2)
            have hm2 : mulOk (wgt (prodB sh) p) (if k = 0 then s.1 else s.2) = true := by
              split
              · exact mul_r hsm.1
              · exact mul_r hsm.2
            refine (mOp_eq (x := .c (.int (wgt (prodB sh) p))) (y := .c (.int (if k = 0 then s.1 else s.2))) ((mOp_eq (x := .c (.int p.1)) (y := .c (.int (prodB sh / p.2))) rfl ((mOp_eq (x := .c (.int (prodB sh))) (y := .c (.int p.2)) rfl rfl).trans hdv)).trans ?_) ((mOp_eq (x := .c (eP s)) (y := .c (.int (0 + (k : Int)))) rfl rfl).trans (ixp s))).trans ?_
            · show (if mulOk p.1 (prodB sh / p.2) = true then some (R.c (.int (p.1 * (prodB sh / p.2)))) else none) = _
              rw [if_pos hm1]
              rfl
            · show (if mulOk (wgt (prodB sh) p) (if k = 0 then s.1 else s.2) = true then some (R.c (.int (wgt (prodB sh) p * (if k = 0 then s.1 else s.2)))) else none) = _
              rw [if_pos hm2]
        have hm3 : mulOk (prodB sh) (if k = 0 then q.1 else q.2) = true := by
          split
          · exact mul_r hq.1
          · exact mul_r hq.2
        have hcmp : mB (mOp gNe (mVar 6) (mOp gMul (mVar 4) (mOp gIx (mVar 2) (mVar 5)))) [some (.v (.list (ss.map eP))), some (.v (.list (sh.map eP))), some (.v (eP q)), j3, some (.v (.int (prodB sh))), some (.v (.int (0 + (k : Int)))), some (.v (.int (cd k))), j7] = some (!decide (cd k = cq k)) := by
          refine mB_eq ((mOp_eq (x := .c (.int (cd k))) (y := .c (.int (cq k))) rfl ((mOp_eq (x := .c (.int (prodB sh))) (y := .c (.int (if k = 0 then q.1 else q.2))) rfl ((mOp_eq (x := .c (eP q)) (y := .c (.int (0 + (k : Int)))) rfl rfl).trans (ixp q))).trans ?_)).trans ?_)
          · show (if mulOk (prodB sh) (if k = 0 then q.1 else q.2) = true then some (R.c (.int (prodB sh * (if k = 0 then q.1 else q.2)))) else none) = _
            rw [if_pos hm3]
          · show (if okD _ && okD _ then some (R.c (.bool (!deq _ _))) else none) = _
            rw [Rd_c, Rd_c, sh_int, sh_int, eqv_int]
            rfl
        by_cases hck : cd k = cq k
        · refine .inl ⟨fun z => z hck, _, ?_, ⟨j3, some (.v (.int (0 + (k : Int)))), some (.v (.int (cd k))), j7, rfl⟩⟩
          rw [decide_eq_true hck] at hcmp
          exact (mSeq_nx (mAsgV_eq hsum rfl)).trans ((mIfS_f hcmp).trans rfl)
        · refine .inr ⟨hck, .c (.bool false), ?_, rfl⟩
          rw [decide_eq_false hck] at hcmp
          exact (mSeq_nx (mAsgV_eq hsum rfl)).trans ((mIfS_t hcmp).trans rfl)
      · rintro ⟨k, hk, hck⟩ r rfl
        refine ⟨_, rfl, ?_⟩
        have hk2 : k = 0 ∨ k = 1 := by have := List.mem_range.mp hk; omega
        rcases hk2 with rfl | rfl
        · rw [decide_eq_false hck, Bool.false_and]; rfl
        · rw [decide_eq_false hck, Bool.and_false]; rfl
      · rintro hno E ⟨j3, j5, j6, j7, rfl⟩
        have h0 : cd 0 = cq 0 := Classical.byContradiction fun z => hno 0 (List.mem_range.mpr (by decide)) z
        have h1 : cd 1 = cq 1 := Classical.byContradiction fun z => hno 1 (List.mem_range.mpr (by decide)) z
        refine ⟨.rt (.c (.bool true)), rfl, _, rfl, ?_⟩
        rw [decide_eq_true h0, decide_eq_true h1]
        rfl
  · have he' : ¬ (sh.length : Int) = ss.length := by omega
    refine ⟨.rt (.c (.bool false)), mSeq_rt ((mIfS_t (mTOr_t ?_)).trans rfl), _, rfl, ?_⟩
    · clear hall hb
      walk_at "ev"
    · unfold dueS
      rw [decide_eq_false he, Bool.false_and]
      rfl
abbrev s__law_parts : Stmt := top 53
abbrev N__law_parts : List Str := ["_law_sticks_here", "_law_line", "_law_point", "_law_most", "_law_spot"]
def Sp__law_parts (g : List D → Option R) : Prop := ∀ (ss : List Pt) (l q : Pt), SOk ss → Sm q → g [.list (ss.map eP), eP l, eP q] = some (.c (.bool (decide (reachI ss l < dt l q))))
theorem sc__law_parts : FnScope N__law_parts ["_law_sticks_here", "_law_line", "_law_point"] (defScope s__law_parts) := ⟨rfl, rfl, rfl, by decide +kernel, rfl, by decide +kernel, by decide +kernel⟩
set_option maxHeartbeats 4000000 in
theorem ok__law_parts (T : Txt K mg C_Shares C_Apart) (F : FunG K mg "_law_parts" s__law_parts ["_law_sticks_here", "_law_line", "_law_point"]) {g__law_corners : List D → Option R} (C__law_corners : Cal P w K mg base "_law_corners" 1 ["_law_sticks_here"] g__law_corners) (H__law_corners : Sp__law_corners g__law_corners) : ∃ g, Cal P w K mg base "_law_parts" 2 ["_law_sticks_here", "_law_line", "_law_point"] g ∧ Sp__law_parts g := by
  refine cal_ex F sc__law_parts (fun f cdv A outer s H E hr => (m_cons (m_set (i := 3) sc__law_parts.nd (m_callB (cr_max rfl) s_maxL T.b_max (m_acons1 (m_lc (own := [("_law_spot", 4)]) rfl sc__law_parts.nd (tg1 4) (m_ilist (m_callC C__law_corners (hr.mono (by decide)) (m_acons1 (m_var (pv 0)) m_anil))) (blkOk_by (own := [("_law_spot", 4)]) (N := N__law_parts) (sc := defScope s__law_parts) (by decide +kernel)) (fun _ _ _ _ _ => (pg_name (i := 4) sc__law_parts.nd rfl (by first | exact Or.inl rfl | exact Or.inr rfl))) (fun _ _ _ _ _ => m_pts0) (fun _ _ _ _ _ => (m_op op_addG s_add (m_op op_mulB s_mul (m_ix (m_var (pv 1)) m_int) (m_ix (m_var (pv 4)) m_int)) (m_op op_mulB s_mul (m_ix (m_var (pv 1)) m_int) (m_ix (m_var (pv 4)) m_int))))) m_anil)))
    (m_sone (m_ret (m_cmp op_gt s_gt (m_op op_addG s_add (m_op op_mulB s_mul (m_ix (m_var (pv 1)) m_int) (m_ix (m_var (pv 2)) m_int)) (m_op op_mulB s_mul (m_ix (m_var (pv 1)) m_int) (m_ix (m_var (pv 2)) m_int))) (m_var (pv 3)) (nomark _)))))) ?_
  intro ss l q h hq
  refine runD_to ?_
  have hc := H__law_corners ss h.l6
  have hl6 := h.l6
  have hne : (cor ss).map (dt l) ≠ [] := by
    intro z
    have := congrArg List.length z
    rw [List.length_map, cor_len] at this
    have := h.l1
    simp at *
    omega
  have hmx := corner_max h l
  have m1 : mulOk l.1 q.1 = true := mul_r hq.1
  have m2 : mulOk l.2 q.2 = true := mul_r hq.2
  refine mSeq_ex (P := fun E => E = [some (.v (.list (ss.map eP))), some (.v (eP l)), some (.v (eP q)), some (.v (.int (reachI ss l))), none]) ⟨_, mAsgV_eq (r := .c (.int (maxL ((cor ss).map (dt l))))) (mMax_f (l := cor ss) (enc := eP) (qs := fun p => [eP p]) (c := true) (dt l) (mIL_o _ (mCall1 (r := .c (.list (ss.map eP))) rfl rfl hc)) ?_ hne fun p hp => ⟨rfl, rfl, ?_⟩) rfl, by rw [hmx]; rfl⟩ ?_
  · rw [cor_len]
    exact Nat.le_trans (Nat.mul_le_mul_left 2 hl6) (by decide)
  · obtain ⟨k, hk, rfl⟩ := cor_mem.mp hp
    have hs := cq_sm h (Nat.le_of_lt hk)
    have a1 : mulOk l.1 (cq ss k).1 = true := mul_r hs.1
    have a2 : mulOk l.2 (cq ss k).2 = true := mul_r hs.2
    generalize cq ss k = c at *
    clear hmx hne
    walk_at "ev"
  rintro E rfl
  refine ⟨.rt (.c (.bool (decide (reachI ss l < dt l q)))), ?_, _, rfl, rfl⟩
  generalize reachI ss l = a at *
  clear hmx hne
  walk_at "ev" <;> rfl
abbrev s__law_shares_right : Stmt := top 54
abbrev N__law_shares_right : List Str := ["_law_sticks_here", "_law_point", "_law_shares", "_law_handed", "_law_answer", "_law_due"]
def Sp__law_shares_right (g : List D → Option R) : Prop := ∀ (ss sh : List Pt) (q : Pt), SOk ss → Sm q → sh.length ≤ 7 → (∀ p ∈ sh, Bd p) → g [.list (ss.map eP), eP q, .list (sh.map eP)] = some (.c (.bool true))
theorem sc__law_shares_right : FnScope N__law_shares_right ["_law_sticks_here", "_law_point", "_law_shares"] (defScope s__law_shares_right) := ⟨rfl, rfl, rfl, by decide +kernel, rfl, by decide +kernel, by decide +kernel⟩
set_option maxHeartbeats 4000000 in
theorem ok__law_shares_right (T : Txt K mg C_Shares C_Apart) (F : FunG K mg "_law_shares_right" s__law_shares_right ["_law_sticks_here", "_law_point", "_law_shares"]) {g__law_says : List D → Option R} (C__law_says : Cal P w K mg base "_law_says" 1 ["_law_said", "_law_due"] g__law_says) (H__law_says : Sp__law_says g__law_says) {g_Shares_shows : List D → Option R} (C_Shares_shows : Mth P w K mg base C_Shares "shows" 5 3 g_Shares_shows) (H_Shares_shows : Sp_Shares_shows C_Shares C_Apart g_Shares_shows) {g__law_leads : List D → Option R} (C__law_leads : Cal P w K mg base "_law_leads" 3 ["_law_sticks_here", "_law_shares", "_law_point"] g__law_leads) (H__law_leads : Sp__law_leads g__law_leads) {g_Shares_init : List D → Option (List Tr)} (C_Shares_init : Ini P w K mg base C_Shares 1 1 ["shares"] g_Shares_init) (H_Shares_init : Sp_Shares_init g_Shares_init) : ∃ g, Cal P w K mg base "_law_shares_right" 6 ["_law_sticks_here", "_law_point", "_law_shares"] g ∧ Sp__law_shares_right g := by
  refine cal_ex F sc__law_shares_right (fun f cdv A outer s H E hr => (m_cons (m_seto (i := 3) sc__law_shares_right.nd (m_callT call_list_of s_list T.b_list (m_acons1 (m_var (pv 2)) m_anil)))
    (m_cons (m_set (i := 4) sc__law_shares_right.nd (m_makeC C_Shares_init (hr.mono (by decide)) T.mc_Shares (m_acons1 (m_var (pv 3)) m_anil)))
    (m_cons (m_append (pv 3) (m_acons1 (m_tup (m_an2 m_int m_int)) m_anil))
    (m_cons (m_set (i := 5) sc__law_shares_right.nd (m_callC C__law_leads (hr.mono (by decide)) (m_an3 (m_var (pv 0)) (m_var (pv 2)) (m_var (pv 1)))))
    (m_sone (m_ret (m_and (m_cmp (op_eqD hr.units) s_eq (m_fld1 T.cl_Shares T.na_Shares_shares (m_var (pv 4))) (m_var (pv 2)) (nomark _)) (m_one (m_callC C__law_says (hr.mono (by decide)) (m_an2 (m_methC C_Shares_shows (m_var (pv 4)) T.cl_Shares (hr.mono (by decide)) (m_an2 (m_var (pv 0)) (m_var (pv 1)))) (m_var (pv 5))))))))))))) ?_
  intro ss sh q h hq hl hb
  refine runD_to ?_
  have h1 := H_Shares_init sh
  have h2 := H__law_leads ss sh q h hq hl hb
  have h3 := H_Shares_shows ss sh q h hq hl hb
  have h4 := H__law_says (dueS ss sh q) (dueS ss sh q)
  rw [decide_eq_true rfl] at h4
  refine mSeq_ex (P := fun E => E = [some (.v (.list (ss.map eP))), some (.v (eP q)), some (.v (.list (sh.map eP))), some (.t (Tr.fl (sh.map eP))), none, none]) ⟨_, rfl, rfl⟩ ?_
  rintro E rfl
  refine mSeq_ex (P := fun E => E = [some (.v (.list (ss.map eP))), some (.v (eP q)), some (.v (.list (sh.map eP))), some (.t (Tr.fl (sh.map eP))), some (.v (.obj C_Shares ["shares"] [.list (sh.map eP)])), none]) ⟨_, mAsgV_eq (mMake1u (l := sh.map eP) (Ts := [Tr.fl (sh.map eP)]) (var_own rfl) h1) (make_pro _ _ sh), rfl⟩ ?_
  rintro E rfl
  refine mSeq_ex (P := fun E => E = [some (.v (.list (ss.map eP))), some (.v (eP q)), some (.v (.list (sh.map eP))), some (.t (Tr.fl (sh.map eP ++ [eP (0, 1)]))), some (.v (.obj C_Shares ["shares"] [.list (sh.map eP)])), none]) ⟨_, mApp_fl (l := sh.map eP) (d := eP (0, 1)) (rs := [.c (eP (0, 1))]) rfl rfl rfl (by rw [List.length_map]; exact Nat.lt_of_le_of_lt hl (by decide)), rfl⟩ ?_
  rintro E rfl
  refine mSeq_ex (P := fun E => E = [some (.v (.list (ss.map eP))), some (.v (eP q)), some (.v (.list (sh.map eP))), some (.t (Tr.fl (sh.map eP ++ [eP (0, 1)]))), some (.v (.obj C_Shares ["shares"] [.list (sh.map eP)])), some (.v (.bool (dueS ss sh q)))]) ⟨_, mAsgV_eq (mCall3 (x := .c (.list (ss.map eP))) (y := .c (.list (sh.map eP))) (z := .c (eP q)) rfl rfl rfl rfl rfl rfl h2) rfl, rfl⟩ ?_
  rintro E rfl
  have hf : gFld [C_Shares] "shares" (.c (.obj C_Shares ["shares"] [.list (sh.map eP)])) = some (.c (.list (sh.map eP))) := by
    show (if C_Shares ∈ [C_Shares] then _ else none) = _
    rw [if_pos List.mem_cons_self]
    rfl
  refine ⟨_, mRet_eq (r := .c (.bool true)) (mAndV_t (mOp_eq (x := .c (.list (sh.map eP))) (y := .c (.list (sh.map eP))) (mUn_eq (r := .c (.obj C_Shares ["shares"] [.list (sh.map eP)])) rfl hf) rfl |>.trans ?_) (mCall2 (x := .c (.bool (dueS ss sh q))) (y := .c (.bool (dueS ss sh q))) (mMeth2 (x := .c (.obj C_Shares ["shares"] [.list (sh.map eP)])) (d := .obj C_Shares ["shares"] [.list (sh.map eP)]) (y := .c (.list (ss.map eP))) (z := .c (eP q)) rfl rfl (by decide) rfl rfl rfl rfl rfl h3) rfl rfl rfl h4)), _, rfl, rfl⟩
  show (if okD _ && okD _ then some (R.c (.bool (deq _ _))) else none) = _
  rw [Rd_c, sh_L, eqv_L]
  simp
abbrev s_law : Stmt := top 55
abbrev N_law : List Str := ["_law_script", "_law_whole_here", "_law_by", "_law_sticks_here", "_law_end", "_law_point", "_law_told", "_law_shares", "_law_at", "_law_lists", "_law_share_here", "_law_some", "_law_line", "_law_answer", "_law_due"]
def Sp_law (g : List D → Option R) : Prop := ∀ ns : List Int, (∀ n ∈ ns, Builtin.Int.intBits n ≤ 1048576) → ns.length ≤ 63 → g [.list (ns.map .int)] = some (.c (.bool true))
theorem sc_law : FnScope N_law ["_law_script"] (defScope s_law) := ⟨rfl, rfl, rfl, by decide +kernel, rfl, by decide +kernel, by decide +kernel⟩
set_option maxHeartbeats 8000000 in
theorem ok_law {f : Addr} {fd : FuncData} (T : Txt K mg C_Shares C_Apart) (F : Fun K "law" "law" s_law f fd) {g_Apart_shows : List D → Option R} (C_Apart_shows : Mth P w K mg base C_Apart "shows" 3 3 g_Apart_shows) (H_Apart_shows : Sp_Apart_shows C_Shares C_Apart g_Apart_shows) {g_Apart_init : List D → Option (List Tr)} (C_Apart_init : Ini P w K mg base C_Apart 1 1 ["line"] g_Apart_init) (H_Apart_init : Sp_Apart_init g_Apart_init) {g_Shares_shows : List D → Option R} (C_Shares_shows : Mth P w K mg base C_Shares "shows" 5 3 g_Shares_shows) (H_Shares_shows : Sp_Shares_shows C_Shares C_Apart g_Shares_shows) {g_Shares_init : List D → Option (List Tr)} (C_Shares_init : Ini P w K mg base C_Shares 1 1 ["shares"] g_Shares_init) (H_Shares_init : Sp_Shares_init g_Shares_init) {g__law_says : List D → Option R} (C__law_says : Cal P w K mg base "_law_says" 1 ["_law_said", "_law_due"] g__law_says) (H__law_says : Sp__law_says g__law_says) {g__law_parts : List D → Option R} (C__law_parts : Cal P w K mg base "_law_parts" 2 ["_law_sticks_here", "_law_line", "_law_point"] g__law_parts) (H__law_parts : Sp__law_parts g__law_parts) {g__law_shares_right : List D → Option R} (C__law_shares_right : Cal P w K mg base "_law_shares_right" 6 ["_law_sticks_here", "_law_point", "_law_shares"] g__law_shares_right) (H__law_shares_right : Sp__law_shares_right g__law_shares_right) {g_within : List D → Option R} (C_within : Cal P w K mg base "within" 7 ["sticks", "point"] g_within) (H_within : Sp_within C_Shares C_Apart g_within) {g__law_sum : List D → Option R} (C__law_sum : Cal P w K mg base "_law_sum" 1 ["_law_points"] g__law_sum) (H__law_sum : Sp__law_sum g__law_sum) {g__law_sticks : List D → Option R} (C__law_sticks : Cal P w K mg base "_law_sticks" 2 ["_law_script", "_law_by", "_law_most", "_law_far"] g__law_sticks) (H__law_sticks : Sp__law_sticks g__law_sticks) : ∃ g, FnOk P w K mg base CX0 8 f fd ["_law_script"] (spD K 1 g) ∧ Sp_law g := by
  refine fn_ex F sc_law (fun f cdv A outer s H E hr => (m_cons (m_set (i := 1) sc_law.nd (m_callB (cr_sum rfl) s_sum T.b_sum (m_acons1 (m_slice (m_var (pv 0)) m_ponone (m_posome m_int)) m_anil)))
    (m_cons (m_for (tg1 2) PassesOwn.never rfl (m_irange1 T.b_range (m_acons1 m_int m_anil)) (pg_name (i := 2) sc_law.nd rfl (by first | exact Or.inl rfl | exact Or.inr rfl))
    (m_cons (m_set (i := 3) sc_law.nd (m_callC C__law_sticks (hr.mono (by decide)) (m_an4 (m_var (pv 0)) (m_var (pv 2)) m_int m_int)))
    (m_cons (m_set (i := 4) sc_law.nd (m_callC C__law_sum (hr.mono (by decide)) (m_acons1 (m_var (pv 3)) m_anil)))
    (m_sone (m_for (tg1 5) PassesOwn.never rfl (m_ilist (m_lst (m_an4 (m_tup (m_an2 m_int m_int)) (m_var (pv 4)) (m_tup (m_an2 (m_op op_fdiv s_div (m_ix (m_var (pv 4)) m_int) m_int) (m_op op_fdiv s_div (m_ix (m_var (pv 4)) m_int) m_int))) (m_tup (m_an2 (m_ix (m_var (pv 4)) m_int) m_int))))) (pg_name (i := 5) sc_law.nd rfl (by first | exact Or.inl rfl | exact Or.inr rfl))
    (m_cons (m_set (i := 6) sc_law.nd (m_callC C_within (hr.mono (by decide)) (m_an2 (m_var (pv 3)) (m_var (pv 5)))))
    (m_cons (m_set (i := 7) sc_law.nd (m_ifExp (m_tval (m_isiK (clsI_cons T.ci_Shares (clsI_cons T.ci_Apart clsI_nil)) T.b_isinstance T.mc_Shares (m_var (pv 6)))) (m_fld1 T.cl_Shares T.na_Shares_shares (m_var (pv 6))) (m_op op_rep s_rep (m_lst (m_acons1 (m_tup (m_an2 m_int m_int)) m_anil)) (m_callB call_len_seq s_len T.b_len (m_acons1 (m_var (pv 3)) m_anil)))))
    (m_cons (m_set (i := 8) sc_law.nd (m_op op_mod s_mod (m_var (pv 1)) (m_callB call_len_seq s_len T.b_len (m_acons1 (m_var (pv 7)) m_anil))))
    (m_cons (m_seto (i := 9) sc_law.nd (m_lst (m_an5 (m_var (pv 7)) (m_slice (m_var (pv 7)) (m_posome m_int) m_ponone) (m_op op_addG s_add (m_var (pv 7)) (m_lst (m_acons1 (m_tup (m_an2 m_int m_int)) m_anil))) (m_op op_rep s_rep (m_lst (m_acons1 (m_tup (m_an2 m_int m_int)) m_anil)) (m_callB call_len_seq s_len T.b_len (m_acons1 (m_var (pv 3)) m_anil))) (m_op op_rep s_rep (m_lst (m_acons1 (m_tup (m_an2 m_int m_int)) m_anil)) (m_callB call_len_seq s_len T.b_len (m_acons1 (m_var (pv 3)) m_anil))))))
    (m_cons (m_for (tg1 10) PassesOwn.never rfl (m_ilist (m_lst (m_an9 (m_tup (m_an2 m_int m_int)) (m_tup (m_an2 m_int m_int)) (m_tup (m_an2 m_int m_int)) (m_tup (m_an2 (m_un un_neg s_neg m_int) m_int)) (m_tup (m_an2 m_int m_int)) (m_tup (m_an2 m_int m_int)) (m_tup (m_an2 m_int m_int)) (m_tup (m_an2 m_int m_int)) (m_tup (m_an2 (m_op op_pow s_pow m_int m_int) (m_op op_addG s_add (m_op op_pow s_pow m_int m_int) m_int)))))) (pg_name (i := 10) sc_law.nd rfl (by first | exact Or.inl rfl | exact Or.inr rfl))
    (m_sone (m_append (pv 9) (m_acons1 (m_op op_addG s_add (m_op op_addG s_add (m_slice (m_var (pv 7)) m_ponone (m_posome (m_var (pv 8)))) (m_lst (m_acons1 (m_var (pv 10)) m_anil))) (m_slice (m_var (pv 7)) (m_posome (m_op op_addG s_add (m_var (pv 8)) m_int)) m_ponone)) m_anil))) fsi_L)
    (m_cons (m_if (m_tnot (m_tval (m_callB (cr_all rfl) s_all T.b_all (m_acons1 (m_lcV (own := [("_law_some", 11)]) rfl sc_law.nd (tg1 11) (pv 9) (blkOk_by (own := [("_law_some", 11)]) (N := N_law) (sc := defScope s_law) (by decide +kernel)) (fun _ _ _ _ _ => (pg_name (i := 11) sc_law.nd rfl (by first | exact Or.inl rfl | exact Or.inr rfl))) (fun _ _ _ _ _ => m_pts0) (fun _ _ _ _ _ => (m_callC C__law_shares_right (hr.mono (by decide)) (m_an3 (m_var (pv 3)) (m_var (pv 5)) (m_var (pv 11)))))) m_anil))))
    (m_sone (m_ret m_bl))
    m_snil)
    (m_sone (m_for (tg1 12) PassesOwn.never rfl (m_ilist (m_lst (m_an8 (m_tup (m_an2 m_int m_int)) (m_tup (m_an2 m_int m_int)) (m_tup (m_an2 (m_un un_neg s_neg m_int) m_int)) (m_tup (m_an2 m_int m_int)) (m_tup (m_an2 m_int (m_un un_neg s_neg m_int))) (m_tup (m_an2 (m_op op_pow s_pow m_int m_int) (m_un un_neg s_neg m_int))) (m_tup (m_an2 (m_op op_mod s_mod (m_var (pv 1)) m_int) (m_un un_neg s_neg m_int))) (m_var (pv 4))))) (pg_name (i := 12) sc_law.nd rfl (by first | exact Or.inl rfl | exact Or.inr rfl))
    (m_cons (m_set (i := 13) sc_law.nd (m_makeC C_Apart_init (hr.mono (by decide)) T.mc_Apart (m_acons1 (m_var (pv 12)) m_anil)))
    (m_cons (m_set (i := 14) sc_law.nd (m_callC C__law_parts (hr.mono (by decide)) (m_an3 (m_var (pv 3)) (m_var (pv 12)) (m_var (pv 5)))))
    (m_sone (m_if (PW.pt (m_wor (m_tcmp (op_neD hr.units) s_ne (m_fld1 T.cl_Apart T.na_Apart_line (m_var (pv 13))) (m_var (pv 12)) (nomark _)) (m_wor1 (m_tnot (m_tval (m_callC C__law_says (hr.mono (by decide)) (m_an2 (m_alt (m_methC C_Shares_shows (m_var (pv 13)) T.cl_Shares (hr.mono (by decide)) (m_an2 (m_var (pv 3)) (m_var (pv 5)))) (m_methC C_Apart_shows (m_var (pv 13)) T.cl_Apart (hr.mono (by decide)) (m_an2 (m_var (pv 3)) (m_var (pv 5))))) (m_var (pv 14)))))))))
    (m_sone (m_ret m_bl))
    m_snil)))) fsi_L)))))))) fsi_L)))) fsi_K)
    (m_cons (m_if (m_tcmp MD.op_isnotB s_isB (m_alt (m_methC C_Shares_shows (m_makeC C_Shares_init (hr.mono (by decide)) T.mc_Shares (m_acons1 (m_lst (m_an2 (m_tup (m_an2 m_int m_int)) (m_tup (m_an2 m_int m_int)))) m_anil)) T.cl_Shares (hr.mono (by decide)) (m_an2 (m_lst (m_an2 (m_tup (m_an2 m_int m_int)) (m_tup (m_an2 m_int m_int)))) (m_tup (m_an2 m_int m_int)))) (m_methC C_Apart_shows (m_makeC C_Shares_init (hr.mono (by decide)) T.mc_Shares (m_acons1 (m_lst (m_an2 (m_tup (m_an2 m_int m_int)) (m_tup (m_an2 m_int m_int)))) m_anil)) T.cl_Apart (hr.mono (by decide)) (m_an2 (m_lst (m_an2 (m_tup (m_an2 m_int m_int)) (m_tup (m_an2 m_int m_int)))) (m_tup (m_an2 m_int m_int))))) m_bl (nomark _))
    (m_sone (m_ret m_bl))
    m_snil)
    (m_sone (m_ret (m_and (m_cmp MD.op_isB s_isB (m_alt (m_methC C_Shares_shows (m_makeC C_Apart_init (hr.mono (by decide)) T.mc_Apart (m_acons1 (m_tup (m_an2 m_int m_int)) m_anil)) T.cl_Shares (hr.mono (by decide)) (m_an2 (m_lst (m_acons1 (m_tup (m_an2 m_int m_int)) m_anil)) (m_tup (m_an2 m_int m_int)))) (m_methC C_Apart_shows (m_makeC C_Apart_init (hr.mono (by decide)) T.mc_Apart (m_acons1 (m_tup (m_an2 m_int m_int)) m_anil)) T.cl_Apart (hr.mono (by decide)) (m_an2 (m_lst (m_acons1 (m_tup (m_an2 m_int m_int)) m_anil)) (m_tup (m_an2 m_int m_int))))) m_bl (nomark _)) (m_one (m_cmp MD.op_isB s_isB (m_alt (m_methC C_Shares_shows (m_makeC C_Apart_init (hr.mono (by decide)) T.mc_Apart (m_acons1 (m_tup (m_an2 m_int m_int)) m_anil)) T.cl_Shares (hr.mono (by decide)) (m_an2 (m_lst (m_acons1 (m_tup (m_an2 m_int m_int)) m_anil)) (m_tup (m_an2 m_int m_int)))) (m_methC C_Apart_shows (m_makeC C_Apart_init (hr.mono (by decide)) T.mc_Apart (m_acons1 (m_tup (m_an2 m_int m_int)) m_anil)) T.cl_Apart (hr.mono (by decide)) (m_an2 (m_lst (m_acons1 (m_tup (m_an2 m_int m_int)) m_anil)) (m_tup (m_an2 m_int m_int))))) m_bl (nomark _)))))))))) ?_
  intro ns hbits _
  refine runD_to ?_
  have hne : C_Apart ≠ C_Shares := fun z => by
    have a := T.ki_Apart_Shares
    have b := T.ki_Shares_Shares
    rw [z, b] at a
    cases a
  obtain ⟨cs, ec, _, _⟩ := cut63 ns
  refine mSeq_ex (P := fun E => ∃ W : Int, E = [some (.v (.list (ns.map .int))), some (.v (.int W)), none, none, none, none, none, none, none, none, none, none, none, none, none]) ⟨_, by walk_at "ev" <;> rfl, cs.sum, rfl⟩ ?_
  rintro E ⟨W, rfl⟩
  refine mSeq_ex (mFor_ind (l := List.range (2 : Int).toNat) (enc := fun i => D.int (0 + (i : Int))) (fun pre E => ∃ (j2 j3 j4 j5 j6 j7 j8 j9 j10 j11 j12 j13 j14 : Option Sl), E = [some (.v (.list (ns.map .int))), some (.v (.int W)), j2, j3, j4, j5, j6, j7, j8, j9, j10, j11, j12, j13, j14]) (mIR1_eq (by walk_at "ev") (by decide)) ⟨none, none, none, none, none, none, none, none, none, none, none, none, none, rfl⟩ ?_) ?_
  · rintro pre i E hi hlt _ ⟨j2, j3, j4, j5, j6, j7, j8, j9, j10, j11, j12, j13, j14, rfl⟩
    have hi3 : i < 2 := List.mem_range.mp hi
    obtain ⟨r0, hr0, ss, rfl, h, hm5, hf⟩ := H__law_sticks ns (0 + (i : Int)) hbits (by omega) (by omega) 6 20 (by decide) (by decide) (by decide) (by decide)
    have hl6 := h.l6
    have hl1 := h.l1
    have hbe := h.smE
    refine mSeq_nxE (P := fun E => E = [some (.v (.list (ns.map .int))), some (.v (.int W)), some (.v (.int (0 + (i : Int)))), some (.v (.list (ss.map eP))), j4, j5, j6, j7, j8, j9, j10, j11, j12, j13, j14]) ⟨_, mAsgV_eq (mCallN (rs := [.c (.list (ns.map .int)), .c (.int (0 + (i : Int))), .c (.int 6), .c (.int 20)]) rfl rfl rfl hr0) (Rpro_o _), rfl⟩ ?_
    rintro E rfl
    have hsm := H__law_sum ss h.lim
    refine mSeq_nxE (P := fun E => E = [some (.v (.list (ns.map .int))), some (.v (.int W)), some (.v (.int (0 + (i : Int)))), some (.v (.list (ss.map eP))), some (.v (eP (sm2 ss))), j5, j6, j7, j8, j9, j10, j11, j12, j13, j14]) ⟨_, mAsgV_eq (mCall1 (r := .c (.list (ss.map eP))) rfl rfl hsm) rfl, rfl⟩ ?_
    rintro E rfl
    refine ex_nx (mFor_ind (l := [((0 : Int), (0 : Int)), sm2 ss, ((sm2 ss).1 / 2, (sm2 ss).2 / 2), ((sm2 ss).1, 0)]) (enc := eP) (fun pre E => ∃ (j5 j6 j7 j8 j9 j10 j11 j12 j13 j14 : Option Sl), E = [some (.v (.list (ns.map .int))), some (.v (.int W)), some (.v (.int (0 + (i : Int)))), some (.v (.list (ss.map eP))), some (.v (eP (sm2 ss))), j5, j6, j7, j8, j9, j10, j11, j12, j13, j14]) (mIL_o _ ?_) ⟨j5, j6, j7, j8, j9, j10, j11, j12, j13, j14, rfl⟩ ?_) ?_
    · generalize sm2 ss = en at *
      clear hr0 hsm h
      walk_at "ev" <;> rfl
    · rintro pre q E hq hlt _ ⟨j5, j6, j7, j8, j9, j10, j11, j12, j13, j14, rfl⟩
      have hqs : Sm q := by
        simp only [List.mem_cons, List.not_mem_nil, or_false] at hq
        unfold Sm
        rcases hq with rfl | rfl | rfl | rfl <;> (try simp only) <;> omega
      obtain ⟨r, hr, hr1, hr2⟩ := H_within ss q h
      have hd : ∃ d, r.up.pro = some d ∧ ((∃ sh : List Pt, d = .obj C_Shares ["shares"] [.list (sh.map eP)] ∧ sh.length = ss.length ∧ ∀ p ∈ sh, Bd p) ∨ ∃ l : Pt, d = .obj C_Apart ["line"] [eP l]) := by
        cases hfb : foundB ss q with
        | true =>
          obtain ⟨sh, rfl, g1, g2, _⟩ := hr1 hfb
          exact ⟨_, upo_pro _ _ sh, .inl ⟨sh, rfl, g1, fun p hp => isS_bd (g2 p hp).1 (g2 p hp).2⟩⟩
        | false =>
          obtain ⟨l, rfl⟩ := hr2 hfb
          exact ⟨_, rfl, .inr ⟨l, rfl⟩⟩
      obtain ⟨d, hpd, hd⟩ := hd
      refine mSeq_nxE (P := fun E => E = [some (.v (.list (ns.map .int))), some (.v (.int W)), some (.v (.int (0 + (i : Int)))), some (.v (.list (ss.map eP))), some (.v (eP (sm2 ss))), some (.v (eP q)), some (.v d), j7, j8, j9, j10, j11, j12, j13, j14]) ⟨_, mAsgV_eq (mCall2 (x := .c (.list (ss.map eP))) (y := .c (eP q)) rfl rfl rfl rfl hr) hpd, rfl⟩ ?_
      rintro E rfl
      refine mSeq_nxE (P := fun E => ∃ sh : List Pt, sh.length = ss.length ∧ (∀ p ∈ sh, Bd p) ∧ E = [some (.v (.list (ns.map .int))), some (.v (.int W)), some (.v (.int (0 + (i : Int)))), some (.v (.list (ss.map eP))), some (.v (eP (sm2 ss))), some (.v (eP q)), some (.v d), some (.v (.list (sh.map eP))), j8, j9, j10, j11, j12, j13, j14]) ?_ ?_
      · rcases hd with ⟨sh, rfl, g1, g2⟩ | ⟨l, rfl⟩
        · have hfl : gFld [C_Shares] "shares" (.c (.obj C_Shares ["shares"] [.list (sh.map eP)])) = some (.c (.list (sh.map eP))) := by
            show (if C_Shares ∈ [C_Shares] then _ else none) = _
            rw [if_pos List.mem_cons_self]
            rfl
          exact ⟨_, mAsgV_eq ((mIf_t (mB_eq (mUn_eq (r := .c (.obj C_Shares ["shares"] [.list (sh.map eP)])) rfl (isi_obj rfl List.mem_cons_self T.ki_Shares_Shares)))).trans (mUn_eq (r := .c (.obj C_Shares ["shares"] [.list (sh.map eP)])) rfl hfl)) rfl, sh, g1, g2, rfl⟩
        · refine ⟨_, mAsgV_eq ((mIf_f (mB_eq (mUn_eq (r := .c (.obj C_Apart ["line"] [eP l])) rfl (isi_obj rfl (List.mem_cons_of_mem _ List.mem_cons_self) T.ki_Apart_Shares)))).trans ((mOp_eq (x := .o [eP (1, 2)]) (y := .c (.int ss.length)) rfl ((mCl1 (r := .c (.list (ss.map eP))) rfl).trans ((len_L _).trans (by rw [List.length_map])))).trans (rep_o _ _ (by omega)))) (Rpro_o _), List.replicate ss.length (1, 2), List.length_replicate, fun p hp => ?_, by rw [rep_map]; rfl⟩
          rw [List.eq_of_mem_replicate hp]
          exact ⟨by decide, by decide⟩
      rintro E ⟨sh, hshl, hbd, rfl⟩
      obtain ⟨k, hk, hkl⟩ : ∃ k : Nat, W % (sh.length : Int) = (k : Int) ∧ k < sh.length := ⟨(W % (sh.length : Int)).toNat, by have := Int.emod_nonneg W (show (sh.length : Int) ≠ 0 by omega); omega, by have := Int.emod_nonneg W (show (sh.length : Int) ≠ 0 by omega); have := Int.emod_lt_of_pos W (show (0 : Int) < sh.length by omega); omega⟩
      have hmod : gMod (.c (.int W)) (.c (.int (sh.length : Int))) = some (.c (.int (k : Int))) := by
        show (if decide (0 < (sh.length : Int)) = true then some (R.c (.int (W % (sh.length : Int)))) else none) = _
        rw [if_pos (decide_eq_true (by omega)), hk]
      have hlen : ∀ (E : Ev) (i : Nat) (l : List Pt), mVar i E = some (.c (.list (l.map eP))) → mCl gLen (mCons (mVar i) mNil) E = some (.c (.int (l.length : Int))) := fun E i l hv => (mCl1 hv).trans ((len_L _).trans (by rw [List.length_map]))
      refine mSeq_nxE (P := fun E => E = [some (.v (.list (ns.map .int))), some (.v (.int W)), some (.v (.int (0 + (i : Int)))), some (.v (.list (ss.map eP))), some (.v (eP (sm2 ss))), some (.v (eP q)), some (.v d), some (.v (.list (sh.map eP))), some (.v (.int (k : Int))), j9, j10, j11, j12, j13, j14]) ⟨_, mAsgV_eq (r := .c (.int (k : Int))) ((mOp_eq (x := .c (.int W)) (y := .c (.int (sh.length : Int))) rfl (hlen _ 7 sh rfl)).trans hmod) rfl, rfl⟩ ?_
      rintro E rfl
      refine mSeq_nxE (P := fun E => ∃ L : List (List Pt), L.length = 5 ∧ (∀ x ∈ L, x.length ≤ 7 ∧ ∀ p ∈ x, Bd p) ∧ E = [some (.v (.list (ns.map .int))), some (.v (.int W)), some (.v (.int (0 + (i : Int)))), some (.v (.list (ss.map eP))), some (.v (eP (sm2 ss))), some (.v (eP q)), some (.v d), some (.v (.list (sh.map eP))), some (.v (.int (k : Int))), some (.t (Tr.fl (L.map encL))), j10, j11, j12, j13, j14]) ?_ ?_
      · have bd01 : Bd (0, 1) := ⟨by decide, by decide⟩
        have bd11 : Bd (1, 1) := ⟨by decide, by decide⟩
        refine ⟨_, asgO_eq (mLst_o (rs := [.c (.list (sh.map eP)), .o ((sh.map eP).drop 1), .o (sh.map eP ++ [eP (0, 1)]), .o (List.replicate ss.length (eP (0, 1))), .o (List.replicate ss.length (eP (1, 1)))]) (ds := [sh, sh.drop 1, sh ++ [(0, 1)], List.replicate ss.length (0, 1), List.replicate ss.length (1, 1)].map encL) ?_ (show 5 ≤ lim by decide) ?_), [sh, sh.drop 1, sh ++ [(0, 1)], List.replicate ss.length (0, 1), List.replicate ss.length (1, 1)], rfl, ?_, rfl⟩
        · refine mCons_eq rfl (mCons_eq ((sl_eq (x := .c (.list (sh.map eP))) (lo := some 1) (hi := none) rfl rfl rfl).trans ((cut_c _ _ _).trans ?_)) (mCons_eq ((mOp_eq (x := .c (.list (sh.map eP))) (y := .o [eP (0, 1)]) rfl rfl).trans (add_co (by rw [List.length_map]; show sh.length + 1 ≤ _; omega))) (mCons_eq ((mOp_eq (x := .o [eP (0, 1)]) (y := .c (.int (ss.length : Int))) rfl (hlen _ 3 ss rfl)).trans (rep_o _ _ (by omega))) (mCons_eq ((mOp_eq (x := .o [eP (1, 1)]) (y := .c (.int (ss.length : Int))) rfl (hlen _ 3 ss rfl)).trans (rep_o _ _ (by omega))) rfl))))
          rw [show (some (1 : Int)) = some ((1 : Nat) : Int) from rfl, cut_drop]
        · rw [MD.pros_cons, Rpro_c, MD.pros_cons, Rpro_o, MD.pros_cons, Rpro_o, MD.pros_cons, Rpro_o, MD.pros_cons, Rpro_o]
          simp [encL, pros]
        · intro x hx
          simp only [List.mem_cons, List.not_mem_nil, or_false] at hx
          rcases hx with rfl | rfl | rfl | rfl | rfl
          · exact ⟨by omega, hbd⟩
          · exact ⟨by rw [List.length_drop]; omega, fun p hp => hbd p (List.mem_of_mem_drop hp)⟩
          · refine ⟨by rw [List.length_append]; show sh.length + 1 ≤ 7; omega, fun p hp => ?_⟩
            rcases List.mem_append.mp hp with hp | hp
            · exact hbd p hp
            · rw [List.mem_singleton.mp hp]; exact bd01
          · exact ⟨by rw [List.length_replicate]; omega, fun p hp => by rw [List.eq_of_mem_replicate hp]; exact bd01⟩
          · exact ⟨by rw [List.length_replicate]; omega, fun p hp => by rw [List.eq_of_mem_replicate hp]; exact bd11⟩
      rintro E ⟨L, hL5, hLb, rfl⟩
      refine mSeq_nxE (mFor_ind (l := [((1 : Int), (2 : Int)), (2, 4), (3, 2), (-1, 2), (0, 2), (1, 0), (0, 0), (5, 5), (10 ^ 20, 10 ^ 20 + 1)]) (enc := eP) (fun pre E => ∃ (L : List (List Pt)) (j10 j11 j12 j13 j14 : Option Sl), L.length = 5 + pre.length ∧ (∀ x ∈ L, x.length ≤ 7 ∧ ∀ p ∈ x, Bd p) ∧ E = [some (.v (.list (ns.map .int))), some (.v (.int W)), some (.v (.int (0 + (i : Int)))), some (.v (.list (ss.map eP))), some (.v (eP (sm2 ss))), some (.v (eP q)), some (.v d), some (.v (.list (sh.map eP))), some (.v (.int (k : Int))), some (.t (Tr.fl (L.map encL))), j10, j11, j12, j13, j14]) (mIL_o _ ?_) ⟨L, j10, j11, j12, j13, j14, hL5, hLb, rfl⟩ ?_) ?_
      · rfl
      · rintro pre a E ha hlt _ ⟨L, j10, j11, j12, j13, j14, hLl, hLb, rfl⟩
        have hlt9 : pre.length < 9 := hlt
        have hba : Bd a := by
          simp only [List.mem_cons, List.not_mem_nil, or_false] at ha
          rcases ha with rfl | rfl | rfl | rfl | rfl | rfl | rfl | rfl | rfl <;> exact ⟨by decide, by decide⟩
        refine ⟨_, mApp_fl (l := L.map encL) (d := encL (sh.take k ++ [a] ++ sh.drop (k + 1))) (rs := [.o ((sh.map eP).take k ++ [eP a] ++ (sh.map eP).drop (k + 1))]) rfl (mCons_eq ((mOp_eq (x := .o ((sh.map eP).take k ++ [eP a])) (y := .o ((sh.map eP).drop (k + 1))) ((mOp_eq (x := .o ((sh.map eP).take k)) (y := .o [eP a]) ((sl_eq (x := .c (.list (sh.map eP))) (lo := none) (hi := some (k : Int)) rfl rfl rfl).trans ((cut_c _ _ _).trans (by rw [cut_take]))) rfl).trans (add_oo ?_)) ((sl_eq (x := .c (.list (sh.map eP))) (lo := some ((k : Int) + 1)) (hi := none) rfl rfl rfl).trans ((cut_c _ _ _).trans ?_))).trans (add_oo ?_)) rfl) ?_ ?_, L ++ [sh.take k ++ [a] ++ sh.drop (k + 1)], some (.v (eP a)), j11, j12, j13, j14, ?_, ?_, ?_⟩
        · rw [List.length_take, List.length_map]
          show min k sh.length + 1 ≤ 100000
          omega
        · rw [show (k : Int) + 1 = ((k + 1 : Nat) : Int) by omega, cut_drop]
        · rw [List.length_append, List.length_take, List.length_drop, List.length_map]
          show min k sh.length + 1 + _ ≤ 100000
          omega
        · rw [MD.pros_cons, Rpro_o]
          simp [encL, pros]
        · rw [List.length_map, hLl]
          exact Nat.lt_of_lt_of_le (show 5 + pre.length < 100 by omega) (by decide)
        · rw [List.length_append, hLl, List.length_append]
          show 5 + pre.length + 1 = 5 + (pre.length + 1)
          omega
        · intro x hx
          rcases List.mem_append.mp hx with hx | hx
          · exact hLb x hx
          · rw [List.mem_singleton.mp hx]
            refine ⟨by simp; omega, fun p hp => ?_⟩
            simp only [List.mem_append, List.mem_singleton] at hp
            rcases hp with (hp | hp) | hp
            · exact hbd p (List.mem_of_mem_take hp)
            · rw [hp]; exact hba
            · exact hbd p (List.mem_of_mem_drop hp)
        · simp
      rintro E ⟨L, j10, j11, j12, j13, j14, hLl, hLb, rfl⟩
      have hLl' : L.length = 14 := hLl
      refine mSeq_nxE (P := fun E => E = [some (.v (.list (ns.map .int))), some (.v (.int W)), some (.v (.int (0 + (i : Int)))), some (.v (.list (ss.map eP))), some (.v (eP (sm2 ss))), some (.v (eP q)), some (.v d), some (.v (.list (sh.map eP))), some (.v (.int (k : Int))), some (.t (Tr.fl (L.map encL))), j10, j11, j12, j13, j14]) ⟨_, (mIfS_f (mTNot_eq (k := true) (mB_eq ((mCl1 (mLcV_eq (l := L) (enc := encL) (qs := fun x => [encL x]) (b := fun _ => true) (y := fun _ => D.bool true) rfl (by rw [hLl']; decide) fun x hx => ⟨rfl, rfl, fun _ => ⟨_, mCall3 (x := .c (.list (ss.map eP))) (y := .c (eP q)) (z := .c (encL x)) rfl rfl rfl rfl rfl rfl (H__law_shares_right ss x q h hqs (hLb x hx).1 (hLb x hx).2), rfl⟩⟩)).trans (by rw [filter_true]; exact all_true L))))).trans rfl, rfl⟩ ?_
      rintro E rfl
      refine ex_nx (mFor_ind (l := [((0 : Int), (0 : Int)), (1, 0), (-1, 0), (0, 1), (0, -1), (10 ^ 20, -3), (W % 7, -5), sm2 ss]) (enc := eP) (fun pre E => ∃ (j12 j13 j14 : Option Sl), E = [some (.v (.list (ns.map .int))), some (.v (.int W)), some (.v (.int (0 + (i : Int)))), some (.v (.list (ss.map eP))), some (.v (eP (sm2 ss))), some (.v (eP q)), some (.v d), some (.v (.list (sh.map eP))), some (.v (.int (k : Int))), some (.t (Tr.fl (L.map encL))), j10, j11, j12, j13, j14]) (mIL_o _ ?_) ⟨j12, j13, j14, rfl⟩ ?_) ?_
      · generalize sm2 ss = en at *
        rfl
      · rintro pre l E hl hlt _ ⟨j12, j13, j14, rfl⟩
        have hsms : ∀ s ∈ ss, Sm s := fun s hs => near_sm (h.nr s hs)
        have h1 := H_Apart_init l
        have h2 := H__law_parts ss l q h hqs
        have h3 := H_Apart_shows ss l q hl6 hsms (.inr hqs)
        have h4 := H__law_says (decide (reachI ss l < dt l q)) (decide (reachI ss l < dt l q))
        rw [decide_eq_true rfl] at h4
        have hfl : gFld [C_Apart] "line" (.c (.obj C_Apart ["line"] [eP l])) = some (.c (eP l)) := by
          show (if C_Apart ∈ [C_Apart] then _ else none) = _
          rw [if_pos List.mem_cons_self]
          rfl
        refine ⟨_, (mSeq_nx (mAsgV_eq (mMake1 (r := .c (eP l)) rfl rfl h1) (obj_pro _ _ _))).trans ((mSeq_nx (mAsgV_eq (mCall3 (x := .c (.list (ss.map eP))) (y := .c (eP l)) (z := .c (eP q)) rfl rfl rfl rfl rfl rfl h2) rfl)).trans ((mIfS_f (mTOr_f (mB_eq ((mOp_eq (x := .c (eP l)) (y := .c (eP l)) (mUn_eq (r := .c (.obj C_Apart ["line"] [eP l])) rfl hfl) rfl).trans (gNe_same rfl rfl (sh_P l) (by show deq (eP l) (eP l) = true; rw [eqv_P]; exact decide_eq_true rfl)))) (mTNot_eq (k := true) (mB_eq (mCall2 (x := .c (.bool (decide (reachI ss l < dt l q)))) (y := .c (.bool (decide (reachI ss l < dt l q)))) (mAlt_r (mMeth_none (x := .c (.obj C_Apart ["line"] [eP l])) rfl rfl hne) (mMeth2 (x := .c (.obj C_Apart ["line"] [eP l])) (d := .obj C_Apart ["line"] [eP l]) (y := .c (.list (ss.map eP))) (z := .c (eP q)) rfl rfl (by decide) rfl rfl rfl rfl rfl h3)) rfl rfl rfl h4))))).trans rfl)), some (.v (eP l)), some (.v (.obj C_Apart ["line"] [eP l])), some (.v (.bool (decide (reachI ss l < dt l q)))), rfl⟩
      · rintro E ⟨j12, j13, j14, rfl⟩
        exact ⟨_, _, _, _, _, _, _, _, _, _, rfl⟩
    · rintro E ⟨j5, j6, j7, j8, j9, j10, j11, j12, j13, j14, rfl⟩
      exact ⟨_, _, _, _, _, _, _, _, _, _, _, _, _, rfl⟩
  rintro E ⟨j2, j3, j4, j5, j6, j7, j8, j9, j10, j11, j12, j13, j14, rfl⟩
  have sok2 : SOk [((2 : Int), (0 : Int)), (0, 2)] := ⟨by decide, by decide, by decide, by decide, by decide⟩
  have e1 := H_Shares_shows [(2, 0), (0, 2)] [(1, 2), (0, 1)] (1, 0) sok2 (by unfold Sm; decide) (by decide) (by decide)
  rw [show dueS [((2 : Int), (0 : Int)), (0, 2)] [(1, 2), (0, 1)] (1, 0) = true by decide] at e1
  have e2 := H_Apart_shows [(2, 0)] (0, 1) (0, 1) (by decide) (by unfold Sm; decide) (.inl (by unfold Sm; decide))
  rw [show decide (reachI [((2 : Int), (0 : Int))] (0, 1) < dt (0, 1) (0, 1)) = true by decide] at e2
  have e3 := H_Apart_shows [(2, 0)] (0, 1) (1, 0) (by decide) (by unfold Sm; decide) (.inl (by unfold Sm; decide))
  rw [show decide (reachI [((2 : Int), (0 : Int))] (0, 1) < dt (0, 1) (1, 0)) = false by decide] at e3
  have h1 := H_Shares_init [(1, 2), (0, 1)]
  have h2 := H_Apart_init (0, 1)
  refine mSeq_ex (P := fun E => E = [some (.v (.list (ns.map .int))), some (.v (.int W)), j2, j3, j4, j5, j6, j7, j8, j9, j10, j11, j12, j13, j14]) ⟨_, (mIfS_f (mB_eq ((mOp_eq (x := .c (.bool true)) (y := .c (.bool true)) (mAlt_l (mMeth2 (x := .t (.obj C_Shares ["shares"] [Tr.fl ([((1 : Int), (2 : Int)), (0, 1)].map eP)])) (d := .obj C_Shares ["shares"] [.list ([((1 : Int), (2 : Int)), (0, 1)].map eP)]) (y := .o ([((2 : Int), (0 : Int)), (0, 2)].map eP)) (z := .c (eP (1, 0))) (mMake1 (r := .o ([((1 : Int), (2 : Int)), (0, 1)].map eP)) rfl rfl h1) rfl (by decide) rfl rfl rfl rfl rfl e1)) rfl).trans rfl))).trans rfl, rfl⟩ ?_
  rintro E rfl
  have hA : ∀ E : Ev, mMake C_Apart 1 ["line"] g_Apart_init (mCons (mTup (mCons (mC (D.int 0)) (mCons (mC (D.int 1)) mNil))) mNil) E = some (.t (.obj C_Apart ["line"] [.leaf (eP (0, 1))])) := fun E => mMake1 (r := .c (eP (0, 1))) rfl rfl h2
  refine ⟨_, mRet_eq (r := .c (.bool true)) (mAndV_t ((mOp_eq (x := .c (.bool true)) (y := .c (.bool true)) (mAlt_r (mMeth_none (hA _) rfl hne) (mMeth2 (d := .obj C_Apart ["line"] [eP (0, 1)]) (y := .o ([((2 : Int), (0 : Int))].map eP)) (z := .c (eP (0, 1))) (hA _) rfl (by decide) rfl rfl (obj_pro _ _ _) rfl rfl e2)) rfl).trans rfl) ((mOp_eq (x := .c (.bool false)) (y := .c (.bool false)) (mAlt_r (mMeth_none (hA _) rfl hne) (mMeth2 (d := .obj C_Apart ["line"] [eP (0, 1)]) (y := .o ([((2 : Int), (0 : Int))].map eP)) (z := .c (eP (1, 0))) (hA _) rfl (by decide) rfl rfl (obj_pro _ _ _) rfl rfl e3)) rfl).trans rfl)), _, rfl, rfl⟩
end
set_option maxHeartbeats 16000000 in
theorem all_mk {l : PySem.W.OpenLaw} {w : World} {K : PySem.W.Frag} {h : Heap} {mg : Str → Option Value} {fa : Addr} (X : K.In h) (G : h.Ns mainGlobals mg) (hfa : mg "law" = some (.ref fa))
    {C_Shares : Addr}
    {C_Apart : Addr}
    {f_is_number : Addr} {oc_is_number kV_is_number dc_is_number pm_is_number cd_is_number ct_is_number : Value} {od_is_number an_is_number : Option Addr} {sl_is_number : Array (Option Value)}
    {f_is_point : Addr} {oc_is_point kV_is_point dc_is_point pm_is_point cd_is_point ct_is_point : Value} {od_is_point an_is_point : Option Addr} {sl_is_point : Array (Option Value)}
    {f_is_near : Addr} {oc_is_near kV_is_near dc_is_near pm_is_near cd_is_near ct_is_near : Value} {od_is_near an_is_near : Option Addr} {sl_is_near : Array (Option Value)}
    {f_greatest_into : Addr} {oc_greatest_into kV_greatest_into dc_greatest_into pm_greatest_into cd_greatest_into ct_greatest_into : Value} {od_greatest_into an_greatest_into : Option Addr} {sl_greatest_into : Array (Option Value)}
    {f_span : Addr} {oc_span kV_span dc_span pm_span cd_span ct_span : Value} {od_span an_span : Option Addr} {sl_span : Array (Option Value)}
    {f_stands : Addr} {oc_stands kV_stands dc_stands pm_stands cd_stands ct_stands : Value} {od_stands an_stands : Option Addr} {sl_stands : Array (Option Value)}
    {f_put_together : Addr} {oc_put_together kV_put_together dc_put_together pm_put_together cd_put_together ct_put_together : Value} {od_put_together an_put_together : Option Addr} {sl_put_together : Array (Option Value)}
    {f_taken_back : Addr} {oc_taken_back kV_taken_back dc_taken_back pm_taken_back cd_taken_back ct_taken_back : Value} {od_taken_back an_taken_back : Option Addr} {sl_taken_back : Array (Option Value)}
    {f_longer : Addr} {oc_longer kV_longer dc_longer pm_longer cd_longer ct_longer : Value} {od_longer an_longer : Option Addr} {sl_longer : Array (Option Value)}
    {f_all_together : Addr} {oc_all_together kV_all_together dc_all_together pm_all_together cd_all_together ct_all_together : Value} {od_all_together an_all_together : Option Addr} {sl_all_together : Array (Option Value)}
    {f_along : Addr} {oc_along kV_along dc_along pm_along cd_along ct_along : Value} {od_along an_along : Option Addr} {sl_along : Array (Option Value)}
    {f_twos : Addr} {oc_twos kV_twos dc_twos pm_twos cd_twos ct_twos : Value} {od_twos an_twos : Option Addr} {sl_twos : Array (Option Value)}
    {f_are_near : Addr} {oc_are_near kV_are_near dc_are_near pm_are_near cd_are_near ct_are_near : Value} {od_are_near an_are_near : Option Addr} {sl_are_near : Array (Option Value)}
    {f_are_sticks : Addr} {oc_are_sticks kV_are_sticks dc_are_sticks pm_are_sticks cd_are_sticks ct_are_sticks : Value} {od_are_sticks an_are_sticks : Option Addr} {sl_are_sticks : Array (Option Value)}
    {f_check_sticks : Addr} {oc_check_sticks kV_check_sticks dc_check_sticks pm_check_sticks cd_check_sticks ct_check_sticks : Value} {od_check_sticks an_check_sticks : Option Addr} {sl_check_sticks : Array (Option Value)}
    {f_check_point : Addr} {oc_check_point kV_check_point dc_check_point pm_check_point cd_check_point ct_check_point : Value} {od_check_point an_check_point : Option Addr} {sl_check_point : Array (Option Value)}
    {f_reach : Addr} {oc_reach kV_reach dc_reach pm_reach cd_reach ct_reach : Value} {od_reach an_reach : Option Addr} {sl_reach : Array (Option Value)}
    {f_is_share : Addr} {oc_is_share kV_is_share dc_is_share pm_is_share cd_is_share ct_is_share : Value} {od_is_share an_is_share : Option Addr} {sl_is_share : Array (Option Value)}
    {f_are_shares : Addr} {oc_are_shares kV_are_shares dc_are_shares pm_are_shares cd_are_shares ct_are_shares : Value} {od_are_shares an_are_shares : Option Addr} {sl_are_shares : Array (Option Value)}
    {f_lead_to : Addr} {oc_lead_to kV_lead_to dc_lead_to pm_lead_to cd_lead_to ct_lead_to : Value} {od_lead_to an_lead_to : Option Addr} {sl_lead_to : Array (Option Value)}
    {f_Shares_init : Addr} {oc_Shares_init kV_Shares_init dc_Shares_init pm_Shares_init cd_Shares_init ct_Shares_init : Value} {od_Shares_init an_Shares_init : Option Addr} {sl_Shares_init : Array (Option Value)}
    {f_Shares_shows : Addr} {oc_Shares_shows kV_Shares_shows dc_Shares_shows pm_Shares_shows cd_Shares_shows ct_Shares_shows : Value} {od_Shares_shows an_Shares_shows : Option Addr} {sl_Shares_shows : Array (Option Value)}
    {f_Apart_init : Addr} {oc_Apart_init kV_Apart_init dc_Apart_init pm_Apart_init cd_Apart_init ct_Apart_init : Value} {od_Apart_init an_Apart_init : Option Addr} {sl_Apart_init : Array (Option Value)}
    {f_Apart_shows : Addr} {oc_Apart_shows kV_Apart_shows dc_Apart_shows pm_Apart_shows cd_Apart_shows ct_Apart_shows : Value} {od_Apart_shows an_Apart_shows : Option Addr} {sl_Apart_shows : Array (Option Value)}
    {f_lowest : Addr} {oc_lowest kV_lowest dc_lowest pm_lowest cd_lowest ct_lowest : Value} {od_lowest an_lowest : Option Addr} {sl_lowest : Array (Option Value)}
    {f_shares_of_one : Addr} {oc_shares_of_one kV_shares_of_one dc_shares_of_one pm_shares_of_one cd_shares_of_one ct_shares_of_one : Value} {od_shares_of_one an_shares_of_one : Option Addr} {sl_shares_of_one : Array (Option Value)}
    {f_shares_by_two : Addr} {oc_shares_by_two kV_shares_by_two dc_shares_by_two pm_shares_by_two cd_shares_by_two ct_shares_by_two : Value} {od_shares_by_two an_shares_by_two : Option Addr} {sl_shares_by_two : Array (Option Value)}
    {f_shares_to : Addr} {oc_shares_to kV_shares_to dc_shares_to pm_shares_to cd_shares_to ct_shares_to : Value} {od_shares_to an_shares_to : Option Addr} {sl_shares_to : Array (Option Value)}
    {f_lines_of : Addr} {oc_lines_of kV_lines_of dc_lines_of pm_lines_of cd_lines_of ct_lines_of : Value} {od_lines_of an_lines_of : Option Addr} {sl_lines_of : Array (Option Value)}
    {f_parted : Addr} {oc_parted kV_parted dc_parted pm_parted cd_parted ct_parted : Value} {od_parted an_parted : Option Addr} {sl_parted : Array (Option Value)}
    {f_within : Addr} {oc_within kV_within dc_within pm_within cd_within ct_within : Value} {od_within an_within : Option Addr} {sl_within : Array (Option Value)}
    {f__law_number : Addr} {oc__law_number kV__law_number dc__law_number pm__law_number cd__law_number ct__law_number : Value} {od__law_number an__law_number : Option Addr} {sl__law_number : Array (Option Value)}
    {f__law_whole : Addr} {oc__law_whole kV__law_whole dc__law_whole pm__law_whole cd__law_whole ct__law_whole : Value} {od__law_whole an__law_whole : Option Addr} {sl__law_whole : Array (Option Value)}
    {f__law_span : Addr} {oc__law_span kV__law_span dc__law_span pm__law_span cd__law_span ct__law_span : Value} {od__law_span an__law_span : Option Addr} {sl__law_span : Array (Option Value)}
    {f__law_pair : Addr} {oc__law_pair kV__law_pair dc__law_pair pm__law_pair cd__law_pair ct__law_pair : Value} {od__law_pair an__law_pair : Option Addr} {sl__law_pair : Array (Option Value)}
    {f__law_sticks : Addr} {oc__law_sticks kV__law_sticks dc__law_sticks pm__law_sticks cd__law_sticks ct__law_sticks : Value} {od__law_sticks an__law_sticks : Option Addr} {sl__law_sticks : Array (Option Value)}
    {f__law_sum : Addr} {oc__law_sum kV__law_sum dc__law_sum pm__law_sum cd__law_sum ct__law_sum : Value} {od__law_sum an__law_sum : Option Addr} {sl__law_sum : Array (Option Value)}
    {f__law_corners : Addr} {oc__law_corners kV__law_corners dc__law_corners pm__law_corners cd__law_corners ct__law_corners : Value} {od__law_corners an__law_corners : Option Addr} {sl__law_corners : Array (Option Value)}
    {f__law_says : Addr} {oc__law_says kV__law_says dc__law_says pm__law_says cd__law_says ct__law_says : Value} {od__law_says an__law_says : Option Addr} {sl__law_says : Array (Option Value)}
    {f__law_share : Addr} {oc__law_share kV__law_share dc__law_share pm__law_share cd__law_share ct__law_share : Value} {od__law_share an__law_share : Option Addr} {sl__law_share : Array (Option Value)}
    {f__law_leads : Addr} {oc__law_leads kV__law_leads dc__law_leads pm__law_leads cd__law_leads ct__law_leads : Value} {od__law_leads an__law_leads : Option Addr} {sl__law_leads : Array (Option Value)}
    {f__law_parts : Addr} {oc__law_parts kV__law_parts dc__law_parts pm__law_parts cd__law_parts ct__law_parts : Value} {od__law_parts an__law_parts : Option Addr} {sl__law_parts : Array (Option Value)}
    {f__law_shares_right : Addr} {oc__law_shares_right kV__law_shares_right dc__law_shares_right pm__law_shares_right cd__law_shares_right ct__law_shares_right : Value} {od__law_shares_right an__law_shares_right : Option Addr} {sl__law_shares_right : Array (Option Value)}
    {f_law : Addr} {oc_law kV_law dc_law pm_law cd_law ct_law : Value} {od_law an_law : Option Addr} {sl_law : Array (Option Value)}
    {t_FARTHEST : Tok}
    {t_MOST_STICKS : Tok}
    {ta_ALL_OF_IT : Addr} {od_ALL_OF_IT : Option Addr} {its_ALL_OF_IT : Array Value} {n_ALL_OF_IT : Nat} {sl_ALL_OF_IT : Array (Option Value)}
    {ta_NONE_OF_IT : Addr} {od_NONE_OF_IT : Option Addr} {its_NONE_OF_IT : Array Value} {n_NONE_OF_IT : Nat} {sl_NONE_OF_IT : Array (Option Value)}
    (a_Shares : PySem.W.nsIn K mainGlobals "Shares" = some (some (.ref C_Shares)))
    (q0_Shares : PySem.W.plainGet K C_Shares Str.empty = true)
    (q1_Shares : PySem.W.hasDictIn K C_Shares = true)
    (q2_Shares : PySem.W.plainOver K C_Shares = true)
    (q3_Shares : PySem.W.findIn K (.ref C_Shares) "__setattr__" = some (some (.builtin "object.__setattr__")))
    (q4_Shares : PySem.W.plainGet K C_Shares "__class__" = true)
    (q5_Shares : PySem.W.findIn K (.ref C_Shares) "__class__" = some (some (.builtin "object.__class__")))
    (q6_Shares : PySem.W.mroIn K C_Shares (.type "object") = some true)
    (a_Apart : PySem.W.nsIn K mainGlobals "Apart" = some (some (.ref C_Apart)))
    (q0_Apart : PySem.W.plainGet K C_Apart Str.empty = true)
    (q1_Apart : PySem.W.hasDictIn K C_Apart = true)
    (q2_Apart : PySem.W.plainOver K C_Apart = true)
    (q3_Apart : PySem.W.findIn K (.ref C_Apart) "__setattr__" = some (some (.builtin "object.__setattr__")))
    (q4_Apart : PySem.W.plainGet K C_Apart "__class__" = true)
    (q5_Apart : PySem.W.findIn K (.ref C_Apart) "__class__" = some (some (.builtin "object.__class__")))
    (q6_Apart : PySem.W.mroIn K C_Apart (.type "object") = some true)
    (qn : PySem.W.specialIn K (.builtin "object.__class__") "__get__" = some (some (.builtin "getset_descriptor.__get__")))
    (qt : PySem.W.takesIn K (.builtin "object.__class__") = some true)
    (n_Apart_line : PySem.W.findIn K (.ref C_Apart) "line" = some none)
    (n_Shares_shares : PySem.W.findIn K (.ref C_Shares) "shares" = some none)
    (ki_Apart_Shares : PySem.W.kitOne K (.ref C_Apart) (.ref C_Shares) = some false)
    (ki_Shares_Shares : PySem.W.kitOne K (.ref C_Shares) (.ref C_Shares) = some true)
    (a_is_number : PySem.W.nsIn K mainGlobals "is_number" = some (some (.ref f_is_number)))
    (l_is_number : K.lookup f_is_number = some ⟨oc_is_number, od_is_number, .func (PySem.W.fnOf "is_number" "is_number" (defArgs s_is_number) (defBody s_is_number) (defScope s_is_number) .none kV_is_number dc_is_number pm_is_number an_is_number cd_is_number ct_is_number), sl_is_number⟩)
    (c_is_number : PySem.W.codeIn K cd_is_number "is_number" = true)
    (k_is_number : PySem.W.keepIn K (.ref f_is_number) = true)
    (a_is_point : PySem.W.nsIn K mainGlobals "is_point" = some (some (.ref f_is_point)))
    (l_is_point : K.lookup f_is_point = some ⟨oc_is_point, od_is_point, .func (PySem.W.fnOf "is_point" "is_point" (defArgs s_is_point) (defBody s_is_point) (defScope s_is_point) .none kV_is_point dc_is_point pm_is_point an_is_point cd_is_point ct_is_point), sl_is_point⟩)
    (c_is_point : PySem.W.codeIn K cd_is_point "is_point" = true)
    (k_is_point : PySem.W.keepIn K (.ref f_is_point) = true)
    (a_is_near : PySem.W.nsIn K mainGlobals "is_near" = some (some (.ref f_is_near)))
    (l_is_near : K.lookup f_is_near = some ⟨oc_is_near, od_is_near, .func (PySem.W.fnOf "is_near" "is_near" (defArgs s_is_near) (defBody s_is_near) (defScope s_is_near) .none kV_is_near dc_is_near pm_is_near an_is_near cd_is_near ct_is_near), sl_is_near⟩)
    (c_is_near : PySem.W.codeIn K cd_is_near "is_near" = true)
    (k_is_near : PySem.W.keepIn K (.ref f_is_near) = true)
    (a_greatest_into : PySem.W.nsIn K mainGlobals "greatest_into" = some (some (.ref f_greatest_into)))
    (l_greatest_into : K.lookup f_greatest_into = some ⟨oc_greatest_into, od_greatest_into, .func (PySem.W.fnOf "greatest_into" "greatest_into" (defArgs s_greatest_into) (defBody s_greatest_into) (defScope s_greatest_into) .none kV_greatest_into dc_greatest_into pm_greatest_into an_greatest_into cd_greatest_into ct_greatest_into), sl_greatest_into⟩)
    (c_greatest_into : PySem.W.codeIn K cd_greatest_into "greatest_into" = true)
    (k_greatest_into : PySem.W.keepIn K (.ref f_greatest_into) = true)
    (a_span : PySem.W.nsIn K mainGlobals "span" = some (some (.ref f_span)))
    (l_span : K.lookup f_span = some ⟨oc_span, od_span, .func (PySem.W.fnOf "span" "span" (defArgs s_span) (defBody s_span) (defScope s_span) .none kV_span dc_span pm_span an_span cd_span ct_span), sl_span⟩)
    (c_span : PySem.W.codeIn K cd_span "span" = true)
    (k_span : PySem.W.keepIn K (.ref f_span) = true)
    (a_stands : PySem.W.nsIn K mainGlobals "stands" = some (some (.ref f_stands)))
    (l_stands : K.lookup f_stands = some ⟨oc_stands, od_stands, .func (PySem.W.fnOf "stands" "stands" (defArgs s_stands) (defBody s_stands) (defScope s_stands) .none kV_stands dc_stands pm_stands an_stands cd_stands ct_stands), sl_stands⟩)
    (c_stands : PySem.W.codeIn K cd_stands "stands" = true)
    (k_stands : PySem.W.keepIn K (.ref f_stands) = true)
    (a_put_together : PySem.W.nsIn K mainGlobals "put_together" = some (some (.ref f_put_together)))
    (l_put_together : K.lookup f_put_together = some ⟨oc_put_together, od_put_together, .func (PySem.W.fnOf "put_together" "put_together" (defArgs s_put_together) (defBody s_put_together) (defScope s_put_together) .none kV_put_together dc_put_together pm_put_together an_put_together cd_put_together ct_put_together), sl_put_together⟩)
    (c_put_together : PySem.W.codeIn K cd_put_together "put_together" = true)
    (k_put_together : PySem.W.keepIn K (.ref f_put_together) = true)
    (a_taken_back : PySem.W.nsIn K mainGlobals "taken_back" = some (some (.ref f_taken_back)))
    (l_taken_back : K.lookup f_taken_back = some ⟨oc_taken_back, od_taken_back, .func (PySem.W.fnOf "taken_back" "taken_back" (defArgs s_taken_back) (defBody s_taken_back) (defScope s_taken_back) .none kV_taken_back dc_taken_back pm_taken_back an_taken_back cd_taken_back ct_taken_back), sl_taken_back⟩)
    (c_taken_back : PySem.W.codeIn K cd_taken_back "taken_back" = true)
    (k_taken_back : PySem.W.keepIn K (.ref f_taken_back) = true)
    (a_longer : PySem.W.nsIn K mainGlobals "longer" = some (some (.ref f_longer)))
    (l_longer : K.lookup f_longer = some ⟨oc_longer, od_longer, .func (PySem.W.fnOf "longer" "longer" (defArgs s_longer) (defBody s_longer) (defScope s_longer) .none kV_longer dc_longer pm_longer an_longer cd_longer ct_longer), sl_longer⟩)
    (c_longer : PySem.W.codeIn K cd_longer "longer" = true)
    (k_longer : PySem.W.keepIn K (.ref f_longer) = true)
    (a_all_together : PySem.W.nsIn K mainGlobals "all_together" = some (some (.ref f_all_together)))
    (l_all_together : K.lookup f_all_together = some ⟨oc_all_together, od_all_together, .func (PySem.W.fnOf "all_together" "all_together" (defArgs s_all_together) (defBody s_all_together) (defScope s_all_together) .none kV_all_together dc_all_together pm_all_together an_all_together cd_all_together ct_all_together), sl_all_together⟩)
    (c_all_together : PySem.W.codeIn K cd_all_together "all_together" = true)
    (k_all_together : PySem.W.keepIn K (.ref f_all_together) = true)
    (a_along : PySem.W.nsIn K mainGlobals "along" = some (some (.ref f_along)))
    (l_along : K.lookup f_along = some ⟨oc_along, od_along, .func (PySem.W.fnOf "along" "along" (defArgs s_along) (defBody s_along) (defScope s_along) .none kV_along dc_along pm_along an_along cd_along ct_along), sl_along⟩)
    (c_along : PySem.W.codeIn K cd_along "along" = true)
    (k_along : PySem.W.keepIn K (.ref f_along) = true)
    (a_twos : PySem.W.nsIn K mainGlobals "twos" = some (some (.ref f_twos)))
    (l_twos : K.lookup f_twos = some ⟨oc_twos, od_twos, .func (PySem.W.fnOf "twos" "twos" (defArgs s_twos) (defBody s_twos) (defScope s_twos) .none kV_twos dc_twos pm_twos an_twos cd_twos ct_twos), sl_twos⟩)
    (c_twos : PySem.W.codeIn K cd_twos "twos" = true)
    (k_twos : PySem.W.keepIn K (.ref f_twos) = true)
    (a_are_near : PySem.W.nsIn K mainGlobals "are_near" = some (some (.ref f_are_near)))
    (l_are_near : K.lookup f_are_near = some ⟨oc_are_near, od_are_near, .func (PySem.W.fnOf "are_near" "are_near" (defArgs s_are_near) (defBody s_are_near) (defScope s_are_near) .none kV_are_near dc_are_near pm_are_near an_are_near cd_are_near ct_are_near), sl_are_near⟩)
    (c_are_near : PySem.W.codeIn K cd_are_near "are_near" = true)
    (k_are_near : PySem.W.keepIn K (.ref f_are_near) = true)
    (a_are_sticks : PySem.W.nsIn K mainGlobals "are_sticks" = some (some (.ref f_are_sticks)))
    (l_are_sticks : K.lookup f_are_sticks = some ⟨oc_are_sticks, od_are_sticks, .func (PySem.W.fnOf "are_sticks" "are_sticks" (defArgs s_are_sticks) (defBody s_are_sticks) (defScope s_are_sticks) .none kV_are_sticks dc_are_sticks pm_are_sticks an_are_sticks cd_are_sticks ct_are_sticks), sl_are_sticks⟩)
    (c_are_sticks : PySem.W.codeIn K cd_are_sticks "are_sticks" = true)
    (k_are_sticks : PySem.W.keepIn K (.ref f_are_sticks) = true)
    (a_check_sticks : PySem.W.nsIn K mainGlobals "check_sticks" = some (some (.ref f_check_sticks)))
    (l_check_sticks : K.lookup f_check_sticks = some ⟨oc_check_sticks, od_check_sticks, .func (PySem.W.fnOf "check_sticks" "check_sticks" (defArgs s_check_sticks) (defBody s_check_sticks) (defScope s_check_sticks) .none kV_check_sticks dc_check_sticks pm_check_sticks an_check_sticks cd_check_sticks ct_check_sticks), sl_check_sticks⟩)
    (c_check_sticks : PySem.W.codeIn K cd_check_sticks "check_sticks" = true)
    (k_check_sticks : PySem.W.keepIn K (.ref f_check_sticks) = true)
    (a_check_point : PySem.W.nsIn K mainGlobals "check_point" = some (some (.ref f_check_point)))
    (l_check_point : K.lookup f_check_point = some ⟨oc_check_point, od_check_point, .func (PySem.W.fnOf "check_point" "check_point" (defArgs s_check_point) (defBody s_check_point) (defScope s_check_point) .none kV_check_point dc_check_point pm_check_point an_check_point cd_check_point ct_check_point), sl_check_point⟩)
    (c_check_point : PySem.W.codeIn K cd_check_point "check_point" = true)
    (k_check_point : PySem.W.keepIn K (.ref f_check_point) = true)
    (a_reach : PySem.W.nsIn K mainGlobals "reach" = some (some (.ref f_reach)))
    (l_reach : K.lookup f_reach = some ⟨oc_reach, od_reach, .func (PySem.W.fnOf "reach" "reach" (defArgs s_reach) (defBody s_reach) (defScope s_reach) .none kV_reach dc_reach pm_reach an_reach cd_reach ct_reach), sl_reach⟩)
    (c_reach : PySem.W.codeIn K cd_reach "reach" = true)
    (k_reach : PySem.W.keepIn K (.ref f_reach) = true)
    (a_is_share : PySem.W.nsIn K mainGlobals "is_share" = some (some (.ref f_is_share)))
    (l_is_share : K.lookup f_is_share = some ⟨oc_is_share, od_is_share, .func (PySem.W.fnOf "is_share" "is_share" (defArgs s_is_share) (defBody s_is_share) (defScope s_is_share) .none kV_is_share dc_is_share pm_is_share an_is_share cd_is_share ct_is_share), sl_is_share⟩)
    (c_is_share : PySem.W.codeIn K cd_is_share "is_share" = true)
    (k_is_share : PySem.W.keepIn K (.ref f_is_share) = true)
    (a_are_shares : PySem.W.nsIn K mainGlobals "are_shares" = some (some (.ref f_are_shares)))
    (l_are_shares : K.lookup f_are_shares = some ⟨oc_are_shares, od_are_shares, .func (PySem.W.fnOf "are_shares" "are_shares" (defArgs s_are_shares) (defBody s_are_shares) (defScope s_are_shares) .none kV_are_shares dc_are_shares pm_are_shares an_are_shares cd_are_shares ct_are_shares), sl_are_shares⟩)
    (c_are_shares : PySem.W.codeIn K cd_are_shares "are_shares" = true)
    (k_are_shares : PySem.W.keepIn K (.ref f_are_shares) = true)
    (a_lead_to : PySem.W.nsIn K mainGlobals "lead_to" = some (some (.ref f_lead_to)))
    (l_lead_to : K.lookup f_lead_to = some ⟨oc_lead_to, od_lead_to, .func (PySem.W.fnOf "lead_to" "lead_to" (defArgs s_lead_to) (defBody s_lead_to) (defScope s_lead_to) .none kV_lead_to dc_lead_to pm_lead_to an_lead_to cd_lead_to ct_lead_to), sl_lead_to⟩)
    (c_lead_to : PySem.W.codeIn K cd_lead_to "lead_to" = true)
    (k_lead_to : PySem.W.keepIn K (.ref f_lead_to) = true)
    (a_Shares_init : PySem.W.findIn K (.ref C_Shares) "__init__" = some (some (.ref f_Shares_init)))
    (l_Shares_init : K.lookup f_Shares_init = some ⟨oc_Shares_init, od_Shares_init, .func (PySem.W.fnOf "__init__" "Shares.__init__" (defArgs s_Shares_init) (defBody s_Shares_init) (defScope s_Shares_init) .none kV_Shares_init dc_Shares_init pm_Shares_init an_Shares_init cd_Shares_init ct_Shares_init), sl_Shares_init⟩)
    (c_Shares_init : PySem.W.codeIn K cd_Shares_init "Shares.__init__" = true)
    (k_Shares_init : PySem.W.keepIn K (.ref f_Shares_init) = true)
    (i_Shares_init : PySem.W.isFn K (.ref f_Shares_init) = true)
    (mk_Shares_init : PySem.W.makesIn K C_Shares = true)
    (kc_Shares_init : PySem.W.keepIn K (.ref C_Shares) = true)
    (a_Shares_shows : PySem.W.findIn K (.ref C_Shares) "shows" = some (some (.ref f_Shares_shows)))
    (l_Shares_shows : K.lookup f_Shares_shows = some ⟨oc_Shares_shows, od_Shares_shows, .func (PySem.W.fnOf "shows" "Shares.shows" (defArgs s_Shares_shows) (defBody s_Shares_shows) (defScope s_Shares_shows) .none kV_Shares_shows dc_Shares_shows pm_Shares_shows an_Shares_shows cd_Shares_shows ct_Shares_shows), sl_Shares_shows⟩)
    (c_Shares_shows : PySem.W.codeIn K cd_Shares_shows "Shares.shows" = true)
    (k_Shares_shows : PySem.W.keepIn K (.ref f_Shares_shows) = true)
    (i_Shares_shows : PySem.W.isFn K (.ref f_Shares_shows) = true)
    (a_Apart_init : PySem.W.findIn K (.ref C_Apart) "__init__" = some (some (.ref f_Apart_init)))
    (l_Apart_init : K.lookup f_Apart_init = some ⟨oc_Apart_init, od_Apart_init, .func (PySem.W.fnOf "__init__" "Apart.__init__" (defArgs s_Apart_init) (defBody s_Apart_init) (defScope s_Apart_init) .none kV_Apart_init dc_Apart_init pm_Apart_init an_Apart_init cd_Apart_init ct_Apart_init), sl_Apart_init⟩)
    (c_Apart_init : PySem.W.codeIn K cd_Apart_init "Apart.__init__" = true)
    (k_Apart_init : PySem.W.keepIn K (.ref f_Apart_init) = true)
    (i_Apart_init : PySem.W.isFn K (.ref f_Apart_init) = true)
    (mk_Apart_init : PySem.W.makesIn K C_Apart = true)
    (kc_Apart_init : PySem.W.keepIn K (.ref C_Apart) = true)
    (a_Apart_shows : PySem.W.findIn K (.ref C_Apart) "shows" = some (some (.ref f_Apart_shows)))
    (l_Apart_shows : K.lookup f_Apart_shows = some ⟨oc_Apart_shows, od_Apart_shows, .func (PySem.W.fnOf "shows" "Apart.shows" (defArgs s_Apart_shows) (defBody s_Apart_shows) (defScope s_Apart_shows) .none kV_Apart_shows dc_Apart_shows pm_Apart_shows an_Apart_shows cd_Apart_shows ct_Apart_shows), sl_Apart_shows⟩)
    (c_Apart_shows : PySem.W.codeIn K cd_Apart_shows "Apart.shows" = true)
    (k_Apart_shows : PySem.W.keepIn K (.ref f_Apart_shows) = true)
    (i_Apart_shows : PySem.W.isFn K (.ref f_Apart_shows) = true)
    (a_lowest : PySem.W.nsIn K mainGlobals "lowest" = some (some (.ref f_lowest)))
    (l_lowest : K.lookup f_lowest = some ⟨oc_lowest, od_lowest, .func (PySem.W.fnOf "lowest" "lowest" (defArgs s_lowest) (defBody s_lowest) (defScope s_lowest) .none kV_lowest dc_lowest pm_lowest an_lowest cd_lowest ct_lowest), sl_lowest⟩)
    (c_lowest : PySem.W.codeIn K cd_lowest "lowest" = true)
    (k_lowest : PySem.W.keepIn K (.ref f_lowest) = true)
    (a_shares_of_one : PySem.W.nsIn K mainGlobals "shares_of_one" = some (some (.ref f_shares_of_one)))
    (l_shares_of_one : K.lookup f_shares_of_one = some ⟨oc_shares_of_one, od_shares_of_one, .func (PySem.W.fnOf "shares_of_one" "shares_of_one" (defArgs s_shares_of_one) (defBody s_shares_of_one) (defScope s_shares_of_one) .none kV_shares_of_one dc_shares_of_one pm_shares_of_one an_shares_of_one cd_shares_of_one ct_shares_of_one), sl_shares_of_one⟩)
    (c_shares_of_one : PySem.W.codeIn K cd_shares_of_one "shares_of_one" = true)
    (k_shares_of_one : PySem.W.keepIn K (.ref f_shares_of_one) = true)
    (a_shares_by_two : PySem.W.nsIn K mainGlobals "shares_by_two" = some (some (.ref f_shares_by_two)))
    (l_shares_by_two : K.lookup f_shares_by_two = some ⟨oc_shares_by_two, od_shares_by_two, .func (PySem.W.fnOf "shares_by_two" "shares_by_two" (defArgs s_shares_by_two) (defBody s_shares_by_two) (defScope s_shares_by_two) .none kV_shares_by_two dc_shares_by_two pm_shares_by_two an_shares_by_two cd_shares_by_two ct_shares_by_two), sl_shares_by_two⟩)
    (c_shares_by_two : PySem.W.codeIn K cd_shares_by_two "shares_by_two" = true)
    (k_shares_by_two : PySem.W.keepIn K (.ref f_shares_by_two) = true)
    (a_shares_to : PySem.W.nsIn K mainGlobals "shares_to" = some (some (.ref f_shares_to)))
    (l_shares_to : K.lookup f_shares_to = some ⟨oc_shares_to, od_shares_to, .func (PySem.W.fnOf "shares_to" "shares_to" (defArgs s_shares_to) (defBody s_shares_to) (defScope s_shares_to) .none kV_shares_to dc_shares_to pm_shares_to an_shares_to cd_shares_to ct_shares_to), sl_shares_to⟩)
    (c_shares_to : PySem.W.codeIn K cd_shares_to "shares_to" = true)
    (k_shares_to : PySem.W.keepIn K (.ref f_shares_to) = true)
    (a_lines_of : PySem.W.nsIn K mainGlobals "lines_of" = some (some (.ref f_lines_of)))
    (l_lines_of : K.lookup f_lines_of = some ⟨oc_lines_of, od_lines_of, .func (PySem.W.fnOf "lines_of" "lines_of" (defArgs s_lines_of) (defBody s_lines_of) (defScope s_lines_of) .none kV_lines_of dc_lines_of pm_lines_of an_lines_of cd_lines_of ct_lines_of), sl_lines_of⟩)
    (c_lines_of : PySem.W.codeIn K cd_lines_of "lines_of" = true)
    (k_lines_of : PySem.W.keepIn K (.ref f_lines_of) = true)
    (a_parted : PySem.W.nsIn K mainGlobals "parted" = some (some (.ref f_parted)))
    (l_parted : K.lookup f_parted = some ⟨oc_parted, od_parted, .func (PySem.W.fnOf "parted" "parted" (defArgs s_parted) (defBody s_parted) (defScope s_parted) .none kV_parted dc_parted pm_parted an_parted cd_parted ct_parted), sl_parted⟩)
    (c_parted : PySem.W.codeIn K cd_parted "parted" = true)
    (k_parted : PySem.W.keepIn K (.ref f_parted) = true)
    (a_within : PySem.W.nsIn K mainGlobals "within" = some (some (.ref f_within)))
    (l_within : K.lookup f_within = some ⟨oc_within, od_within, .func (PySem.W.fnOf "within" "within" (defArgs s_within) (defBody s_within) (defScope s_within) .none kV_within dc_within pm_within an_within cd_within ct_within), sl_within⟩)
    (c_within : PySem.W.codeIn K cd_within "within" = true)
    (k_within : PySem.W.keepIn K (.ref f_within) = true)
    (a__law_number : PySem.W.nsIn K mainGlobals "_law_number" = some (some (.ref f__law_number)))
    (l__law_number : K.lookup f__law_number = some ⟨oc__law_number, od__law_number, .func (PySem.W.fnOf "_law_number" "_law_number" (defArgs s__law_number) (defBody s__law_number) (defScope s__law_number) .none kV__law_number dc__law_number pm__law_number an__law_number cd__law_number ct__law_number), sl__law_number⟩)
    (c__law_number : PySem.W.codeIn K cd__law_number "_law_number" = true)
    (k__law_number : PySem.W.keepIn K (.ref f__law_number) = true)
    (a__law_whole : PySem.W.nsIn K mainGlobals "_law_whole" = some (some (.ref f__law_whole)))
    (l__law_whole : K.lookup f__law_whole = some ⟨oc__law_whole, od__law_whole, .func (PySem.W.fnOf "_law_whole" "_law_whole" (defArgs s__law_whole) (defBody s__law_whole) (defScope s__law_whole) .none kV__law_whole dc__law_whole pm__law_whole an__law_whole cd__law_whole ct__law_whole), sl__law_whole⟩)
    (c__law_whole : PySem.W.codeIn K cd__law_whole "_law_whole" = true)
    (k__law_whole : PySem.W.keepIn K (.ref f__law_whole) = true)
    (a__law_span : PySem.W.nsIn K mainGlobals "_law_span" = some (some (.ref f__law_span)))
    (l__law_span : K.lookup f__law_span = some ⟨oc__law_span, od__law_span, .func (PySem.W.fnOf "_law_span" "_law_span" (defArgs s__law_span) (defBody s__law_span) (defScope s__law_span) .none kV__law_span dc__law_span pm__law_span an__law_span cd__law_span ct__law_span), sl__law_span⟩)
    (c__law_span : PySem.W.codeIn K cd__law_span "_law_span" = true)
    (k__law_span : PySem.W.keepIn K (.ref f__law_span) = true)
    (a__law_pair : PySem.W.nsIn K mainGlobals "_law_pair" = some (some (.ref f__law_pair)))
    (l__law_pair : K.lookup f__law_pair = some ⟨oc__law_pair, od__law_pair, .func (PySem.W.fnOf "_law_pair" "_law_pair" (defArgs s__law_pair) (defBody s__law_pair) (defScope s__law_pair) .none kV__law_pair dc__law_pair pm__law_pair an__law_pair cd__law_pair ct__law_pair), sl__law_pair⟩)
    (c__law_pair : PySem.W.codeIn K cd__law_pair "_law_pair" = true)
    (k__law_pair : PySem.W.keepIn K (.ref f__law_pair) = true)
    (a__law_sticks : PySem.W.nsIn K mainGlobals "_law_sticks" = some (some (.ref f__law_sticks)))
    (l__law_sticks : K.lookup f__law_sticks = some ⟨oc__law_sticks, od__law_sticks, .func (PySem.W.fnOf "_law_sticks" "_law_sticks" (defArgs s__law_sticks) (defBody s__law_sticks) (defScope s__law_sticks) .none kV__law_sticks dc__law_sticks pm__law_sticks an__law_sticks cd__law_sticks ct__law_sticks), sl__law_sticks⟩)
    (c__law_sticks : PySem.W.codeIn K cd__law_sticks "_law_sticks" = true)
    (k__law_sticks : PySem.W.keepIn K (.ref f__law_sticks) = true)
    (a__law_sum : PySem.W.nsIn K mainGlobals "_law_sum" = some (some (.ref f__law_sum)))
    (l__law_sum : K.lookup f__law_sum = some ⟨oc__law_sum, od__law_sum, .func (PySem.W.fnOf "_law_sum" "_law_sum" (defArgs s__law_sum) (defBody s__law_sum) (defScope s__law_sum) .none kV__law_sum dc__law_sum pm__law_sum an__law_sum cd__law_sum ct__law_sum), sl__law_sum⟩)
    (c__law_sum : PySem.W.codeIn K cd__law_sum "_law_sum" = true)
    (k__law_sum : PySem.W.keepIn K (.ref f__law_sum) = true)
    (a__law_corners : PySem.W.nsIn K mainGlobals "_law_corners" = some (some (.ref f__law_corners)))
    (l__law_corners : K.lookup f__law_corners = some ⟨oc__law_corners, od__law_corners, .func (PySem.W.fnOf "_law_corners" "_law_corners" (defArgs s__law_corners) (defBody s__law_corners) (defScope s__law_corners) .none kV__law_corners dc__law_corners pm__law_corners an__law_corners cd__law_corners ct__law_corners), sl__law_corners⟩)
    (c__law_corners : PySem.W.codeIn K cd__law_corners "_law_corners" = true)
    (k__law_corners : PySem.W.keepIn K (.ref f__law_corners) = true)
    (a__law_says : PySem.W.nsIn K mainGlobals "_law_says" = some (some (.ref f__law_says)))
    (l__law_says : K.lookup f__law_says = some ⟨oc__law_says, od__law_says, .func (PySem.W.fnOf "_law_says" "_law_says" (defArgs s__law_says) (defBody s__law_says) (defScope s__law_says) .none kV__law_says dc__law_says pm__law_says an__law_says cd__law_says ct__law_says), sl__law_says⟩)
    (c__law_says : PySem.W.codeIn K cd__law_says "_law_says" = true)
    (k__law_says : PySem.W.keepIn K (.ref f__law_says) = true)
    (a__law_share : PySem.W.nsIn K mainGlobals "_law_share" = some (some (.ref f__law_share)))
    (l__law_share : K.lookup f__law_share = some ⟨oc__law_share, od__law_share, .func (PySem.W.fnOf "_law_share" "_law_share" (defArgs s__law_share) (defBody s__law_share) (defScope s__law_share) .none kV__law_share dc__law_share pm__law_share an__law_share cd__law_share ct__law_share), sl__law_share⟩)
    (c__law_share : PySem.W.codeIn K cd__law_share "_law_share" = true)
    (k__law_share : PySem.W.keepIn K (.ref f__law_share) = true)
    (a__law_leads : PySem.W.nsIn K mainGlobals "_law_leads" = some (some (.ref f__law_leads)))
    (l__law_leads : K.lookup f__law_leads = some ⟨oc__law_leads, od__law_leads, .func (PySem.W.fnOf "_law_leads" "_law_leads" (defArgs s__law_leads) (defBody s__law_leads) (defScope s__law_leads) .none kV__law_leads dc__law_leads pm__law_leads an__law_leads cd__law_leads ct__law_leads), sl__law_leads⟩)
    (c__law_leads : PySem.W.codeIn K cd__law_leads "_law_leads" = true)
    (k__law_leads : PySem.W.keepIn K (.ref f__law_leads) = true)
    (a__law_parts : PySem.W.nsIn K mainGlobals "_law_parts" = some (some (.ref f__law_parts)))
    (l__law_parts : K.lookup f__law_parts = some ⟨oc__law_parts, od__law_parts, .func (PySem.W.fnOf "_law_parts" "_law_parts" (defArgs s__law_parts) (defBody s__law_parts) (defScope s__law_parts) .none kV__law_parts dc__law_parts pm__law_parts an__law_parts cd__law_parts ct__law_parts), sl__law_parts⟩)
    (c__law_parts : PySem.W.codeIn K cd__law_parts "_law_parts" = true)
    (k__law_parts : PySem.W.keepIn K (.ref f__law_parts) = true)
    (a__law_shares_right : PySem.W.nsIn K mainGlobals "_law_shares_right" = some (some (.ref f__law_shares_right)))
    (l__law_shares_right : K.lookup f__law_shares_right = some ⟨oc__law_shares_right, od__law_shares_right, .func (PySem.W.fnOf "_law_shares_right" "_law_shares_right" (defArgs s__law_shares_right) (defBody s__law_shares_right) (defScope s__law_shares_right) .none kV__law_shares_right dc__law_shares_right pm__law_shares_right an__law_shares_right cd__law_shares_right ct__law_shares_right), sl__law_shares_right⟩)
    (c__law_shares_right : PySem.W.codeIn K cd__law_shares_right "_law_shares_right" = true)
    (k__law_shares_right : PySem.W.keepIn K (.ref f__law_shares_right) = true)
    (a_law : PySem.W.nsIn K mainGlobals "law" = some (some (.ref f_law)))
    (l_law : K.lookup f_law = some ⟨oc_law, od_law, .func (PySem.W.fnOf "law" "law" (defArgs s_law) (defBody s_law) (defScope s_law) .none kV_law dc_law pm_law an_law cd_law ct_law), sl_law⟩)
    (c_law : PySem.W.codeIn K cd_law "law" = true)
    (k_law : PySem.W.keepIn K (.ref f_law) = true)
    (z_abs : PySem.W.nsIn K mainGlobals "abs" = some none)
    (z_all : PySem.W.nsIn K mainGlobals "all" = some none)
    (z_any : PySem.W.nsIn K mainGlobals "any" = some none)
    (z_bool : PySem.W.nsIn K mainGlobals "bool" = some none)
    (z_int : PySem.W.nsIn K mainGlobals "int" = some none)
    (z_isinstance : PySem.W.nsIn K mainGlobals "isinstance" = some none)
    (z_len : PySem.W.nsIn K mainGlobals "len" = some none)
    (z_list : PySem.W.nsIn K mainGlobals "list" = some none)
    (z_max : PySem.W.nsIn K mainGlobals "max" = some none)
    (z_range : PySem.W.nsIn K mainGlobals "range" = some none)
    (z_sum : PySem.W.nsIn K mainGlobals "sum" = some none)
    (z_tuple : PySem.W.nsIn K mainGlobals "tuple" = some none)
    (z_zip : PySem.W.nsIn K mainGlobals "zip" = some none)
    (y_FARTHEST : PySem.W.nsIn K mainGlobals "FARTHEST" = some (some (.int 20 t_FARTHEST)))
    (y_MOST_STICKS : PySem.W.nsIn K mainGlobals "MOST_STICKS" = some (some (.int 6 t_MOST_STICKS)))
    (y_ALL_OF_IT : PySem.W.nsIn K mainGlobals "ALL_OF_IT" = some (some (.ref ta_ALL_OF_IT)))
    (yl_ALL_OF_IT : K.lookup ta_ALL_OF_IT = some ⟨.type "tuple", od_ALL_OF_IT, .seq its_ALL_OF_IT n_ALL_OF_IT, sl_ALL_OF_IT⟩)
    (yz_ALL_OF_IT : its_ALL_OF_IT.size ≤ sizeLine)
    (yv_ALL_OF_IT : Vals (([1, 1] : List Int).map V.int) its_ALL_OF_IT.toList)
    (y_NONE_OF_IT : PySem.W.nsIn K mainGlobals "NONE_OF_IT" = some (some (.ref ta_NONE_OF_IT)))
    (yl_NONE_OF_IT : K.lookup ta_NONE_OF_IT = some ⟨.type "tuple", od_NONE_OF_IT, .seq its_NONE_OF_IT n_NONE_OF_IT, sl_NONE_OF_IT⟩)
    (yz_NONE_OF_IT : its_NONE_OF_IT.size ≤ sizeLine)
    (yv_NONE_OF_IT : Vals (([0, 1] : List Int).map V.int) its_NONE_OF_IT.toList) :
    ∃ fd : FuncData, (∀ (s : Shared) (v : Value), BindsTo s fd ⟨[v], []⟩ [("_law_script", v)]) ∧ ∀ base : Heap, K.In base → base.Ns mainGlobals mg → FnOk l.prog w K mg base CX0 8 fa fd ["_law_script"] (spLaw K) := by
  have e := hfa.symm.trans (PySem.W.mg_of X G a_law)
  cases e
  have T : Txt K mg C_Shares C_Apart := ⟨PySem.W.mg_none_of X G z_abs, PySem.W.mg_none_of X G z_all, PySem.W.mg_none_of X G z_any, PySem.W.mg_none_of X G z_bool, PySem.W.mg_none_of X G z_int, PySem.W.mg_none_of X G z_isinstance, PySem.W.mg_none_of X G z_len, PySem.W.mg_none_of X G z_list, PySem.W.mg_none_of X G z_max, PySem.W.mg_none_of X G z_range, PySem.W.mg_none_of X G z_sum, PySem.W.mg_none_of X G z_tuple, PySem.W.mg_none_of X G z_zip, ⟨_, PySem.W.mg_of X G y_FARTHEST⟩, ⟨_, PySem.W.mg_of X G y_MOST_STICKS⟩, ⟨_, _, _, _, PySem.W.mg_of X G y_ALL_OF_IT, yl_ALL_OF_IT, rfl, rfl, yz_ALL_OF_IT, yv_ALL_OF_IT⟩, ⟨_, _, _, _, PySem.W.mg_of X G y_NONE_OF_IT, yl_NONE_OF_IT, rfl, rfl, yz_NONE_OF_IT, yv_NONE_OF_IT⟩, PySem.W.mg_of X G a_Shares, ⟨q0_Shares, q1_Shares, q2_Shares, q3_Shares⟩, ⟨q4_Shares, q1_Shares, q5_Shares, qn, qt, q6_Shares⟩, PySem.W.mg_of X G a_Apart, ⟨q0_Apart, q1_Apart, q2_Apart, q3_Apart⟩, ⟨q4_Apart, q1_Apart, q5_Apart, qn, qt, q6_Apart⟩, n_Apart_line, n_Shares_shares, ki_Apart_Shares, ki_Shares_Shares⟩
  refine ⟨PySem.W.fnOf "law" "law" (defArgs s_law) (defBody s_law) (defScope s_law) .none kV_law dc_law pm_law an_law cd_law ct_law, fun s v => .of_eq rfl, fun base kb nb => ?_⟩
  have F_is_number : FunG K mg "is_number" s_is_number ["value"] := fung_mk X G a_is_number l_is_number c_is_number k_is_number fun _ _ _ _ _ _ us hl => match us, hl with | [_], _ => rfl
  obtain ⟨g_is_number, C_is_number, H_is_number⟩ := ok_is_number (P := l.prog) (w := w) (base := base) T F_is_number
  have F_is_point : FunG K mg "is_point" s_is_point ["value"] := fung_mk X G a_is_point l_is_point c_is_point k_is_point fun _ _ _ _ _ _ us hl => match us, hl with | [_], _ => rfl
  obtain ⟨g_is_point, C_is_point, H_is_point⟩ := ok_is_point (P := l.prog) (w := w) (base := base) T F_is_point C_is_number H_is_number
  have F_is_near : FunG K mg "is_near" s_is_near ["value"] := fung_mk X G a_is_near l_is_near c_is_near k_is_near fun _ _ _ _ _ _ us hl => match us, hl with | [_], _ => rfl
  obtain ⟨g_is_near, C_is_near, H_is_near⟩ := ok_is_near (P := l.prog) (w := w) (base := base) T F_is_near C_is_point H_is_point
  have F_greatest_into : FunG K mg "greatest_into" s_greatest_into ["one", "other"] := fung_mk X G a_greatest_into l_greatest_into c_greatest_into k_greatest_into fun _ _ _ _ _ _ us hl => match us, hl with | [_, _], _ => rfl
  obtain ⟨g_greatest_into, C_greatest_into, H_greatest_into⟩ := ok_greatest_into (P := l.prog) (w := w) (base := base) T F_greatest_into
  have F_span : FunG K mg "span" s_span ["one", "other"] := fung_mk X G a_span l_span c_span k_span fun _ _ _ _ _ _ us hl => match us, hl with | [_, _], _ => rfl
  obtain ⟨g_span, C_span, H_span⟩ := ok_span (P := l.prog) (w := w) (base := base) T F_span
  have F_stands : FunG K mg "stands" s_stands ["stick"] := fung_mk X G a_stands l_stands c_stands k_stands fun _ _ _ _ _ _ us hl => match us, hl with | [_], _ => rfl
  obtain ⟨g_stands, C_stands, H_stands⟩ := ok_stands (P := l.prog) (w := w) (base := base) T F_stands
  have F_put_together : FunG K mg "put_together" s_put_together ["one", "other"] := fung_mk X G a_put_together l_put_together c_put_together k_put_together fun _ _ _ _ _ _ us hl => match us, hl with | [_, _], _ => rfl
  obtain ⟨g_put_together, C_put_together, H_put_together⟩ := ok_put_together (P := l.prog) (w := w) (base := base) T F_put_together
  have F_taken_back : FunG K mg "taken_back" s_taken_back ["one", "other"] := fung_mk X G a_taken_back l_taken_back c_taken_back k_taken_back fun _ _ _ _ _ _ us hl => match us, hl with | [_, _], _ => rfl
  obtain ⟨g_taken_back, C_taken_back, H_taken_back⟩ := ok_taken_back (P := l.prog) (w := w) (base := base) T F_taken_back
  have F_longer : FunG K mg "longer" s_longer ["stick", "times"] := fung_mk X G a_longer l_longer c_longer k_longer fun _ _ _ _ _ _ us hl => match us, hl with | [_, _], _ => rfl
  obtain ⟨g_longer, C_longer, H_longer⟩ := ok_longer (P := l.prog) (w := w) (base := base) T F_longer
  have F_all_together : FunG K mg "all_together" s_all_together ["sticks"] := fung_mk X G a_all_together l_all_together c_all_together k_all_together fun _ _ _ _ _ _ us hl => match us, hl with | [_], _ => rfl
  obtain ⟨g_all_together, C_all_together, H_all_together⟩ := ok_all_together (P := l.prog) (w := w) (base := base) T F_all_together C_put_together H_put_together
  have F_along : FunG K mg "along" s_along ["line", "point"] := fung_mk X G a_along l_along c_along k_along fun _ _ _ _ _ _ us hl => match us, hl with | [_, _], _ => rfl
  obtain ⟨g_along, C_along, H_along⟩ := ok_along (P := l.prog) (w := w) (base := base) T F_along
  have F_twos : FunG K mg "twos" s_twos ["many"] := fung_mk X G a_twos l_twos c_twos k_twos fun _ _ _ _ _ _ us hl => match us, hl with | [_], _ => rfl
  obtain ⟨g_twos, C_twos, H_twos⟩ := ok_twos (P := l.prog) (w := w) (base := base) T F_twos
  have F_are_near : FunG K mg "are_near" s_are_near ["value"] := fung_mk X G a_are_near l_are_near c_are_near k_are_near fun _ _ _ _ _ _ us hl => match us, hl with | [_], _ => rfl
  obtain ⟨g_are_near, C_are_near, H_are_near⟩ := ok_are_near (P := l.prog) (w := w) (base := base) T F_are_near C_is_near H_is_near
  have F_are_sticks : FunG K mg "are_sticks" s_are_sticks ["value"] := fung_mk X G a_are_sticks l_are_sticks c_are_sticks k_are_sticks fun _ _ _ _ _ _ us hl => match us, hl with | [_], _ => rfl
  obtain ⟨g_are_sticks, C_are_sticks, H_are_sticks⟩ := ok_are_sticks (P := l.prog) (w := w) (base := base) T F_are_sticks C_span H_span C_stands H_stands C_are_near H_are_near
  have F_check_sticks : FunG K mg "check_sticks" s_check_sticks ["value"] := fung_mk X G a_check_sticks l_check_sticks c_check_sticks k_check_sticks fun _ _ _ _ _ _ us hl => match us, hl with | [_], _ => rfl
  obtain ⟨g_check_sticks, C_check_sticks, H_check_sticks⟩ := ok_check_sticks (P := l.prog) (w := w) (base := base) T F_check_sticks C_are_sticks H_are_sticks
  have F_check_point : FunG K mg "check_point" s_check_point ["value"] := fung_mk X G a_check_point l_check_point c_check_point k_check_point fun _ _ _ _ _ _ us hl => match us, hl with | [_], _ => rfl
  obtain ⟨g_check_point, C_check_point, H_check_point⟩ := ok_check_point (P := l.prog) (w := w) (base := base) T F_check_point C_is_point H_is_point
  have F_reach : FunG K mg "reach" s_reach ["sticks", "line"] := fung_mk X G a_reach l_reach c_reach k_reach fun _ _ _ _ _ _ us hl => match us, hl with | [_, _], _ => rfl
  obtain ⟨g_reach, C_reach, H_reach⟩ := ok_reach (P := l.prog) (w := w) (base := base) T F_reach C_along H_along
  have F_is_share : FunG K mg "is_share" s_is_share ["value"] := fung_mk X G a_is_share l_is_share c_is_share k_is_share fun _ _ _ _ _ _ us hl => match us, hl with | [_], _ => rfl
  obtain ⟨g_is_share, C_is_share, H_is_share⟩ := ok_is_share (P := l.prog) (w := w) (base := base) T F_is_share C_greatest_into H_greatest_into C_is_point H_is_point
  have F_are_shares : FunG K mg "are_shares" s_are_shares ["many", "value"] := fung_mk X G a_are_shares l_are_shares c_are_shares k_are_shares fun _ _ _ _ _ _ us hl => match us, hl with | [_, _], _ => rfl
  obtain ⟨g_are_shares, C_are_shares, H_are_shares⟩ := ok_are_shares (P := l.prog) (w := w) (base := base) T F_are_shares C_is_share H_is_share
  have F_lead_to : FunG K mg "lead_to" s_lead_to ["sticks", "shares", "point"] := fung_mk X G a_lead_to l_lead_to c_lead_to k_lead_to fun _ _ _ _ _ _ us hl => match us, hl with | [_, _, _], _ => rfl
  obtain ⟨g_lead_to, C_lead_to, H_lead_to⟩ := ok_lead_to (P := l.prog) (w := w) (base := base) T F_lead_to C_longer H_longer C_put_together H_put_together
  have F_Shares_init : FunI K C_Shares "Shares.__init__" s_Shares_init ["self", "shares"] := ⟨_, _, fun_mk (st := s_Shares_init) l_Shares_init c_Shares_init k_Shares_init, ⟨mk_Shares_init, a_Shares_init, i_Shares_init, kc_Shares_init⟩, (fun_mk (st := s_Shares_init) l_Shares_init c_Shares_init k_Shares_init).binds fun _ _ _ _ _ _ us hl => match us, hl with | [_, _], _ => rfl⟩
  obtain ⟨g_Shares_init, C_Shares_init, H_Shares_init⟩ := ok_Shares_init (P := l.prog) (w := w) (base := base) T F_Shares_init
  have F_Shares_shows : FunM K C_Shares "shows" "Shares.shows" s_Shares_shows ["self", "sticks", "point"] := ⟨_, _, fun_mk (st := s_Shares_shows) l_Shares_shows c_Shares_shows k_Shares_shows, ⟨a_Shares_shows, i_Shares_shows, k_Shares_shows⟩, (fun_mk (st := s_Shares_shows) l_Shares_shows c_Shares_shows k_Shares_shows).binds fun _ _ _ _ _ _ us hl => match us, hl with | [_, _, _], _ => rfl⟩
  obtain ⟨g_Shares_shows, C_Shares_shows, H_Shares_shows⟩ := ok_Shares_shows (P := l.prog) (w := w) (base := base) T F_Shares_shows C_lead_to H_lead_to C_are_shares H_are_shares
  have F_Apart_init : FunI K C_Apart "Apart.__init__" s_Apart_init ["self", "line"] := ⟨_, _, fun_mk (st := s_Apart_init) l_Apart_init c_Apart_init k_Apart_init, ⟨mk_Apart_init, a_Apart_init, i_Apart_init, kc_Apart_init⟩, (fun_mk (st := s_Apart_init) l_Apart_init c_Apart_init k_Apart_init).binds fun _ _ _ _ _ _ us hl => match us, hl with | [_, _], _ => rfl⟩
  obtain ⟨g_Apart_init, C_Apart_init, H_Apart_init⟩ := ok_Apart_init (P := l.prog) (w := w) (base := base) T F_Apart_init
  have F_Apart_shows : FunM K C_Apart "shows" "Apart.shows" s_Apart_shows ["self", "sticks", "point"] := ⟨_, _, fun_mk (st := s_Apart_shows) l_Apart_shows c_Apart_shows k_Apart_shows, ⟨a_Apart_shows, i_Apart_shows, k_Apart_shows⟩, (fun_mk (st := s_Apart_shows) l_Apart_shows c_Apart_shows k_Apart_shows).binds fun _ _ _ _ _ _ us hl => match us, hl with | [_, _, _], _ => rfl⟩
  obtain ⟨g_Apart_shows, C_Apart_shows, H_Apart_shows⟩ := ok_Apart_shows (P := l.prog) (w := w) (base := base) T F_Apart_shows C_along H_along C_reach H_reach C_is_point H_is_point
  have F_lowest : FunG K mg "lowest" s_lowest ["top", "bottom"] := fung_mk X G a_lowest l_lowest c_lowest k_lowest fun _ _ _ _ _ _ us hl => match us, hl with | [_, _], _ => rfl
  obtain ⟨g_lowest, C_lowest, H_lowest⟩ := ok_lowest (P := l.prog) (w := w) (base := base) T F_lowest C_greatest_into H_greatest_into
  have F_shares_of_one : FunG K mg "shares_of_one" s_shares_of_one ["stick", "point"] := fung_mk X G a_shares_of_one l_shares_of_one c_shares_of_one k_shares_of_one fun _ _ _ _ _ _ us hl => match us, hl with | [_, _], _ => rfl
  obtain ⟨g_shares_of_one, C_shares_of_one, H_shares_of_one⟩ := ok_shares_of_one (P := l.prog) (w := w) (base := base) T F_shares_of_one C_lowest H_lowest C_span H_span C_along H_along
  have F_shares_by_two : FunG K mg "shares_by_two" s_shares_by_two ["sticks", "i", "j", "point"] := fung_mk X G a_shares_by_two l_shares_by_two c_shares_by_two k_shares_by_two fun _ _ _ _ _ _ us hl => match us, hl with | [_, _, _, _], _ => rfl
  obtain ⟨g_shares_by_two, C_shares_by_two, H_shares_by_two⟩ := ok_shares_by_two (P := l.prog) (w := w) (base := base) T F_shares_by_two C_lowest H_lowest C_span H_span C_taken_back H_taken_back C_all_together H_all_together
  have F_shares_to : FunG K mg "shares_to" s_shares_to ["sticks", "point"] := fung_mk X G a_shares_to l_shares_to c_shares_to k_shares_to fun _ _ _ _ _ _ us hl => match us, hl with | [_, _], _ => rfl
  obtain ⟨g_shares_to, C_shares_to, H_shares_to⟩ := ok_shares_to (P := l.prog) (w := w) (base := base) T F_shares_to C_twos H_twos C_shares_by_two H_shares_by_two C_shares_of_one H_shares_of_one
  have F_lines_of : FunG K mg "lines_of" s_lines_of ["sticks"] := fung_mk X G a_lines_of l_lines_of c_lines_of k_lines_of fun _ _ _ _ _ _ us hl => match us, hl with | [_], _ => rfl
  obtain ⟨g_lines_of, C_lines_of, H_lines_of⟩ := ok_lines_of (P := l.prog) (w := w) (base := base) T F_lines_of
  have F_parted : FunG K mg "parted" s_parted ["sticks", "point"] := fung_mk X G a_parted l_parted c_parted k_parted fun _ _ _ _ _ _ us hl => match us, hl with | [_, _], _ => rfl
  obtain ⟨g_parted, C_parted, H_parted⟩ := ok_parted (P := l.prog) (w := w) (base := base) T F_parted C_Apart_shows H_Apart_shows C_lines_of H_lines_of C_Apart_init H_Apart_init
  have F_within : FunG K mg "within" s_within ["sticks", "point"] := fung_mk X G a_within l_within c_within k_within fun _ _ _ _ _ _ us hl => match us, hl with | [_, _], _ => rfl
  obtain ⟨g_within, C_within, H_within⟩ := ok_within (P := l.prog) (w := w) (base := base) T F_within C_Shares_init H_Shares_init C_parted H_parted C_shares_to H_shares_to C_check_point H_check_point C_check_sticks H_check_sticks
  have F__law_number : FunG K mg "_law_number" s__law_number ["_law_cell", "_law_at", "_law_whole_here"] := fung_mk X G a__law_number l__law_number c__law_number k__law_number fun _ _ _ _ _ _ us hl => match us, hl with | [_, _, _], _ => rfl
  obtain ⟨g__law_number, C__law_number, H__law_number⟩ := ok__law_number (P := l.prog) (w := w) (base := base) T F__law_number
  have F__law_whole : FunG K mg "_law_whole" s__law_whole ["_law_found"] := fung_mk X G a__law_whole l__law_whole c__law_whole k__law_whole fun _ _ _ _ _ _ us hl => match us, hl with | [_], _ => rfl
  obtain ⟨g__law_whole, C__law_whole, H__law_whole⟩ := ok__law_whole (P := l.prog) (w := w) (base := base) T F__law_whole
  have F__law_span : FunG K mg "_law_span" s__law_span ["_law_one", "_law_other"] := fung_mk X G a__law_span l__law_span c__law_span k__law_span fun _ _ _ _ _ _ us hl => match us, hl with | [_, _], _ => rfl
  obtain ⟨g__law_span, C__law_span, H__law_span⟩ := ok__law_span (P := l.prog) (w := w) (base := base) T F__law_span
  have F__law_pair : FunG K mg "_law_pair" s__law_pair ["_law_number_here", "_law_far"] := fung_mk X G a__law_pair l__law_pair c__law_pair k__law_pair fun _ _ _ _ _ _ us hl => match us, hl with | [_, _], _ => rfl
  obtain ⟨g__law_pair, C__law_pair, H__law_pair⟩ := ok__law_pair (P := l.prog) (w := w) (base := base) T F__law_pair
  have F__law_sticks : FunG K mg "_law_sticks" s__law_sticks ["_law_script", "_law_by", "_law_most", "_law_far"] := fung_mk X G a__law_sticks l__law_sticks c__law_sticks k__law_sticks fun _ _ _ _ _ _ us hl => match us, hl with | [_, _, _, _], _ => rfl
  obtain ⟨g__law_sticks, C__law_sticks, H__law_sticks⟩ := ok__law_sticks (P := l.prog) (w := w) (base := base) T F__law_sticks C__law_span H__law_span C__law_pair H__law_pair C__law_number H__law_number
  have F__law_sum : FunG K mg "_law_sum" s__law_sum ["_law_points"] := fung_mk X G a__law_sum l__law_sum c__law_sum k__law_sum fun _ _ _ _ _ _ us hl => match us, hl with | [_], _ => rfl
  obtain ⟨g__law_sum, C__law_sum, H__law_sum⟩ := ok__law_sum (P := l.prog) (w := w) (base := base) T F__law_sum
  have F__law_corners : FunG K mg "_law_corners" s__law_corners ["_law_sticks_here"] := fung_mk X G a__law_corners l__law_corners c__law_corners k__law_corners fun _ _ _ _ _ _ us hl => match us, hl with | [_], _ => rfl
  obtain ⟨g__law_corners, C__law_corners, H__law_corners⟩ := ok__law_corners (P := l.prog) (w := w) (base := base) T F__law_corners
  have F__law_says : FunG K mg "_law_says" s__law_says ["_law_said", "_law_due"] := fung_mk X G a__law_says l__law_says c__law_says k__law_says fun _ _ _ _ _ _ us hl => match us, hl with | [_, _], _ => rfl
  obtain ⟨g__law_says, C__law_says, H__law_says⟩ := ok__law_says (P := l.prog) (w := w) (base := base) T F__law_says
  have F__law_share : FunG K mg "_law_share" s__law_share ["_law_share_here"] := fung_mk X G a__law_share l__law_share c__law_share k__law_share fun _ _ _ _ _ _ us hl => match us, hl with | [_], _ => rfl
  obtain ⟨g__law_share, C__law_share, H__law_share⟩ := ok__law_share (P := l.prog) (w := w) (base := base) T F__law_share C__law_whole H__law_whole
  have F__law_leads : FunG K mg "_law_leads" s__law_leads ["_law_sticks_here", "_law_shares", "_law_point"] := fung_mk X G a__law_leads l__law_leads c__law_leads k__law_leads fun _ _ _ _ _ _ us hl => match us, hl with | [_, _, _], _ => rfl
  obtain ⟨g__law_leads, C__law_leads, H__law_leads⟩ := ok__law_leads (P := l.prog) (w := w) (base := base) T F__law_leads C__law_share H__law_share
  have F__law_parts : FunG K mg "_law_parts" s__law_parts ["_law_sticks_here", "_law_line", "_law_point"] := fung_mk X G a__law_parts l__law_parts c__law_parts k__law_parts fun _ _ _ _ _ _ us hl => match us, hl with | [_, _, _], _ => rfl
  obtain ⟨g__law_parts, C__law_parts, H__law_parts⟩ := ok__law_parts (P := l.prog) (w := w) (base := base) T F__law_parts C__law_corners H__law_corners
  have F__law_shares_right : FunG K mg "_law_shares_right" s__law_shares_right ["_law_sticks_here", "_law_point", "_law_shares"] := fung_mk X G a__law_shares_right l__law_shares_right c__law_shares_right k__law_shares_right fun _ _ _ _ _ _ us hl => match us, hl with | [_, _, _], _ => rfl
  obtain ⟨g__law_shares_right, C__law_shares_right, H__law_shares_right⟩ := ok__law_shares_right (P := l.prog) (w := w) (base := base) T F__law_shares_right C__law_says H__law_says C_Shares_shows H_Shares_shows C__law_leads H__law_leads C_Shares_init H_Shares_init
  obtain ⟨g, Fl, Hl⟩ := ok_law (P := l.prog) (w := w) (base := base) T (fun_mk (st := s_law) l_law c_law k_law) C_Apart_shows H_Apart_shows C_Apart_init H_Apart_init C_Shares_shows H_Shares_shows C_Shares_init H_Shares_init C__law_says H__law_says C__law_parts H__law_parts C__law_shares_right H__law_shares_right C_within H_within C__law_sum H__law_sum C__law_sticks H__law_sticks
  exact law_of Fl Hl
end k06
open PySem PySem.W PyProof.Rows
set_option maxRecDepth 100000 in
set_option maxHeartbeats 0 in
theorem PySem.Challenge.cw_stickbodies_k06_points_by_hand_holds : PySem.Challenge.rw_stickbodies_k06_points_by_hand.Holds := by
  w_on; o_law; k_head; (case hw => w_witness2)
  k_fill
  refine MD.walk_ofB (l := PySem.Challenge.rw_stickbodies_k06_points_by_hand) (k := 8) (x := "_law_script") rfl rfl ⟨rfl, by decide, by decide⟩ (fun w h Y => PySem.W.kIn_of Y) ?F
  case F =>
    intro w mg fa h KX G hmg
    refine' k06.all_mk KX G hmg ?a_Shares ?q0_Shares ?q1_Shares ?q2_Shares ?q3_Shares ?q4_Shares ?q5_Shares ?q6_Shares ?a_Apart ?q0_Apart ?q1_Apart ?q2_Apart ?q3_Apart ?q4_Apart ?q5_Apart ?q6_Apart ?qn ?qt ?n_Apart_line ?n_Shares_shares ?ki_Apart_Shares ?ki_Shares_Shares ?a_is_number ?l_is_number ?c_is_number ?k_is_number ?a_is_point ?l_is_point ?c_is_point ?k_is_point ?a_is_near ?l_is_near ?c_is_near ?k_is_near ?a_greatest_into ?l_greatest_into ?c_greatest_into ?k_greatest_into ?a_span ?l_span ?c_span ?k_span ?a_stands ?l_stands ?c_stands ?k_stands ?a_put_together ?l_put_together ?c_put_together ?k_put_together ?a_taken_back ?l_taken_back ?c_taken_back ?k_taken_back ?a_longer ?l_longer ?c_longer ?k_longer ?a_all_together ?l_all_together ?c_all_together ?k_all_together ?a_along ?l_along ?c_along ?k_along ?a_twos ?l_twos ?c_twos ?k_twos ?a_are_near ?l_are_near ?c_are_near ?k_are_near ?a_are_sticks ?l_are_sticks ?c_are_sticks ?k_are_sticks ?a_check_sticks ?l_check_sticks ?c_check_sticks ?k_check_sticks ?a_check_point ?l_check_point ?c_check_point ?k_check_point ?a_reach ?l_reach ?c_reach ?k_reach ?a_is_share ?l_is_share ?c_is_share ?k_is_share ?a_are_shares ?l_are_shares ?c_are_shares ?k_are_shares ?a_lead_to ?l_lead_to ?c_lead_to ?k_lead_to ?a_Shares_init ?l_Shares_init ?c_Shares_init ?k_Shares_init ?i_Shares_init ?mk_Shares_init ?kc_Shares_init ?a_Shares_shows ?l_Shares_shows ?c_Shares_shows ?k_Shares_shows ?i_Shares_shows ?a_Apart_init ?l_Apart_init ?c_Apart_init ?k_Apart_init ?i_Apart_init ?mk_Apart_init ?kc_Apart_init ?a_Apart_shows ?l_Apart_shows ?c_Apart_shows ?k_Apart_shows ?i_Apart_shows ?a_lowest ?l_lowest ?c_lowest ?k_lowest ?a_shares_of_one ?l_shares_of_one ?c_shares_of_one ?k_shares_of_one ?a_shares_by_two ?l_shares_by_two ?c_shares_by_two ?k_shares_by_two ?a_shares_to ?l_shares_to ?c_shares_to ?k_shares_to ?a_lines_of ?l_lines_of ?c_lines_of ?k_lines_of ?a_parted ?l_parted ?c_parted ?k_parted ?a_within ?l_within ?c_within ?k_within ?a__law_number ?l__law_number ?c__law_number ?k__law_number ?a__law_whole ?l__law_whole ?c__law_whole ?k__law_whole ?a__law_span ?l__law_span ?c__law_span ?k__law_span ?a__law_pair ?l__law_pair ?c__law_pair ?k__law_pair ?a__law_sticks ?l__law_sticks ?c__law_sticks ?k__law_sticks ?a__law_sum ?l__law_sum ?c__law_sum ?k__law_sum ?a__law_corners ?l__law_corners ?c__law_corners ?k__law_corners ?a__law_says ?l__law_says ?c__law_says ?k__law_says ?a__law_share ?l__law_share ?c__law_share ?k__law_share ?a__law_leads ?l__law_leads ?c__law_leads ?k__law_leads ?a__law_parts ?l__law_parts ?c__law_parts ?k__law_parts ?a__law_shares_right ?l__law_shares_right ?c__law_shares_right ?k__law_shares_right ?a_law ?l_law ?c_law ?k_law ?z_abs ?z_all ?z_any ?z_bool ?z_int ?z_isinstance ?z_len ?z_list ?z_max ?z_range ?z_sum ?z_tuple ?z_zip ?y_FARTHEST ?y_MOST_STICKS ?y_ALL_OF_IT ?yl_ALL_OF_IT ?yz_ALL_OF_IT ?yv_ALL_OF_IT ?y_NONE_OF_IT ?yl_NONE_OF_IT ?yz_NONE_OF_IT ?yv_NONE_OF_IT
    (case a_Shares => k_is); (case q0_Shares => k_is); (case q1_Shares => k_is); (case q2_Shares => k_is); (case q3_Shares => k_is); (case q4_Shares => k_is)
    (case q5_Shares => k_is); (case q6_Shares => k_is); (case a_Apart => k_is); (case q0_Apart => k_is); (case q1_Apart => k_is); (case q2_Apart => k_is)
    (case q3_Apart => k_is); (case q4_Apart => k_is); (case q5_Apart => k_is); (case q6_Apart => k_is); (case qn => k_is); (case qt => k_is)
    (case n_Apart_line => k_is); (case n_Shares_shares => k_is); (case ki_Apart_Shares => kit_is); (case ki_Shares_Shares => kit_is); (case a_is_number => k_is); (case l_is_number => k_is)
    (case c_is_number => k_is); (case k_is_number => k_is); (case a_is_point => k_is); (case l_is_point => k_is); (case c_is_point => k_is); (case k_is_point => k_is)
    (case a_is_near => k_is); (case l_is_near => k_is); (case c_is_near => k_is); (case k_is_near => k_is); (case a_greatest_into => k_is); (case l_greatest_into => k_is)
    (case c_greatest_into => k_is); (case k_greatest_into => k_is); (case a_span => k_is); (case l_span => k_is); (case c_span => k_is); (case k_span => k_is)
    (case a_stands => k_is); (case l_stands => k_is); (case c_stands => k_is); (case k_stands => k_is); (case a_put_together => k_is); (case l_put_together => k_is)
    (case c_put_together => k_is); (case k_put_together => k_is); (case a_taken_back => k_is); (case l_taken_back => k_is); (case c_taken_back => k_is); (case k_taken_back => k_is)
    (case a_longer => k_is); (case l_longer => k_is); (case c_longer => k_is); (case k_longer => k_is); (case a_all_together => k_is); (case l_all_together => k_is)
    (case c_all_together => k_is); (case k_all_together => k_is); (case a_along => k_is); (case l_along => k_is); (case c_along => k_is); (case k_along => k_is)
    (case a_twos => k_is); (case l_twos => k_is); (case c_twos => k_is); (case k_twos => k_is); (case a_are_near => k_is); (case l_are_near => k_is)
    (case c_are_near => k_is); (case k_are_near => k_is); (case a_are_sticks => k_is); (case l_are_sticks => k_is); (case c_are_sticks => k_is); (case k_are_sticks => k_is)
    (case a_check_sticks => k_is); (case l_check_sticks => k_is); (case c_check_sticks => k_is); (case k_check_sticks => k_is); (case a_check_point => k_is); (case l_check_point => k_is)
    (case c_check_point => k_is); (case k_check_point => k_is); (case a_reach => k_is); (case l_reach => k_is); (case c_reach => k_is); (case k_reach => k_is)
    (case a_is_share => k_is); (case l_is_share => k_is); (case c_is_share => k_is); (case k_is_share => k_is); (case a_are_shares => k_is); (case l_are_shares => k_is)
    (case c_are_shares => k_is); (case k_are_shares => k_is); (case a_lead_to => k_is); (case l_lead_to => k_is); (case c_lead_to => k_is); (case k_lead_to => k_is)
    (case a_Shares_init => k_is); (case l_Shares_init => k_is); (case c_Shares_init => k_is); (case k_Shares_init => k_is); (case i_Shares_init => k_is); (case mk_Shares_init => k_is)
    (case kc_Shares_init => k_is); (case a_Shares_shows => k_is); (case l_Shares_shows => k_is); (case c_Shares_shows => k_is); (case k_Shares_shows => k_is); (case i_Shares_shows => k_is)
    (case a_Apart_init => k_is); (case l_Apart_init => k_is); (case c_Apart_init => k_is); (case k_Apart_init => k_is); (case i_Apart_init => k_is); (case mk_Apart_init => k_is)
    (case kc_Apart_init => k_is); (case a_Apart_shows => k_is); (case l_Apart_shows => k_is); (case c_Apart_shows => k_is); (case k_Apart_shows => k_is); (case i_Apart_shows => k_is)
    (case a_lowest => k_is); (case l_lowest => k_is); (case c_lowest => k_is); (case k_lowest => k_is); (case a_shares_of_one => k_is); (case l_shares_of_one => k_is)
    (case c_shares_of_one => k_is); (case k_shares_of_one => k_is); (case a_shares_by_two => k_is); (case l_shares_by_two => k_is); (case c_shares_by_two => k_is); (case k_shares_by_two => k_is)
    (case a_shares_to => k_is); (case l_shares_to => k_is); (case c_shares_to => k_is); (case k_shares_to => k_is); (case a_lines_of => k_is); (case l_lines_of => k_is)
    (case c_lines_of => k_is); (case k_lines_of => k_is); (case a_parted => k_is); (case l_parted => k_is); (case c_parted => k_is); (case k_parted => k_is)
    (case a_within => k_is); (case l_within => k_is); (case c_within => k_is); (case k_within => k_is); (case a__law_number => k_is); (case l__law_number => k_is)
    (case c__law_number => k_is); (case k__law_number => k_is); (case a__law_whole => k_is); (case l__law_whole => k_is); (case c__law_whole => k_is); (case k__law_whole => k_is)
    (case a__law_span => k_is); (case l__law_span => k_is); (case c__law_span => k_is); (case k__law_span => k_is); (case a__law_pair => k_is); (case l__law_pair => k_is)
    (case c__law_pair => k_is); (case k__law_pair => k_is); (case a__law_sticks => k_is); (case l__law_sticks => k_is); (case c__law_sticks => k_is); (case k__law_sticks => k_is)
    (case a__law_sum => k_is); (case l__law_sum => k_is); (case c__law_sum => k_is); (case k__law_sum => k_is); (case a__law_corners => k_is); (case l__law_corners => k_is)
    (case c__law_corners => k_is); (case k__law_corners => k_is); (case a__law_says => k_is); (case l__law_says => k_is); (case c__law_says => k_is); (case k__law_says => k_is)
    (case a__law_share => k_is); (case l__law_share => k_is); (case c__law_share => k_is); (case k__law_share => k_is); (case a__law_leads => k_is); (case l__law_leads => k_is)
    (case c__law_leads => k_is); (case k__law_leads => k_is); (case a__law_parts => k_is); (case l__law_parts => k_is); (case c__law_parts => k_is); (case k__law_parts => k_is)
    (case a__law_shares_right => k_is); (case l__law_shares_right => k_is); (case c__law_shares_right => k_is); (case k__law_shares_right => k_is); (case a_law => k_is); (case l_law => k_is)
    (case c_law => k_is); (case k_law => k_is); (case z_abs => k_is); (case z_all => k_is); (case z_any => k_is); (case z_bool => k_is)
    (case z_int => k_is); (case z_isinstance => k_is); (case z_len => k_is); (case z_list => k_is); (case z_max => k_is); (case z_range => k_is)
    (case z_sum => k_is); (case z_tuple => k_is); (case z_zip => k_is); (case y_FARTHEST => k_is); (case y_MOST_STICKS => k_is); (case y_ALL_OF_IT => k_is)
    (case yl_ALL_OF_IT => k_is); (case yz_ALL_OF_IT => decide); (case yv_ALL_OF_IT => exact (.cons ⟨_, rfl⟩ (.cons ⟨_, rfl⟩ .nil))); (case y_NONE_OF_IT => k_is); (case yl_NONE_OF_IT => k_is); (case yz_NONE_OF_IT => decide)
    (case yv_NONE_OF_IT => exact (.cons ⟨_, rfl⟩ (.cons ⟨_, rfl⟩ .nil)))

